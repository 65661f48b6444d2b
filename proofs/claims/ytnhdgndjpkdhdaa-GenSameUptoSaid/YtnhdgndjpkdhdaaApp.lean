/-
  append onto a row of the call's own, once more, telling besides in which block the new row lies: in the old one's, or in a new one.
-/
import Derived.Test.YtnhdgndjpkdhdaaMem
import Derived.OwnWalk
namespace Go.Proofs.Ytnhdgndjpkdhdaa
open Go.RowKit

section
variable {P : Program} (w : World)

theorem run_append_at (base : Nat) (t ty e : TypeId) (i : TypeInfo) (z : Value) (size bytes : Nat) (ht : P.underlying t = some (.slice e)) (hi : P.info? e = some i) (hz : i.zero = some z)
    (hsize : i.size = size) (hby : i.bytes = bytes) (hzs : z.cells.size = size) (hsz : 0 < size)
    (v : Value) (n : Nat) (xs : List Value) (hown : w.ownsRow base e size v n xs)
    (a : Addr) (m c : Nat) (news : List Value) (hl : news.length = m * size) (hnews : ∀ j u, news[j]? = some u → w.cell? (a.add j) = some u) (h1 : ∀ u ∈ news, u.oneCell' = true)
    (h63 : n + m ≤ maxLen) (hbytes : (n + m) * bytes ≤ 140737488355328) (hbase : base ≤ w.heap.size) (hm : 0 < m) :
    ∃ v' w', (Builtin.append_ #[t, t] ty #[v, .slice (some a) m c]).run P w = .ok v' w' ∧ w'.ownsRow base e size v' (n + m) (xs ++ news) ∧ w.grownBy w' v.ownBlock ∧
      (v'.ownBlock = v.ownBlock ∨ v'.ownBlock = some w.heap.size) := by
  obtain ⟨v', w', hr, h2, h3, h4⟩ := run_append_own (P := P) w base t ty e i z size bytes ht hi hz hsize hby hzs hsz v n xs hown a m c news hl hnews h1 h63 hbytes hbase
  refine ⟨v', w', hr, h2, h3, ?_⟩
  have hsmall : n + m ≤ 9223372036854775807 := by simp only [maxLen] at h63; omega
  subst hsize
  subst hby
  rcases hown.2 with ⟨rfl, rfl⟩ | ⟨g, cap, cur, rfl, hbg, hg, hnc, hcm, hcs, htake⟩
  · have hr' := run_append_nil (P := P) w t ty e i z ht hi hz a m c news hl hnews hm (by omega) (by have hb := hbytes; simp only [Nat.zero_add] at hb; omega)
    rw [hr] at hr'
    injection hr' with e1 e2
    subst e1
    exact .inr rfl
  · by_cases hroom : n + m ≤ cap
    · have hfit : n * i.size + news.length ≤ cur.size := by rw [hl, hcs, ← Nat.add_mul]; exact Nat.mul_le_mul_right _ hroom
      have hr' := run_append_room (P := P) w t ty e i ht hi g n cap cur hg a m c news hl hnews h1 hroom hfit
      rw [hr] at hr'
      injection hr' with e1 e2
      subst e1
      exact .inl rfl
    · have holds : ∀ j u, xs[j]? = some u → w.cell? ((⟨g, 0, none⟩ : Addr).add j) = some u := hown.cells (g := g) rfl
      have hr' := run_append_grow (P := P) w t ty e i z ht hi hz ⟨g, 0, none⟩ n cap xs hown.1 holds a m c news hl hnews (by omega) (by omega) (growslice_fits (by omega) hbytes)
      rw [hr] at hr'
      injection hr' with e1 e2
      subst e1
      exact .inr rfl

theorem wpList_append_at {ops : Array Oper} {rest : List Oper} {o : Oper} {a : Act} {Q : Exit → Act → World → Prop} (hgd : o.guard = none) (s x : Operand) (t : TypeId)
    (ho : o.op = .call { callee := .builtin .append, args := #[s, x], argTypes := #[t, t] })
    (base : Nat) (e : TypeId) (i : TypeInfo) (z : Value) (size bytes : Nat) (ht : P.underlying t = some (.slice e)) (hi : P.info? e = some i) (hz : i.zero = some z)
    (hsize : i.size = size) (hby : i.bytes = bytes) (hzs : z.cells.size = size) (hsz : 0 < size)
    (v : Value) (n : Nat) (xs : List Value) (hs : a.eval s = v) (hown : w.ownsRow base e size v n xs)
    (ad : Addr) (m c : Nat) (news : List Value) (hx : a.eval x = .slice (some ad) m c) (hl : news.length = m * size) (hnews : ∀ j u, news[j]? = some u → w.cell? (ad.add j) = some u) (h1 : ∀ u ∈ news, u.oneCell' = true)
    (h63 : n + m ≤ maxLen) (hbytes : (n + m) * bytes ≤ 140737488355328) (hbase : base ≤ w.heap.size) (hm : 0 < m)
    (h : ∀ v' w', w'.ownsRow base e size v' (n + m) (xs ++ news) → w.grownBy w' v.ownBlock → (v'.ownBlock = v.ownBlock ∨ v'.ownBlock = some w.heap.size) → wpList P ops Q rest (a.put o.dst v') w') : wpList P ops Q (o :: rest) a w := by
  refine wpList_plain hgd fun K hK => ?_
  obtain ⟨v', w', hr, h2, h3, h4⟩ := run_append_at (P := P) w base t o.type e i z size bytes ht hi hz hsize hby hzs hsz v n xs hown ad m c news hl hnews h1 h63 hbytes hbase hm
  unfold Oper.wp execOp
  simp only [ho, resolve, invoke, builtin, Sem.run_bind, Sem.run_pure, Result.andThen_ok, List.map_toArray, List.map_cons, List.map_nil, hs, hx, hr]
  exact hK _ _ (h v' w' h2 h3 h4)
end

theorem cell_two_new (w : World) (x y : Value) (t : TypeId) : ∀ j u, [x, y][j]? = some u → (w.alloc (.cells #[x, y] t)).cell? ((⟨w.heap.size, 0, none⟩ : Addr).add j) = some u := by
  intro j u hj
  match j, hj with
  | 0, hj => simp at hj; subst hj; simp [Addr.add]
  | 1, hj => simp at hj; subst hj; simp [Addr.add]
  | (j + 2), hj => simp at hj

/-- A one-cell variable in a block of its own. -/
def Box (w : World) (g : Nat) (t : TypeId) (v : Value) : Prop := w.heap[g]? = some (.cells #[v] t (0, 0))
theorem Box.cell {w : World} {g : Nat} {t : TypeId} {v : Value} (h : Box w g t v) : w.cell? ⟨g, 0, none⟩ = some v := by
  unfold Box at h; simp [World.cell?, h]
theorem Box.frozen {w : World} {g : Nat} {t : TypeId} {v : Value} (h : Box w g t v) : w.frozen? ⟨g, 0, none⟩ = false := by
  unfold Box at h; simp [World.frozen?, h]
theorem Box.lt {w : World} {g : Nat} {t : TypeId} {v : Value} (h : Box w g t v) : g < w.heap.size := by
  unfold Box at h
  exact (Array.getElem?_eq_some_iff.1 h).1
theorem Box.set {w : World} {g : Nat} {t : TypeId} {v : Value} (h : Box w g t v) (u : Value) : Box (w.setCell ⟨g, 0, none⟩ u) g t u := by
  unfold Box at h ⊢
  simp [World.setCell, Array.getElem?_modify, h]
theorem Box.keep {w w' : World} {g : Nat} {t : TypeId} {v : Value} {T : Nat → Prop} (h : Box w g t v) (k : Keeps T w w') (hg : ¬ T g) : Box w' g t v := (k.block g h.lt hg).trans h
theorem Box.alloc {w : World} {g : Nat} {t : TypeId} {v : Value} (h : Box w g t v) (o : Obj) : Box (w.alloc o) g t v := (Below.heap_alloc w o g h.lt).trans h
theorem Box.grown {w w' : World} {g : Nat} {t : TypeId} {v : Value} {row : Option Nat} (h : Box w g t v) (hg : w.grownBy w' row) (hr : row ≠ some g) : Box w' g t v := (hg.block g h.lt (fun e => hr e.symm)).trans h
theorem Box.far {w : World} {g : Nat} {t : TypeId} {v : Value} (h : Box w g t v) {p : Addr} (hp : g ≠ p.block) (u : Value) : Box (w.setCell p u) g t v := (Below.heap_setCell w p u g hp).trans h
theorem Box.drew {w : World} {g : Nat} {t : TypeId} {v : Value} (h : Box w g t v) : Box w.drew g t v := h
theorem Box.drewN {w : World} {g : Nat} {t : TypeId} {v : Value} (h : Box w g t v) (n : Nat) : Box (w.drewN n) g t v := h
theorem Box.new (w : World) (t : TypeId) (v : Value) : Box (w.alloc (.cells #[v] t)) w.heap.size t v := heap_alloc_new w _
theorem own_pos {w : World} {base : Nat} {e : TypeId} {size n : Nat} {v : Value} {xs : List Value} (h : w.ownsRow base e size v n xs) (hn : 0 < n) : ∃ g cap, v = .slice (some ⟨g, 0, none⟩) n cap ∧ n ≤ cap ∧ cap ≤ maxLen := by
  rcases h.2 with ⟨_, h0⟩ | ⟨g, cap, cur, hv, _, _, h1, h2, _⟩
  · omega
  · exact ⟨g, cap, hv, h1, h2⟩
theorem own_form {w : World} {base : Nat} {e : TypeId} {size n : Nat} {v : Value} {xs : List Value} (h : w.ownsRow base e size v n xs) : ∃ A cap, v = .slice A n cap ∧ n ≤ cap ∧ cap ≤ maxLen := by
  rcases h.2 with ⟨hv, h0⟩ | ⟨g, cap, cur, hv, _, _, h1, h2, _⟩
  · subst h0; exact ⟨none, 0, hv, Nat.le_refl _, Nat.zero_le _⟩
  · exact ⟨some ⟨g, 0, none⟩, cap, hv, h1, h2⟩
theorem own_far {w : World} {base : Nat} {e : TypeId} {size n : Nat} {v : Value} {xs : List Value} (h : w.ownsRow base e size v n xs) (p : Addr) (u : Value) (hp : v.ownBlock ≠ some p.block) : (w.setCell p u).ownsRow base e size v n xs :=
  Keeps.own ((Keeps.refl (fun k => k = p.block) w).setCell (p := p) (fun _ => rfl) u) h (fun k hk e => hp (by rw [hk, e]))
/-- A row cut at its end. -/
theorem own_cut {w : World} {base g c n k : Nat} {e : TypeId} {size : Nat} {xs ys : List Value} (h : w.ownsRow base e size (.slice (some ⟨g, 0, none⟩) (n + k) c) (n + k) xs) (hx : xs.take (n * size) = ys) (hl : ys.length = n * size) : w.ownsRow base e size (.slice (some ⟨g, 0, none⟩) n c) n ys := by
  rcases h.2 with ⟨h', _⟩ | ⟨g', cap', cur, h', hb, hg, hnc, hcm, hcs, htake⟩
  · simp at h'
  · simp only [Value.slice.injEq, Option.some.injEq, Addr.mk.injEq, and_true, true_and] at h'
    obtain ⟨rfl, rfl⟩ := h'
    refine ⟨hl, .inr ⟨g, c, cur, rfl, hb, hg, by omega, hcm, hcs, ?_⟩⟩
    rw [← hx, ← htake, List.take_take, Nat.min_eq_left (Nat.mul_le_mul_right _ (Nat.le_add_right _ _))]
theorem own_drewN {w : World} {base : Nat} {e : TypeId} {size n : Nat} {v : Value} {xs : List Value} (h : w.ownsRow base e size v n xs) (k : Nat) : (w.drewN k).ownsRow base e size v n xs := h
/-- A row and a variable of another type do not share a block. -/
theorem own_box_ne {w : World} {base : Nat} {e t : TypeId} {size n g : Nat} {v u : Value} {xs : List Value} (h : w.ownsRow base e size v n xs) (hg : Box w g t u) (hne : e ≠ t) : v.ownBlock ≠ some g := by
  intro hb
  rcases h.2 with ⟨rfl, _⟩ | ⟨g', cap, cur, rfl, _, hgg, _⟩
  · simp [Value.ownBlock] at hb
  · simp [Value.ownBlock] at hb
    subst hb
    unfold Box at hg
    rw [hgg] at hg
    injection hg with hg
    injection hg with _ ht
    exact hne ht

/-- What a method of the walk may have written: its variable, and its row. -/
def Own (g : Nat) (v : Value) (k : Nat) : Prop := k = g ∨ v.ownBlock = some k

/-- Where a row goes to: it stays in its block, or lies in a new one. -/
def Moves (w : World) (v v' : Value) : Prop := v'.ownBlock = v.ownBlock ∨ ∃ k, v'.ownBlock = some k ∧ w.heap.size ≤ k

def pushL {α : Type} (st : List (List α × Int)) : List α → Int → List (List α × Int)
  | [], _ => st
  | a :: r, d => st ++ [(a :: r, d)]

/-- What the methods of a walk may do, one behind the other. -/
structure Step (w w' : World) (g : Nat) (v v' : Value) : Prop where
  keeps : Keeps (Own g v) w w'
  moves : Moves w v v'
theorem Step.refl (w : World) (g : Nat) (v : Value) : Step w w g v v := ⟨Keeps.refl _ _, .inl rfl⟩
theorem Step.trans {a b c : World} {g : Nat} {v v' v'' : Value} (h : Step a b g v v') (k : Step b c g v' v'') : Step a c g v v'' := by
  refine ⟨h.keeps.trans' k.keeps (fun i hi e => ?_), ?_⟩
  · rcases e with e | e
    · exact .inl e
    · rcases h.moves with m | ⟨j, m, hj⟩
      · exact .inr (by rw [← m, e])
      · rw [e] at m
        injection m with m
        omega
  · have hs := h.keeps.size
    rcases k.moves with m | ⟨j, m, hj⟩
    · rcases h.moves with m' | ⟨j, m', hj⟩
      · exact .inl (m.trans m')
      · exact .inr ⟨j, m.trans m', hj⟩
    · exact .inr ⟨j, m, by omega⟩

def Ex.kind : Ex → Int | .mk k _ _ _ _ _ _ => k
def Ex.str : Ex → ByteArray | .mk _ s _ _ _ _ _ => s
def Ex.num : Ex → Int | .mk _ _ n _ _ _ _ => n
def Ex.args : Ex → List Ex | .mk _ _ _ a _ _ _ => a
def Ex.names : Ex → List ByteArray | .mk _ _ _ _ a _ _ => a
def Ex.types : Ex → List Ty | .mk _ _ _ _ _ a _ => a
def Ex.mems : Ex → List Mm | .mk _ _ _ _ _ _ a => a
def Mm.kind : Mm → Int | .mk k _ _ _ _ => k
def Mm.name : Mm → ByteArray | .mk _ s _ _ _ => s
def Mm.as' : Mm → ByteArray | .mk _ _ s _ _ => s
def Mm.args : Mm → List Ex | .mk _ _ _ a _ => a
def Mm.types : Mm → List Ty | .mk _ _ _ _ a => a
def Ty.kind : Ty → Int | .mk k _ _ _ _ => k
def Ty.str : Ty → ByteArray | .mk _ s _ _ _ => s
def Ty.args : Ty → List Ty | .mk _ _ a _ _ => a
def Ty.labels : Ty → List ByteArray | .mk _ _ _ a _ => a
def Ty.op : Ty → Bool | .mk _ _ _ _ a => a

/-- A tree that a pointer leads to. -/
def ExP (w : World) (S : Nat → Prop) (b o : Nat) (e : Ex) : Prop := S b ∧ ∃ v, CellsAt w b o v ∧ ExV w S e v
def TyP (w : World) (S : Nat → Prop) (b o : Nat) (e : Ty) : Prop := S b ∧ ∃ v, CellsAt w b o v ∧ TyV w S e v
def MmP (w : World) (S : Nat → Prop) (b o : Nat) (e : Mm) : Prop := S b ∧ ∃ v, CellsAt w b o v ∧ MmV w S e v

section
variable {w w' : World} {S S' : Nat → Prop} {b o : Nat}
theorem ExP.keep {e : Ex} (hS : ∀ k, S k → S' k ∧ w'.heap[k]? = w.heap[k]?) (h : ExP w S b o e) : ExP w' S' b o e := by
  obtain ⟨h1, v, h2, h3⟩ := h
  exact ⟨(hS b h1).1, v, h2.keep (hS b h1).2, ExV.keep hS _ _ h3⟩
theorem TyP.keep {e : Ty} (hS : ∀ k, S k → S' k ∧ w'.heap[k]? = w.heap[k]?) (h : TyP w S b o e) : TyP w' S' b o e := by
  obtain ⟨h1, v, h2, h3⟩ := h
  exact ⟨(hS b h1).1, v, h2.keep (hS b h1).2, TyV.keep hS _ _ h3⟩
theorem MmP.keep {e : Mm} (hS : ∀ k, S k → S' k ∧ w'.heap[k]? = w.heap[k]?) (h : MmP w S b o e) : MmP w' S' b o e := by
  obtain ⟨h1, v, h2, h3⟩ := h
  exact ⟨(hS b h1).1, v, h2.keep (hS b h1).2, MmV.keep hS _ _ h3⟩

theorem ExP.fields {e : Ex} (h : ExP w S b o e) : ∃ aA cA aN cN aT cT aM cM, w.cell? ⟨b, o, none⟩ = some (.int .i64 e.kind) ∧ w.cell? ⟨b, o + 1, none⟩ = some (.string e.str) ∧ w.cell? ⟨b, o + 2, none⟩ = some (.int .i64 e.num) ∧
    w.cell? ⟨b, o + 3, none⟩ = some (.slice aA e.args.length cA) ∧ w.cell? ⟨b, o + 4, none⟩ = some (.slice aN e.names.length cN) ∧ w.cell? ⟨b, o + 5, none⟩ = some (.slice aT e.types.length cT) ∧ w.cell? ⟨b, o + 6, none⟩ = some (.slice aM e.mems.length cM) ∧
    e.str.size ≤ maxLen ∧ e.args.length ≤ cA ∧ cA ≤ maxLen ∧ e.names.length ≤ cN ∧ cN ≤ maxLen ∧ e.types.length ≤ cT ∧ cT ≤ maxLen ∧ e.mems.length ≤ cM ∧ cM ≤ maxLen ∧
    ExsO w S e.args aA ∧ StrsO w S e.names aN ∧ TysO w S e.types aT ∧ MmsO w S e.mems aM := by
  obtain ⟨k, s, n, args, names, types, mems⟩ := e
  obtain ⟨_, v, hc, hv⟩ := h
  unfold ExV at hv
  obtain ⟨aA, cA, aN, cN, aT, cT, aM, cM, rfl, rest⟩ := hv
  exact ⟨aA, cA, aN, cN, aT, cT, aM, cM, hc 0 _ rfl, hc 1 _ rfl, hc 2 _ rfl, hc 3 _ rfl, hc 4 _ rfl, hc 5 _ rfl, hc 6 _ rfl, rest⟩
theorem TyP.fields {e : Ty} (h : TyP w S b o e) : ∃ aA cA aL cL, w.cell? ⟨b, o, none⟩ = some (.int .i64 e.kind) ∧ w.cell? ⟨b, o + 1, none⟩ = some (.string e.str) ∧
    w.cell? ⟨b, o + 2, none⟩ = some (.slice aA e.args.length cA) ∧ w.cell? ⟨b, o + 3, none⟩ = some (.slice aL e.labels.length cL) ∧ w.cell? ⟨b, o + 4, none⟩ = some (.bool e.op) ∧
    e.str.size ≤ maxLen ∧ e.args.length ≤ cA ∧ cA ≤ maxLen ∧ e.labels.length ≤ cL ∧ cL ≤ maxLen ∧ TysO w S e.args aA ∧ StrsO w S e.labels aL := by
  obtain ⟨k, s, args, labels, op⟩ := e
  obtain ⟨_, v, hc, hv⟩ := h
  unfold TyV at hv
  obtain ⟨aA, cA, aL, cL, rfl, rest⟩ := hv
  exact ⟨aA, cA, aL, cL, hc 0 _ rfl, hc 1 _ rfl, hc 2 _ rfl, hc 3 _ rfl, hc 4 _ rfl, rest⟩
theorem MmP.fields {e : Mm} (h : MmP w S b o e) : ∃ aA cA aT cT, w.cell? ⟨b, o, none⟩ = some (.int .i64 e.kind) ∧ w.cell? ⟨b, o + 1, none⟩ = some (.string e.name) ∧ w.cell? ⟨b, o + 2, none⟩ = some (.string e.as') ∧
    w.cell? ⟨b, o + 3, none⟩ = some (.slice aA e.args.length cA) ∧ w.cell? ⟨b, o + 4, none⟩ = some (.slice aT e.types.length cT) ∧
    e.name.size ≤ maxLen ∧ e.as'.size ≤ maxLen ∧ e.args.length ≤ cA ∧ cA ≤ maxLen ∧ e.types.length ≤ cT ∧ cT ≤ maxLen ∧ ExsO w S e.args aA ∧ TysO w S e.types aT := by
  obtain ⟨k, name, as', args, types⟩ := e
  obtain ⟨_, v, hc, hv⟩ := h
  unfold MmV at hv
  obtain ⟨aA, cA, aT, cT, rfl, rest⟩ := hv
  exact ⟨aA, cA, aT, cT, hc 0 _ rfl, hc 1 _ rfl, hc 2 _ rfl, hc 3 _ rfl, hc 4 _ rfl, rest⟩

theorem ExP.val {e : Ex} (h : ExP w S b o e) : ∃ aA cA aN cN aT cT aM cM, w.cell? ⟨b, o, none⟩ = some (.int .i64 e.kind) ∧ w.cell? ⟨b, o + 1, none⟩ = some (.string e.str) ∧ w.cell? ⟨b, o + 2, none⟩ = some (.int .i64 e.num) ∧
    w.cell? ⟨b, o + 3, none⟩ = some (.slice aA e.args.length cA) ∧ w.cell? ⟨b, o + 4, none⟩ = some (.slice aN e.names.length cN) ∧ w.cell? ⟨b, o + 5, none⟩ = some (.slice aT e.types.length cT) ∧ w.cell? ⟨b, o + 6, none⟩ = some (.slice aM e.mems.length cM) ∧
    ExV w S e (.agg #[.int .i64 e.kind, .string e.str, .int .i64 e.num, .slice aA e.args.length cA, .slice aN e.names.length cN, .slice aT e.types.length cT, .slice aM e.mems.length cM]) ∧
    e.mems.length ≤ cM ∧ cM ≤ maxLen ∧ MmsO w S e.mems aM := by
  obtain ⟨k, s, n, args, names, types, mems⟩ := e
  obtain ⟨_, v, hc, hv⟩ := h
  have hv' := hv
  unfold ExV at hv
  obtain ⟨aA, cA, aN, cN, aT, cT, aM, cM, rfl, h0, h1, h2, h3, h4, h5, h6, h7, h8, g1, g2, g3, g4⟩ := hv
  exact ⟨aA, cA, aN, cN, aT, cT, aM, cM, hc 0 _ rfl, hc 1 _ rfl, hc 2 _ rfl, hc 3 _ rfl, hc 4 _ rfl, hc 5 _ rfl, hc 6 _ rfl, hv', h7, h8, g4⟩
theorem TyP.val {e : Ty} (h : TyP w S b o e) : ∃ aA cA aL cL, w.cell? ⟨b, o, none⟩ = some (.int .i64 e.kind) ∧ w.cell? ⟨b, o + 1, none⟩ = some (.string e.str) ∧
    w.cell? ⟨b, o + 2, none⟩ = some (.slice aA e.args.length cA) ∧ w.cell? ⟨b, o + 3, none⟩ = some (.slice aL e.labels.length cL) ∧ w.cell? ⟨b, o + 4, none⟩ = some (.bool e.op) ∧
    TyV w S e (.agg #[.int .i64 e.kind, .string e.str, .slice aA e.args.length cA, .slice aL e.labels.length cL, .bool e.op]) := by
  obtain ⟨k, s, args, labels, op⟩ := e
  obtain ⟨_, v, hc, hv⟩ := h
  have hv' := hv
  unfold TyV at hv
  obtain ⟨aA, cA, aL, cL, rfl, rest⟩ := hv
  exact ⟨aA, cA, aL, cL, hc 0 _ rfl, hc 1 _ rfl, hc 2 _ rfl, hc 3 _ rfl, hc 4 _ rfl, hv'⟩
theorem MmP.val {e : Mm} (h : MmP w S b o e) : ∃ aA cA aT cT, w.cell? ⟨b, o, none⟩ = some (.int .i64 e.kind) ∧ w.cell? ⟨b, o + 1, none⟩ = some (.string e.name) ∧ w.cell? ⟨b, o + 2, none⟩ = some (.string e.as') ∧
    w.cell? ⟨b, o + 3, none⟩ = some (.slice aA e.args.length cA) ∧ w.cell? ⟨b, o + 4, none⟩ = some (.slice aT e.types.length cT) ∧
    MmV w S e (.agg #[.int .i64 e.kind, .string e.name, .string e.as', .slice aA e.args.length cA, .slice aT e.types.length cT]) := by
  obtain ⟨k, name, as', args, types⟩ := e
  obtain ⟨_, v, hc, hv⟩ := h
  have hv' := hv
  unfold MmV at hv
  obtain ⟨aA, cA, aT, cT, rfl, rest⟩ := hv
  exact ⟨aA, cA, aT, cT, hc 0 _ rfl, hc 1 _ rfl, hc 2 _ rfl, hc 3 _ rfl, hc 4 _ rfl, hv'⟩

theorem ExsO.get : ∀ (l : List Ex) (A : Option Addr), ExsO w S l A → ∀ i (hi : i < l.length), ∃ b o, A = some ⟨b, o, none⟩ ∧ ExP w S b (o + i * 7) l[i]
  | t :: r, A, h, i, hi => by
    unfold ExsO at h
    obtain ⟨b, o, v, hA, hb, hc, ht, hr⟩ := h
    refine ⟨b, o, hA, ?_⟩
    cases i with
    | zero => exact ⟨hb, v, by simpa using hc, ht⟩
    | succ j =>
      obtain ⟨b', o', e, hp⟩ := ExsO.get r _ hr j (by simpa using hi)
      simp only [Option.some.injEq, Addr.mk.injEq, and_true] at e
      obtain ⟨rfl, rfl⟩ := e
      have : o + 7 + j * 7 = o + (j + 1) * 7 := by omega
      rw [this] at hp
      exact hp
theorem TysO.get : ∀ (l : List Ty) (A : Option Addr), TysO w S l A → ∀ i (hi : i < l.length), ∃ b o, A = some ⟨b, o, none⟩ ∧ TyP w S b (o + i * 5) l[i]
  | t :: r, A, h, i, hi => by
    unfold TysO at h
    obtain ⟨b, o, v, hA, hb, hc, ht, hr⟩ := h
    refine ⟨b, o, hA, ?_⟩
    cases i with
    | zero => exact ⟨hb, v, by simpa using hc, ht⟩
    | succ j =>
      obtain ⟨b', o', e, hp⟩ := TysO.get r _ hr j (by simpa using hi)
      simp only [Option.some.injEq, Addr.mk.injEq, and_true] at e
      obtain ⟨rfl, rfl⟩ := e
      have : o + 5 + j * 5 = o + (j + 1) * 5 := by omega
      rw [this] at hp
      exact hp
theorem MmsO.get : ∀ (l : List Mm) (A : Option Addr), MmsO w S l A → ∀ i (hi : i < l.length), ∃ b o, A = some ⟨b, o, none⟩ ∧ MmP w S b (o + i * 5) l[i]
  | t :: r, A, h, i, hi => by
    unfold MmsO at h
    obtain ⟨b, o, v, hA, hb, hc, ht, hr⟩ := h
    refine ⟨b, o, hA, ?_⟩
    cases i with
    | zero => exact ⟨hb, v, by simpa using hc, ht⟩
    | succ j =>
      obtain ⟨b', o', e, hp⟩ := MmsO.get r _ hr j (by simpa using hi)
      simp only [Option.some.injEq, Addr.mk.injEq, and_true] at e
      obtain ⟨rfl, rfl⟩ := e
      have : o + 5 + j * 5 = o + (j + 1) * 5 := by omega
      rw [this] at hp
      exact hp
theorem StrsO.get : ∀ (l : List ByteArray) (A : Option Addr), StrsO w S l A → ∀ i (hi : i < l.length), ∃ b o, A = some ⟨b, o, none⟩ ∧ S b ∧ w.cell? ⟨b, o + i, none⟩ = some (.string l[i]) ∧ l[i].size ≤ maxLen
  | t :: r, A, h, i, hi => by
    unfold StrsO at h
    obtain ⟨b, o, hA, hb, hc, hl, hr⟩ := h
    refine ⟨b, o, hA, hb, ?_⟩
    cases i with
    | zero => exact ⟨by simpa using hc, hl⟩
    | succ j =>
      obtain ⟨b', o', e, _, hp⟩ := StrsO.get r _ hr j (by simpa using hi)
      simp only [Option.some.injEq, Addr.mk.injEq, and_true] at e
      obtain ⟨rfl, rfl⟩ := e
      have : o + 1 + j = o + (j + 1) := by omega
      rw [this] at hp
      exact hp
end

def pushMs (st : List (List Ex × Int)) (d : Int) : List Mm → List (List Ex × Int)
  | [] => st
  | m :: r => pushMs (pushL st m.args d) d r
def pushTs (st : List (List Ty × Int)) : List Mm → List (List Ty × Int)
  | [] => st
  | m :: r => pushTs (pushL st m.types 1) r
theorem pushMs_snoc (st : List (List Ex × Int)) (d : Int) (l : List Mm) (m : Mm) : pushMs st d (l ++ [m]) = pushL (pushMs st d l) m.args d := by
  induction l generalizing st with
  | nil => rfl
  | cons a r ih => simp [pushMs, ih]
theorem pushTs_snoc (st : List (List Ty × Int)) (l : List Mm) (m : Mm) : pushTs st (l ++ [m]) = pushL (pushTs st l) m.types 1 := by
  induction l generalizing st with
  | nil => rfl
  | cons a r ih => simp [pushTs, ih]
theorem pushL_length {α : Type} (st : List (List α × Int)) (l : List α) (d : Int) : (pushL st l d).length ≤ st.length + 1 := by
  cases l <;> simp [pushL]
theorem pushMs_length (st : List (List Ex × Int)) (d : Int) (l : List Mm) : (pushMs st d l).length ≤ st.length + l.length := by
  induction l generalizing st with
  | nil => simp [pushMs]
  | cons a r ih =>
    have h1 := ih (pushL st a.args d)
    have h2 := pushL_length st a.args d
    simp only [pushMs, List.length_cons]
    omega
theorem pushTs_length (st : List (List Ty × Int)) (l : List Mm) : (pushTs st l).length ≤ st.length + l.length := by
  induction l generalizing st with
  | nil => simp [pushTs]
  | cons a r ih =>
    have h1 := ih (pushL st a.types 1)
    have h2 := pushL_length st a.types 1
    simp only [pushTs, List.length_cons]
    omega

end Go.Proofs.Ytnhdgndjpkdhdaa

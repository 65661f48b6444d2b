/-
  All types of an expression, as a plain list; append of a whole list behind a row of the call's own; the row that trefoilref02.types makes. (The first facts are Cat's and Parts' own, set down again so that TreeChecks' claim stays under 60 files.)
-/
import Derived.Test.YthgbldkcgfggfaaRow
import Derived.Test.YthgbldkcgfggfaaOf14
import Derived.Test.YthgbldkcgfggfaaRType
namespace Go.Proofs.Ythgbldkcgfggfaa
open Go.RowKit

section
variable {P : Program} (w : World)
theorem run_append_none (t ty e : TypeId) (i : TypeInfo) (ht : P.underlying t = some (.slice e)) (hi : P.info? e = some i) (a : Addr) (n cap c : Nat) (hn : n ≤ cap) :
    (Builtin.append_ #[t, t] ty #[.slice (some a) n cap, .slice none 0 c]).run P w = .ok (.slice (some a) n cap) w := by
  simp [Builtin.append_, run_underlying ht, sizeOf, typeInfo, hi, Builtin.lenOf, Builtin.firstCells, storeCells, hn]

theorem run_append_at' (base : Nat) (t ty e : TypeId) (i : TypeInfo) (z : Value) (size bytes : Nat) (ht : P.underlying t = some (.slice e)) (hi : P.info? e = some i) (hz : i.zero = some z)
    (hsize : i.size = size) (hby : i.bytes = bytes) (hzs : z.cells.size = size) (hsz : 0 < size)
    (v : Value) (n : Nat) (xs : List Value) (hown : w.ownsRow base e size v n xs) (hv : v ≠ .slice none 0 0)
    (a : Addr) (m c : Nat) (news : List Value) (hl : news.length = m * size) (hnews : ∀ j u, news[j]? = some u → w.cell? (a.add j) = some u) (h1 : ∀ u ∈ news, u.oneCell' = true)
    (h63 : n + m ≤ maxLen) (hbytes : (n + m) * bytes ≤ 140737488355328) (hbase : base ≤ w.heap.size) :
    ∃ v' w', (Builtin.append_ #[t, t] ty #[v, .slice (some a) m c]).run P w = .ok v' w' ∧ w'.ownsRow base e size v' (n + m) (xs ++ news) ∧ w.grownBy w' v.ownBlock ∧
      (v'.ownBlock = v.ownBlock ∨ v'.ownBlock = some w.heap.size) := by
  obtain ⟨v', w', hr, h2, h3, h4⟩ := run_append_own (P := P) w base t ty e i z size bytes ht hi hz hsize hby hzs hsz v n xs hown a m c news hl hnews h1 h63 hbytes hbase
  refine ⟨v', w', hr, h2, h3, ?_⟩
  have hsmall : n + m ≤ 9223372036854775807 := by simp only [maxLen] at h63; omega
  subst hsize
  subst hby
  rcases hown.2 with ⟨rfl, rfl⟩ | ⟨g, cap, cur, rfl, hbg, hg, hnc, hcm, hcs, htake⟩
  · exact absurd rfl hv
  · by_cases hroom : n + m ≤ cap
    · have hfit : n * i.size + news.length ≤ cur.size := by rw [hl, hcs, ← Nat.add_mul]; exact Nat.mul_le_mul_right _ hroom
      have hr' := run_append_room (P := P) w t ty e i ht hi g n cap cur hg a m c news hl hnews h1 hroom hfit
      rw [hr] at hr'
      injection hr' with e1 e2
      subst e1
      exact .inl rfl
    · have holds : ∀ j u, xs[j]? = some u → w.cell? ((⟨g, 0, none⟩ : Addr).add j) = some u := hown.cells (g := g) rfl
      have hr' := run_append_grow (P := P) w t ty e i z ht hi hz ⟨g, 0, none⟩ n cap xs hown.1 holds a m c news hl hnews (by omega) (by omega) (growslice_fits (by omega) hbytes)
      rw [hr] at hr'
      injection hr' with e1 e2
      subst e1
      exact .inr rfl
end

/-- Where a list lies: nowhere, if it is empty; else cell by cell. -/
def LiesAt {α : Type} (T : Srt α) (w : World) (S : Nat → Prop) (l : List α) (A : Option Addr) : Prop :=
  A = none ∧ l = [] ∨ ∃ ad, A = some ad ∧ ∃ news, (∀ j u, news[j]? = some u → w.cell? (ad.add j) = some u) ∧ Items T w S l news

theorem add_plain' (b o j : Nat) : (⟨b, o, none⟩ : Addr).add j = ⟨b, o + j, none⟩ := by
  unfold Addr.add
  split
  · rename_i hj
    have hj : j = 0 := by simpa using hj
    subst hj
    rfl
  · rfl
theorem items_of_tys {w : World} {S : Nat → Prop} : ∀ (l : List Ty) (b o : Nat), TysO w S l (some ⟨b, o, none⟩) → ∃ xs, Items srtT w S l xs ∧ ∀ j u, xs[j]? = some u → w.cell? ⟨b, o + j, none⟩ = some u
  | [], _, _, _ => ⟨[], rfl, fun j u h => by simp at h⟩
  | e :: r, b, o, h => by
    unfold TysO at h
    obtain ⟨b', o', v, hA, hb, hc, hv, hr⟩ := h
    simp only [Option.some.injEq, Addr.mk.injEq, and_true] at hA
    obtain ⟨rfl, rfl⟩ := hA
    obtain ⟨xs, h1, h2⟩ := items_of_tys r b (o + 5) hr
    have hl : v.cells.toList.length = 5 := srtT.cells _ _ _ _ hv
    refine ⟨v.cells.toList ++ xs, ⟨v, xs, rfl, hv, h1⟩, fun j u hu => ?_⟩
    by_cases hj : j < 5
    · rw [List.getElem?_append_left (by omega)] at hu
      exact hc j u (by simpa using hu)
    · rw [List.getElem?_append_right (by omega), hl] at hu
      have := h2 (j - 5) u hu
      rwa [show o + 5 + (j - 5) = o + j by omega] at this
theorem lies_tys {w : World} {S : Nat → Prop} {l : List Ty} {A : Option Addr} (h : TysO w S l A) : LiesAt srtT w S l A := by
  cases l with
  | nil =>
    cases A with
    | none => exact .inl ⟨rfl, rfl⟩
    | some ad => exact .inr ⟨ad, rfl, [], fun j u h => by simp at h, rfl⟩
  | cons e r =>
    have h' := h
    unfold TysO at h'
    obtain ⟨b, o, h'⟩ := h'
    obtain rfl := h'.choose_spec.1
    obtain ⟨xs, h1, h2⟩ := items_of_tys _ _ _ h
    exact .inr ⟨_, rfl, xs, fun j u hu => by rw [add_plain']; exact h2 j u hu, h1⟩
theorem tsizes_get : ∀ (l : List Ex) (k : Nat) (h : k < l.length), l[k].tsize ≤ Ex.tsizes l
  | e :: r, 0, _ => by simp only [List.getElem_cons_zero, Ex.tsizes]; omega
  | e :: r, k + 1, h => by have := tsizes_get r k (by simpa using h); simp only [List.getElem_cons_succ, Ex.tsizes]; omega
theorem mtsizes_get : ∀ (l : List Mm) (k : Nat) (h : k < l.length), l[k].tsize ≤ Mm.tsizes l
  | e :: r, 0, _ => by simp only [List.getElem_cons_zero, Mm.tsizes]; omega
  | e :: r, k + 1, h => by have := mtsizes_get r k (by simpa using h); simp only [List.getElem_cons_succ, Mm.tsizes]; omega

theorem infoTy : (Try.prog.info? 42).map (fun i => (i.zero, i.size, i.bytes)) = some (some (.agg #[.int .i64 0, .string ⟨#[]⟩, .slice none 0 0, .slice none 0 0, .bool false]), 5, 80) := by kernel_rfl

mutual
def Ex.tys : Ex → List Ty
  | .mk _ _ _ args _ types mems => types ++ (Ex.tyss args ++ Mm.tyss mems)
def Ex.tyss : List Ex → List Ty
  | [] => []
  | e :: r => Ex.tys e ++ Ex.tyss r
def Mm.tyss : List Mm → List Ty
  | [] => []
  | m :: r => Mm.tys m ++ Mm.tyss r
def Mm.tys : Mm → List Ty
  | .mk _ _ _ args types => types ++ Ex.tyss args
end
theorem Mm.tys_eq (m : Mm) : m.tys = m.types ++ Ex.tyss m.args := by cases m; simp [Mm.tys, Mm.types, Mm.args]

theorem Ty.sizes_app (a b : List Ty) : Ty.sizes (a ++ b) = Ty.sizes a + Ty.sizes b := by
  induction a with
  | nil => simp [Ty.sizes]
  | cons x r ih => simp only [List.cons_append, Ty.sizes, ih]; omega
theorem Ty.deeps_app (a b : List Ty) : Ty.deeps (a ++ b) = max (Ty.deeps a) (Ty.deeps b) := by
  induction a with
  | nil => simp [Ty.deeps]
  | cons x r ih => simp only [List.cons_append, Ty.deeps, ih]; omega
theorem Ty.alls_app (p : Ty → Bool) (a b : List Ty) : Ty.alls p (a ++ b) = (Ty.alls p a && Ty.alls p b) := by
  induction a with
  | nil => simp [Ty.alls]
  | cons x r ih => simp only [List.cons_append, Ty.alls, ih, Bool.and_assoc]
theorem Ty.len_le (l : List Ty) : l.length ≤ Ty.sizes l := by
  induction l with
  | nil => simp
  | cons a r ih => simp only [List.length_cons, Ty.sizes]; rw [Ty.size_eq]; omega

mutual
theorem Ex.tys_size : ∀ e : Ex, Ty.sizes e.tys = e.tsize
  | .mk _ _ _ args _ types mems => by have := Ex.tyss_size args; have := Mm.tyss_size mems; simp only [Ex.tys, Ex.tsize, Ty.sizes_app]; omega
theorem Ex.tyss_size : ∀ l : List Ex, Ty.sizes (Ex.tyss l) = Ex.tsizes l
  | [] => by simp [Ex.tyss, Ex.tsizes, Ty.sizes]
  | e :: r => by have := Ex.tys_size e; have := Ex.tyss_size r; simp only [Ex.tyss, Ex.tsizes, Ty.sizes_app]; omega
theorem Mm.tyss_size : ∀ l : List Mm, Ty.sizes (Mm.tyss l) = Mm.tsizes l
  | [] => by simp [Mm.tyss, Mm.tsizes, Ty.sizes]
  | e :: r => by have := Mm.tys_size e; have := Mm.tyss_size r; simp only [Mm.tyss, Mm.tsizes, Ty.sizes_app]; omega
theorem Mm.tys_size : ∀ m : Mm, Ty.sizes m.tys = m.tsize
  | .mk _ _ _ args types => by have := Ex.tyss_size args; simp only [Mm.tys, Mm.tsize, Ty.sizes_app]; omega
end
mutual
theorem Ex.tys_deep : ∀ e : Ex, Ty.deeps e.tys = e.tdeep
  | .mk _ _ _ args _ types mems => by have := Ex.tyss_deep args; have := Mm.tyss_deep mems; simp only [Ex.tys, Ex.tdeep, Ty.deeps_app]; omega
theorem Ex.tyss_deep : ∀ l : List Ex, Ty.deeps (Ex.tyss l) = Ex.tdeeps l
  | [] => by simp [Ex.tyss, Ex.tdeeps, Ty.deeps]
  | e :: r => by have := Ex.tys_deep e; have := Ex.tyss_deep r; simp only [Ex.tyss, Ex.tdeeps, Ty.deeps_app]; omega
theorem Mm.tyss_deep : ∀ l : List Mm, Ty.deeps (Mm.tyss l) = Mm.tdeeps l
  | [] => by simp [Mm.tyss, Mm.tdeeps, Ty.deeps]
  | e :: r => by have := Mm.tys_deep e; have := Mm.tyss_deep r; simp only [Mm.tyss, Mm.tdeeps, Ty.deeps_app]; omega
theorem Mm.tys_deep : ∀ m : Mm, Ty.deeps m.tys = m.tdeep
  | .mk _ _ _ args types => by have := Ex.tyss_deep args; simp only [Mm.tys, Mm.tdeep, Ty.deeps_app]; omega
end
mutual
theorem Ex.tys_all (p : Ty → Bool) : ∀ e : Ex, Ty.alls p e.tys = e.tall p
  | .mk _ _ _ args _ types mems => by simp only [Ex.tys, Ex.tall, Ty.alls_app, Ex.tyss_all p args, Mm.tyss_all p mems]
theorem Ex.tyss_all (p : Ty → Bool) : ∀ l : List Ex, Ty.alls p (Ex.tyss l) = Ex.talls p l
  | [] => by simp [Ex.tyss, Ex.talls, Ty.alls]
  | e :: r => by simp only [Ex.tyss, Ex.talls, Ty.alls_app, Ex.tys_all p e, Ex.tyss_all p r]
theorem Mm.tyss_all (p : Ty → Bool) : ∀ l : List Mm, Ty.alls p (Mm.tyss l) = Mm.talls p l
  | [] => by simp [Mm.tyss, Mm.talls, Ty.alls]
  | e :: r => by simp only [Mm.tyss, Mm.talls, Ty.alls_app, Mm.tys_all p e, Mm.tyss_all p r]
theorem Mm.tys_all (p : Ty → Bool) : ∀ m : Mm, Ty.alls p m.tys = m.tall p
  | .mk _ _ _ args types => by simp only [Mm.tys, Mm.tall, Ty.alls_app, Ex.tyss_all p args]
end

theorem wpList_cat2 {α : Type} {T : Srt α} {base : Nat} {w : World} {S : Nat → Prop} {v : Value} {es ms : List α} {P : Program} {ops : Array Oper} {rest : List Oper} {o : Oper} {a : Act} {Q : Exit → Act → World → Prop} (hgd : o.guard = none) (s x : Operand) (ts e : TypeId)
    (ho : o.op = .call { callee := .builtin .append, args := #[s, x], argTypes := #[ts, ts] })
    (i : TypeInfo) (z : Value) (bytes : Nat) (ht : P.underlying ts = some (.slice e)) (hi : P.info? e = some i) (hz : i.zero = some z)
    (hsize : i.size = T.size) (hby : i.bytes = bytes) (hzs : z.cells.size = T.size)
    (hs : a.eval s = v) (hv : v ≠ .slice none 0 0) (h : RowG T e base w S v es)
    (A : Option Addr) (c : Nat) (hx : a.eval x = .slice A ms.length c) (hl : LiesAt T w S ms A)
    (h63 : es.length + ms.length ≤ 1000000) (hbt : bytes ≤ 1000) (hbase : base ≤ w.heap.size)
    (hK : ∀ v' w', RowG T e base w' S v' (es ++ ms) → Keeps (fun k => v.ownBlock = some k) w w' → (v'.ownBlock = v.ownBlock ∨ v'.ownBlock = some w.heap.size) → wpList P ops Q rest (a.put o.dst v') w') : wpList P ops Q (o :: rest) a w := by
  obtain ⟨xs, h1, h2⟩ := h.raw
  refine wpList_plain hgd fun K hK' => ?_
  rcases hl with ⟨rfl, rfl⟩ | ⟨ad, rfl, news, hc, hit⟩
  · rcases h1.2 with ⟨hn, _⟩ | ⟨g, cap, cur, hvv, hbg, hg, hnc, hcm, hcs, htake⟩
    · exact absurd hn hv
    · have hr := run_append_none (P := P) w ts o.type e i ht hi ⟨g, 0, none⟩ es.length cap c hnc
      rw [← hvv] at hr
      unfold Oper.wp execOp
      simp only [List.length_nil] at hx
      simp only [ho, resolve, invoke, builtin, Sem.run_bind, Sem.run_pure, Result.andThen_ok, List.map_toArray, List.map_cons, List.map_nil, hs, hx, hr]
      exact hK' _ _ (hK _ _ (by rw [List.append_nil]; exact h) (Keeps.refl _ _) (.inl rfl))
  · obtain ⟨v', w', hr, g2, g3, g4⟩ := run_append_at' (P := P) w base ts o.type e i z T.size bytes ht hi hz hsize hby hzs T.pos v es.length xs h1 hv ad ms.length c news (Items.length T _ _ hit) hc (Items.flat T _ _ hit) (by unfold maxLen; omega) (Nat.le_trans (Nat.mul_le_mul h63 hbt) (by decide)) hbase
    unfold Oper.wp execOp
    simp only [ho, resolve, invoke, builtin, Sem.run_bind, Sem.run_pure, Result.andThen_ok, List.map_toArray, List.map_cons, List.map_nil, hs, hx, hr]
    exact hK' _ _ (hK _ _ (h.grow hit h2 g2 g3 g4) (Keeps.of_grown g3) g4)

/-- The row of types so far: the call's own; what its types lead to is old (S) or new, and no block of the row's. -/
structure TRow (w w1 wr : World) (S : Nat → Prop) (s : Value) (es : List Ty) : Prop where
  row : RowG srtT 42 w1.heap.size wr (fun k => (S k ∨ w.heap.size ≤ k ∧ k < wr.heap.size) ∧ s.ownBlock ≠ some k) s es
  own : ∃ g, s.ownBlock = some g
  bel : Below w1.heap.size w1 wr

section
variable {w w1 wr W : World} {S : Nat → Prop} {s v' : Value} {es ms : List Ty}
theorem TRow.ne (h : TRow w w1 wr S s es) : s ≠ .slice none 0 0 := by
  rintro rfl
  obtain ⟨g, hg⟩ := h.own
  cases hg
theorem TRow.later (h : TRow w w1 wr S s es) (hw : w.heap.size ≤ w1.heap.size) (hS : ∀ k, S k → k < w.heap.size) (hb : Below wr.heap.size wr W) : TRow w w1 W S s es := by
  have h1 := h.bel.size
  have h2 := hb.size
  refine ⟨(h.row.keep (F := fun _ => False) (Keeps.of_below0 hb) (fun _ e => e.elim)).wide (fun k hk => ⟨hk.1.imp id (fun x => ⟨x.1, by have := x.2; omega⟩), hk.2⟩) (fun k hk => ⟨?_, hk.2⟩), h.own, h.bel.trans (hb.mono h1)⟩
  rcases hk.1 with h3 | h3
  · have := hS k h3; omega
  · exact h3.2
theorem TRow.cat (h : TRow w w1 wr S s es) (hw : w.heap.size ≤ w1.heap.size) (hS : ∀ k, S k → k < w.heap.size)
    (hr : RowG srtT 42 w1.heap.size W (fun k => (S k ∨ w.heap.size ≤ k ∧ k < wr.heap.size) ∧ s.ownBlock ≠ some k) v' (es ++ ms)) (hk : Keeps (fun k => s.ownBlock = some k) wr W) (hb : v'.ownBlock = s.ownBlock ∨ v'.ownBlock = some wr.heap.size) : TRow w w1 W S v' (es ++ ms) := by
  have h1 := h.bel.size
  have h2 := hk.size
  refine ⟨hr.wide (fun k hk => ⟨hk.1.imp id (fun x => ⟨x.1, by have := x.2; omega⟩), ?_⟩) (fun k hk => ⟨?_, hk.2⟩), ?_, h.bel.trans (hk.below h1 (fun i hi e => by have := (h.row.block e).1; omega))⟩
  · rcases hb with hb | hb
    · rw [hb]; exact hk.2
    · rw [hb]
      intro e
      injection e with e
      rcases hk.1 with h3 | h3
      · have := hS k h3; omega
      · omega
  · rcases hk.1 with h3 | h3
    · have := hS k h3; omega
    · exact h3.2
  · rcases hb with hb | hb
    · rw [hb]; exact h.own
    · exact ⟨_, hb⟩
theorem TRow.lies {B : Nat} {A : Option Addr} (h : TRow w w1 wr S s es) (hw : w.heap.size ≤ w1.heap.size) (hS : ∀ k, S k → k < w.heap.size) (hB : wr.heap.size ≤ B) (hm : TysO W (fun k => S k ∨ B ≤ k ∧ k < W.heap.size) ms A) :
    LiesAt srtT W (fun k => (S k ∨ w.heap.size ≤ k ∧ k < W.heap.size) ∧ s.ownBlock ≠ some k) ms A := by
  have h1 := h.bel.size
  refine lies_tys (TysO.keep (fun k hk => ⟨⟨hk.imp id (fun x => ⟨by omega, x.2⟩), fun e => ?_⟩, rfl⟩) _ _ hm)
  have h2 := h.row.block e
  rcases hk with h3 | h3
  · have := hS k h3; omega
  · omega
theorem TRow.out (h : TRow w w1 wr S s es) (hw : w.heap.size ≤ w1.heap.size) : ∃ A c, s = .slice A es.length c ∧ es.length ≤ c ∧ c ≤ maxLen ∧ TysO wr (fun k => S k ∨ w.heap.size ≤ k ∧ k < wr.heap.size) es A :=
  h.row.tys (fun _ hk => hk.1) (fun _ h1 h2 => .inr ⟨by omega, h2⟩)
end
theorem mm5 {w : World} {S : Nat → Prop} {s : Mm} {xA xT : Option Addr} {yA yT : Nat} (h : MmV w S s (.agg #[.int .i64 s.kind, .string s.name, .string s.as', .slice xA s.args.length yA, .slice xT s.types.length yT])) :
    s.args.length ≤ yA ∧ yA ≤ maxLen ∧ s.types.length ≤ yT ∧ yT ≤ maxLen ∧ ExsO w S s.args xA ∧ TysO w S s.types xT := by
  cases s
  unfold MmV at h
  obtain ⟨a1, a2, a3, a4, e, h⟩ := h
  simp only [Mm.kind, Mm.name, Mm.as', Mm.args, Mm.types] at e ⊢
  simp only [Value.agg.injEq, Array.mk.injEq, List.cons.injEq, Value.slice.injEq] at e
  obtain ⟨_, _, _, ⟨rfl, _, rfl⟩, ⟨rfl, _, rfl⟩, _⟩ := e
  exact ⟨h.2.2.1, h.2.2.2.1, h.2.2.2.2.1, h.2.2.2.2.2.1, h.2.2.2.2.2.2.1, h.2.2.2.2.2.2.2⟩
theorem tyss_drop (l : List Ex) (k : Nat) (h : k < l.length) : Ex.tyss (l.drop k) = l[k].tys ++ Ex.tyss (l.drop (k + 1)) := by rw [List.drop_eq_getElem_cons h]; simp [Ex.tyss]
theorem mtyss_drop (l : List Mm) (k : Nat) (h : k < l.length) : Mm.tyss (l.drop k) = l[k].tys ++ Mm.tyss (l.drop (k + 1)) := by rw [List.drop_eq_getElem_cons h]; simp [Mm.tyss]

end Go.Proofs.Ythgbldkcgfggfaa

/-
  append of a whole list behind an empty row of the call's own, one that has a block.
-/
import Derived.Test.YthgbldkcgfggfaaApart
namespace Go.Proofs.Ythgbldkcgfggfaa
open Go.RowKit

section
variable {P : Program} (w : World)
theorem run_append_none (t ty e : TypeId) (i : TypeInfo) (ht : P.underlying t = some (.slice e)) (hi : P.info? e = some i) (a : Addr) (n cap c : Nat) (hn : n ≤ cap) :
    (Builtin.append_ #[t, t] ty #[.slice (some a) n cap, .slice none 0 c]).run P w = .ok (.slice (some a) n cap) w := by
  simp [Builtin.append_, run_underlying ht, sizeOf, typeInfo, hi, Builtin.lenOf, Builtin.firstCells, storeCells, hn]

theorem run_append_at' (base : Nat) (t ty e : TypeId) (i : TypeInfo) (z : Value) (size bytes : Nat) (ht : P.underlying t = some (.slice e)) (hi : P.info? e = some i) (hz : i.zero = some z)
    (hsize : i.size = size) (hby : i.bytes = bytes) (hzs : z.cells.size = size) (hsz : 0 < size)
    (v : Value) (n : Nat) (xs : List Value) (hown : w.ownsRow base e size v n xs) (hv : v ≠ .slice none 0 0)
    (a : Addr) (m c : Nat) (news : List Value) (hl : news.length = m * size) (hnews : ∀ j u, news[j]? = some u → w.cell? (a.add j) = some u) (h1 : ∀ u ∈ news, u.oneCell' = true)
    (h63 : n + m ≤ maxLen) (hbytes : (n + m) * bytes ≤ 140737488355328) (hbase : base ≤ w.heap.size) :
    ∃ v' w', (Builtin.append_ #[t, t] ty #[v, .slice (some a) m c]).run P w = .ok v' w' ∧ w'.ownsRow base e size v' (n + m) (xs ++ news) ∧ w.grownBy w' v.ownBlock ∧
      (v'.ownBlock = v.ownBlock ∨ v'.ownBlock = some w.heap.size) := by
  obtain ⟨v', w', hr, h2, h3, h4⟩ := run_append_own (P := P) w base t ty e i z size bytes ht hi hz hsize hby hzs hsz v n xs hown a m c news hl hnews h1 h63 hbytes hbase
  refine ⟨v', w', hr, h2, h3, ?_⟩
  have hsmall : n + m ≤ 9223372036854775807 := by simp only [maxLen] at h63; omega
  subst hsize
  subst hby
  rcases hown.2 with ⟨rfl, rfl⟩ | ⟨g, cap, cur, rfl, hbg, hg, hnc, hcm, hcs, htake⟩
  · exact absurd rfl hv
  · by_cases hroom : n + m ≤ cap
    · have hfit : n * i.size + news.length ≤ cur.size := by rw [hl, hcs, ← Nat.add_mul]; exact Nat.mul_le_mul_right _ hroom
      have hr' := run_append_room (P := P) w t ty e i ht hi g n cap cur hg a m c news hl hnews h1 hroom hfit
      rw [hr] at hr'
      injection hr' with e1 e2
      subst e1
      exact .inl rfl
    · have holds : ∀ j u, xs[j]? = some u → w.cell? ((⟨g, 0, none⟩ : Addr).add j) = some u := hown.cells (g := g) rfl
      have hr' := run_append_grow (P := P) w t ty e i z ht hi hz ⟨g, 0, none⟩ n cap xs hown.1 holds a m c news hl hnews (by omega) (by omega) (growslice_fits (by omega) hbytes)
      rw [hr] at hr'
      injection hr' with e1 e2
      subst e1
      exact .inr rfl
end

/-- Where a list lies: nowhere, if it is empty; else cell by cell. -/
def LiesAt {α : Type} (T : Srt α) (w : World) (S : Nat → Prop) (l : List α) (A : Option Addr) : Prop :=
  A = none ∧ l = [] ∨ ∃ ad, A = some ad ∧ ∃ news, (∀ j u, news[j]? = some u → w.cell? (ad.add j) = some u) ∧ Items T w S l news

theorem wpList_cat {α : Type} {T : Srt α} {base : Nat} {w : World} {S : Nat → Prop} {v : Value} {ms : List α} {P : Program} {ops : Array Oper} {rest : List Oper} {o : Oper} {a : Act} {Q : Exit → Act → World → Prop} (hgd : o.guard = none) (s x : Operand) (ts e : TypeId)
    (ho : o.op = .call { callee := .builtin .append, args := #[s, x], argTypes := #[ts, ts] })
    (i : TypeInfo) (z : Value) (bytes : Nat) (ht : P.underlying ts = some (.slice e)) (hi : P.info? e = some i) (hz : i.zero = some z)
    (hsize : i.size = T.size) (hby : i.bytes = bytes) (hzs : z.cells.size = T.size) (g : Nat)
    (hs : a.eval s = .slice (some ⟨g, 0, none⟩) 0 0) (hv : v = .slice (some ⟨g, 0, none⟩) 0 0) (h : RowG T e base w S v [])
    (A : Option Addr) (c : Nat) (hx : a.eval x = .slice A ms.length c) (hl : LiesAt T w S ms A)
    (h63 : ms.length ≤ 1000000) (hbt : bytes ≤ 1000) (hbase : base ≤ w.heap.size)
    (hK : ∀ v' w', RowG T e base w' S v' ms → Keeps (fun k => v.ownBlock = some k) w w' → (v'.ownBlock = v.ownBlock ∨ v'.ownBlock = some w.heap.size) → wpList P ops Q rest (a.put o.dst v') w') : wpList P ops Q (o :: rest) a w := by
  subst hv
  obtain ⟨xs, h1, h2⟩ := h.raw
  have hxs : xs = [] := h2
  subst hxs
  refine wpList_plain hgd fun K hK' => ?_
  rcases hl with ⟨rfl, rfl⟩ | ⟨ad, rfl, news, hc, hit⟩
  · have hr := run_append_none (P := P) w ts o.type e i ht hi ⟨g, 0, none⟩ 0 0 c (Nat.le_refl _)
    unfold Oper.wp execOp
    simp only [List.length_nil] at hx
    simp only [ho, resolve, invoke, builtin, Sem.run_bind, Sem.run_pure, Result.andThen_ok, List.map_toArray, List.map_cons, List.map_nil, hs, hx, hr]
    exact hK' _ _ (hK _ _ h (Keeps.refl _ _) (.inl rfl))
  · obtain ⟨v', w', hr, g2, g3, g4⟩ := run_append_at' (P := P) w base ts o.type e i z T.size bytes ht hi hz hsize hby hzs T.pos _ 0 [] h1 (by simp) ad ms.length c news (Items.length T _ _ hit) hc (Items.flat T _ _ hit) (by unfold maxLen; omega) (Nat.le_trans (Nat.mul_le_mul (by omega : 0 + ms.length ≤ 1000000) hbt) (by decide)) hbase
    unfold Oper.wp execOp
    simp only [ho, resolve, invoke, builtin, Sem.run_bind, Sem.run_pure, Result.andThen_ok, List.map_toArray, List.map_cons, List.map_nil, hs, hx, hr]
    have hg := h.grow hit h2 (by simpa using g2) g3 g4
    rw [List.nil_append] at hg
    exact hK' _ _ (hK _ _ hg (Keeps.of_grown g3) g4)

theorem add_plain' (b o j : Nat) : (⟨b, o, none⟩ : Addr).add j = ⟨b, o + j, none⟩ := by
  unfold Addr.add
  split
  · rename_i hj
    have hj : j = 0 := by simpa using hj
    subst hj
    rfl
  · rfl
theorem lies_exs {w : World} {S : Nat → Prop} {l : List Ex} {A : Option Addr} (h : ExsO w S l A) : LiesAt srtE w S l A := by
  cases l with
  | nil =>
    cases A with
    | none => exact .inl ⟨rfl, rfl⟩
    | some ad => exact .inr ⟨ad, rfl, [], fun j u h => by simp at h, rfl⟩
  | cons e r =>
    have h' := h
    unfold ExsO at h'
    obtain ⟨b, o, v, rfl, _⟩ := h'
    obtain ⟨xs, h1, h2⟩ := items_of_exs _ _ _ h
    exact .inr ⟨_, rfl, xs, fun j u hu => by rw [add_plain']; exact h2 j u hu, h1⟩

theorem items_of_mms {w : World} {S : Nat → Prop} : ∀ (l : List Mm) (b o : Nat), MmsO w S l (some ⟨b, o, none⟩) → ∃ xs, Items srtM w S l xs ∧ ∀ j u, xs[j]? = some u → w.cell? ⟨b, o + j, none⟩ = some u
  | [], _, _, _ => ⟨[], rfl, fun j u h => by simp at h⟩
  | e :: r, b, o, h => by
    unfold MmsO at h
    obtain ⟨b', o', v, hA, hb, hc, hv, hr⟩ := h
    simp only [Option.some.injEq, Addr.mk.injEq, and_true] at hA
    obtain ⟨rfl, rfl⟩ := hA
    obtain ⟨xs, h1, h2⟩ := items_of_mms r b (o + 5) hr
    have hl : v.cells.toList.length = 5 := srtM.cells _ _ _ _ hv
    refine ⟨v.cells.toList ++ xs, ⟨v, xs, rfl, hv, h1⟩, fun j u hu => ?_⟩
    by_cases hj : j < 5
    · rw [List.getElem?_append_left (by omega)] at hu
      exact hc j u (by simpa using hu)
    · rw [List.getElem?_append_right (by omega), hl] at hu
      have := h2 (j - 5) u hu
      rwa [show o + 5 + (j - 5) = o + j by omega] at this
theorem items_of_tys {w : World} {S : Nat → Prop} : ∀ (l : List Ty) (b o : Nat), TysO w S l (some ⟨b, o, none⟩) → ∃ xs, Items srtT w S l xs ∧ ∀ j u, xs[j]? = some u → w.cell? ⟨b, o + j, none⟩ = some u
  | [], _, _, _ => ⟨[], rfl, fun j u h => by simp at h⟩
  | e :: r, b, o, h => by
    unfold TysO at h
    obtain ⟨b', o', v, hA, hb, hc, hv, hr⟩ := h
    simp only [Option.some.injEq, Addr.mk.injEq, and_true] at hA
    obtain ⟨rfl, rfl⟩ := hA
    obtain ⟨xs, h1, h2⟩ := items_of_tys r b (o + 5) hr
    have hl : v.cells.toList.length = 5 := srtT.cells _ _ _ _ hv
    refine ⟨v.cells.toList ++ xs, ⟨v, xs, rfl, hv, h1⟩, fun j u hu => ?_⟩
    by_cases hj : j < 5
    · rw [List.getElem?_append_left (by omega)] at hu
      exact hc j u (by simpa using hu)
    · rw [List.getElem?_append_right (by omega), hl] at hu
      have := h2 (j - 5) u hu
      rwa [show o + 5 + (j - 5) = o + j by omega] at this
theorem items_of_strs {w : World} {S : Nat → Prop} : ∀ (l : List ByteArray) (b o : Nat), StrsO w S l (some ⟨b, o, none⟩) → ∃ xs, Items srtS w S l xs ∧ ∀ j u, xs[j]? = some u → w.cell? ⟨b, o + j, none⟩ = some u
  | [], _, _, _ => ⟨[], rfl, fun j u h => by simp at h⟩
  | e :: r, b, o, h => by
    unfold StrsO at h
    obtain ⟨b', o', hA, hb, hc, hv, hr⟩ := h
    simp only [Option.some.injEq, Addr.mk.injEq, and_true] at hA
    obtain ⟨rfl, rfl⟩ := hA
    obtain ⟨xs, h1, h2⟩ := items_of_strs r b (o + 1) hr
    refine ⟨.string e :: xs, ⟨.string e, xs, rfl, ⟨rfl, hv⟩, h1⟩, fun j u hu => ?_⟩
    cases j with
    | zero => simp at hu; subst hu; exact hc
    | succ j =>
      have := h2 j u (by simpa using hu)
      rwa [show o + 1 + j = o + (j + 1) by omega] at this
theorem lies_strs {w : World} {S : Nat → Prop} {l : List ByteArray} {A : Option Addr} (h : StrsO w S l A) : LiesAt srtS w S l A := by
  cases l with
  | nil =>
    cases A with
    | none => exact .inl ⟨rfl, rfl⟩
    | some ad => exact .inr ⟨ad, rfl, [], fun j u h => by simp at h, rfl⟩
  | cons e r =>
    have h' := h
    unfold StrsO at h'
    obtain ⟨b, o, h'⟩ := h'
    obtain rfl := h'.1
    obtain ⟨xs, h1, h2⟩ := items_of_strs _ _ _ h
    exact .inr ⟨_, rfl, xs, fun j u hu => by rw [add_plain']; exact h2 j u hu, h1⟩
theorem lies_tys {w : World} {S : Nat → Prop} {l : List Ty} {A : Option Addr} (h : TysO w S l A) : LiesAt srtT w S l A := by
  cases l with
  | nil =>
    cases A with
    | none => exact .inl ⟨rfl, rfl⟩
    | some ad => exact .inr ⟨ad, rfl, [], fun j u h => by simp at h, rfl⟩
  | cons e r =>
    have h' := h
    unfold TysO at h'
    obtain ⟨b, o, h'⟩ := h'
    obtain rfl := h'.choose_spec.1
    obtain ⟨xs, h1, h2⟩ := items_of_tys _ _ _ h
    exact .inr ⟨_, rfl, xs, fun j u hu => by rw [add_plain']; exact h2 j u hu, h1⟩
theorem lies_mms {w : World} {S : Nat → Prop} {l : List Mm} {A : Option Addr} (h : MmsO w S l A) : LiesAt srtM w S l A := by
  cases l with
  | nil =>
    cases A with
    | none => exact .inl ⟨rfl, rfl⟩
    | some ad => exact .inr ⟨ad, rfl, [], fun j u h => by simp at h, rfl⟩
  | cons e r =>
    have h' := h
    unfold MmsO at h'
    obtain ⟨b, o, h'⟩ := h'
    obtain rfl := h'.choose_spec.1
    obtain ⟨xs, h1, h2⟩ := items_of_mms _ _ _ h
    exact .inr ⟨_, rfl, xs, fun j u hu => by rw [add_plain']; exact h2 j u hu, h1⟩
theorem ExV.full {w : World} {S : Nat → Prop} {x : Ex} {ka na : Int} {sa : ByteArray} {aA aN aT aM : Option Addr} {nA cA nN cN nT cT nM cM : Nat} (h : ExV w S x (.agg #[.int .i64 ka, .string sa, .int .i64 na, .slice aA nA cA, .slice aN nN cN, .slice aT nT cT, .slice aM nM cM])) :
    (nA = x.args.length ∧ nN = x.names.length ∧ nT = x.types.length ∧ nM = x.mems.length) ∧ LiesAt srtE w S x.args aA ∧ LiesAt srtS w S x.names aN ∧ LiesAt srtT w S x.types aT ∧ LiesAt srtM w S x.mems aM := by
  cases x
  unfold ExV at h
  obtain ⟨bA, dA, bN, dN, bT, dT, bM, dM, e, h0, h1, h2, h3, h4, h5, h6, h7, h8, g1, g2, g3, g4⟩ := h
  simp only [Value.agg.injEq, Array.mk.injEq, List.cons.injEq, Value.slice.injEq, and_true] at e
  obtain ⟨_, _, _, ⟨rfl, rfl, rfl⟩, ⟨rfl, rfl, rfl⟩, ⟨rfl, rfl, rfl⟩, ⟨rfl, rfl, rfl⟩⟩ := e
  exact ⟨⟨rfl, rfl, rfl, rfl⟩, lies_exs g1, lies_strs g2, lies_tys g3, lies_mms g4⟩
theorem LiesAt.keep {α : Type} {T : Srt α} {w w' : World} {S S' : Nat → Prop} {l : List α} {A : Option Addr} (hS : ∀ k, S k → S' k ∧ w'.heap[k]? = w.heap[k]?) (hA : ∀ ad, A = some ad → l = [] ∨ w'.heap[ad.block]? = w.heap[ad.block]?) (h : LiesAt T w S l A) : LiesAt T w' S' l A := by
  rcases h with h | ⟨ad, rfl, news, h1, h2⟩
  · exact .inl h
  · rcases hA ad rfl with rfl | hb
    · exact .inr ⟨ad, rfl, [], fun j u h => by simp at h, rfl⟩
    · exact .inr ⟨ad, rfl, news, fun j u hu => (World.cell?_of_block (a := ad.add j) (by simpa [Addr.add] using (by unfold Addr.add; split <;> exact hb : w'.heap[(ad.add j).block]? = w.heap[(ad.add j).block]?))).trans (h1 j u hu), Items.keep T hS _ _ h2⟩
theorem ExV.put_args {w : World} {S : Nat → Prop} {x : Ex} {ka na : Int} {sa : ByteArray} {aA aN aT aM A' : Option Addr} {cA cN cT cM c' : Nat} (h : ExV w S x (.agg #[.int .i64 ka, .string sa, .int .i64 na, .slice aA x.args.length cA, .slice aN x.names.length cN, .slice aT x.types.length cT, .slice aM x.mems.length cM])) (l' : List Ex) (h1' : l'.length ≤ c') (h2' : c' ≤ maxLen) (ho : ExsO w S l' A') :
    ExV w S (.mk x.kind x.str x.num l' x.names x.types x.mems) (.agg #[.int .i64 ka, .string sa, .int .i64 na, .slice A' l'.length c', .slice aN x.names.length cN, .slice aT x.types.length cT, .slice aM x.mems.length cM]) := by
  cases x
  unfold ExV at h ⊢
  obtain ⟨bA, dA, bN, dN, bT, dT, bM, dM, e, h0, h1, h2, h3, h4, h5, h6, h7, h8, g1, g2, g3, g4⟩ := h
  simp only [Value.agg.injEq, Array.mk.injEq, List.cons.injEq, Value.slice.injEq, Value.int.injEq, Value.string.injEq, true_and, and_true] at e
  obtain ⟨rfl, rfl, rfl, ⟨rfl, _, rfl⟩, ⟨rfl, _, rfl⟩, ⟨rfl, _, rfl⟩, ⟨rfl, _, rfl⟩⟩ := e
  exact ⟨_, _, _, _, _, _, _, _, rfl, h0, h1', h2', h3, h4, h5, h6, h7, h8, ho, g2, g3, g4⟩
theorem ExV.put_names {w : World} {S : Nat → Prop} {x : Ex} {ka na : Int} {sa : ByteArray} {aA aN aT aM A' : Option Addr} {cA cN cT cM c' : Nat} (h : ExV w S x (.agg #[.int .i64 ka, .string sa, .int .i64 na, .slice aA x.args.length cA, .slice aN x.names.length cN, .slice aT x.types.length cT, .slice aM x.mems.length cM])) (l' : List ByteArray) (h1' : l'.length ≤ c') (h2' : c' ≤ maxLen) (ho : StrsO w S l' A') :
    ExV w S (.mk x.kind x.str x.num x.args l' x.types x.mems) (.agg #[.int .i64 ka, .string sa, .int .i64 na, .slice aA x.args.length cA, .slice A' l'.length c', .slice aT x.types.length cT, .slice aM x.mems.length cM]) := by
  cases x
  unfold ExV at h ⊢
  obtain ⟨bA, dA, bN, dN, bT, dT, bM, dM, e, h0, h1, h2, h3, h4, h5, h6, h7, h8, g1, g2, g3, g4⟩ := h
  simp only [Value.agg.injEq, Array.mk.injEq, List.cons.injEq, Value.slice.injEq, Value.int.injEq, Value.string.injEq, true_and, and_true] at e
  obtain ⟨rfl, rfl, rfl, ⟨rfl, _, rfl⟩, ⟨rfl, _, rfl⟩, ⟨rfl, _, rfl⟩, ⟨rfl, _, rfl⟩⟩ := e
  exact ⟨_, _, _, _, _, _, _, _, rfl, h0, h1, h2, h1', h2', h5, h6, h7, h8, g1, ho, g3, g4⟩
theorem ExV.put_types {w : World} {S : Nat → Prop} {x : Ex} {ka na : Int} {sa : ByteArray} {aA aN aT aM A' : Option Addr} {cA cN cT cM c' : Nat} (h : ExV w S x (.agg #[.int .i64 ka, .string sa, .int .i64 na, .slice aA x.args.length cA, .slice aN x.names.length cN, .slice aT x.types.length cT, .slice aM x.mems.length cM])) (l' : List Ty) (h1' : l'.length ≤ c') (h2' : c' ≤ maxLen) (ho : TysO w S l' A') :
    ExV w S (.mk x.kind x.str x.num x.args x.names l' x.mems) (.agg #[.int .i64 ka, .string sa, .int .i64 na, .slice aA x.args.length cA, .slice aN x.names.length cN, .slice A' l'.length c', .slice aM x.mems.length cM]) := by
  cases x
  unfold ExV at h ⊢
  obtain ⟨bA, dA, bN, dN, bT, dT, bM, dM, e, h0, h1, h2, h3, h4, h5, h6, h7, h8, g1, g2, g3, g4⟩ := h
  simp only [Value.agg.injEq, Array.mk.injEq, List.cons.injEq, Value.slice.injEq, Value.int.injEq, Value.string.injEq, true_and, and_true] at e
  obtain ⟨rfl, rfl, rfl, ⟨rfl, _, rfl⟩, ⟨rfl, _, rfl⟩, ⟨rfl, _, rfl⟩, ⟨rfl, _, rfl⟩⟩ := e
  exact ⟨_, _, _, _, _, _, _, _, rfl, h0, h1, h2, h3, h4, h1', h2', h7, h8, g1, g2, ho, g4⟩
theorem ExV.put_mems {w : World} {S : Nat → Prop} {x : Ex} {ka na : Int} {sa : ByteArray} {aA aN aT aM A' : Option Addr} {cA cN cT cM c' : Nat} (h : ExV w S x (.agg #[.int .i64 ka, .string sa, .int .i64 na, .slice aA x.args.length cA, .slice aN x.names.length cN, .slice aT x.types.length cT, .slice aM x.mems.length cM])) (l' : List Mm) (h1' : l'.length ≤ c') (h2' : c' ≤ maxLen) (ho : MmsO w S l' A') :
    ExV w S (.mk x.kind x.str x.num x.args x.names x.types l') (.agg #[.int .i64 ka, .string sa, .int .i64 na, .slice aA x.args.length cA, .slice aN x.names.length cN, .slice aT x.types.length cT, .slice A' l'.length c']) := by
  cases x
  unfold ExV at h ⊢
  obtain ⟨bA, dA, bN, dN, bT, dT, bM, dM, e, h0, h1, h2, h3, h4, h5, h6, h7, h8, g1, g2, g3, g4⟩ := h
  simp only [Value.agg.injEq, Array.mk.injEq, List.cons.injEq, Value.slice.injEq, Value.int.injEq, Value.string.injEq, true_and, and_true] at e
  obtain ⟨rfl, rfl, rfl, ⟨rfl, _, rfl⟩, ⟨rfl, _, rfl⟩, ⟨rfl, _, rfl⟩, ⟨rfl, _, rfl⟩⟩ := e
  exact ⟨_, _, _, _, _, _, _, _, rfl, h0, h1, h2, h3, h4, h5, h6, h1', h2', g1, g2, g3, ho⟩
theorem infoTy : (Try.prog.info? 42).map (fun i => (i.zero, i.size, i.bytes)) = some (some (.agg #[.int .i64 0, .string ⟨#[]⟩, .slice none 0 0, .slice none 0 0, .bool false]), 5, 80) := by kernel_rfl

theorem LiesAt.lt {α : Type} {T : Srt α} {w : World} {S : Nat → Prop} {l : List α} {ad : Addr} (h : LiesAt T w S l (some ad)) : l = [] ∨ ad.block < w.heap.size := by
  rcases h with ⟨h, _⟩ | ⟨ad', h, news, h1, h2⟩
  · simp at h
  · injection h with h
    subst h
    cases l with
    | nil => exact .inl rfl
    | cons a r =>
      obtain ⟨v, ys, rfl, hv, _⟩ := h2
      have hl := T.cells _ _ _ _ hv
      have hp := T.pos
      have h0 : (v.cells.toList ++ ys)[0]? = some (v.cells.toList[0]'(by omega)) := by
        rw [List.getElem?_append_left (by omega)]
        exact List.getElem?_eq_getElem (by omega)
      have hc := World.block_lt_of_cell? w _ (h1 0 _ h0)
      refine .inr ?_
      have hb : (ad.add 0).block = ad.block := by unfold Addr.add; split <;> rfl
      rwa [hb] at hc
theorem exs_len : ∀ l : List Ex, l.length ≤ Ex.sizes l
  | [] => Nat.le_refl _
  | e :: r => by have := exs_len r; have := Ex.size_pos e; simp only [List.length_cons, Ex.sizes]; omega
theorem tys_len : ∀ l : List Ty, l.length ≤ Ty.sizes l
  | [] => Nat.le_refl _
  | e :: r => by have := tys_len r; have := Ty.size_pos e; simp only [List.length_cons, Ty.sizes]; omega
theorem len_all (x : Ex) : x.args.length ≤ x.size ∧ x.types.length ≤ x.tsize ∧ x.mems.length ≤ x.size := by
  have h1 := exs_len x.args
  have h2 := tys_len x.types
  have h3 := Mm.length_le x.mems
  have h4 := Ex.size_eq x
  have h5 := Ex.tsize_eq x
  omega
theorem ofE_names (l : List Part) : (ofE l).names.length ≤ 3 := by
  unfold ofE
  cases l with
  | nil => simp [ofN, Ex.names]
  | cons p l =>
    have e : ofN ((p :: l).length + 1) (p :: l) = if p.k % 21 = 14 then (.mk 14 p.s p.n [] [] [] (ofMems (ofN (p :: l).length) (p.a % 4) l).1, (ofMems (ofN (p :: l).length) (p.a % 4) l).2)
      else (.mk ((p.k % 21 : Nat) : Int) (if p.k % 21 = 18 then ⟨#[]⟩ else p.s) p.n (ofList (ofN (p :: l).length) (p.a % 4) l).1 (if p.k % 21 = 18 then List.replicate (p.a % 4) p.s else []) (ofTypes (p.k % 21) p.t) [], (ofList (ofN (p :: l).length) (p.a % 4) l).2) := rfl
    rw [e]
    have := Nat.mod_lt p.a (show 0 < 4 by omega)
    by_cases h : p.k % 21 = 14
    · rw [if_pos h]; simp [Ex.names]
    · rw [if_neg h]
      simp only [Ex.names]
      split
      · simp; omega
      · simp

theorem exs_cat : ∀ (l : List Ex) (e : Ex), Ex.sizes (l ++ [e]) = Ex.sizes l + e.size
  | [], e => by simp [Ex.sizes]
  | a :: l, e => by have := exs_cat l e; simp only [List.cons_append, Ex.sizes, this]; omega
theorem exts_cat : ∀ (l : List Ex) (e : Ex), Ex.tsizes (l ++ [e]) = Ex.tsizes l + e.tsize
  | [], e => by simp [Ex.tsizes]
  | a :: l, e => by have := exts_cat l e; simp only [List.cons_append, Ex.tsizes, this]; omega
theorem tys_cat : ∀ (l : List Ty) (e : Ty), Ty.sizes (l ++ [e]) = Ty.sizes l + e.size
  | [], e => by simp [Ty.sizes]
  | a :: l, e => by have := tys_cat l e; simp only [List.cons_append, Ty.sizes, this]; omega
theorem mms_cat : ∀ (l : List Mm) (e : Mm), Mm.sizes (l ++ [e]) = Mm.sizes l + e.size
  | [], e => by simp [Mm.sizes]
  | a :: l, e => by have := mms_cat l e; simp only [List.cons_append, Mm.sizes, this]; omega
theorem mmts_cat : ∀ (l : List Mm) (e : Mm), Mm.tsizes (l ++ [e]) = Mm.tsizes l + e.tsize
  | [], e => by simp [Mm.tsizes]
  | a :: l, e => by have := mmts_cat l e; simp only [List.cons_append, Mm.tsizes, this]; omega

theorem leafT_V (w : World) (S : Nat → Prop) : TyV w S (.mk 0 ⟨#[]⟩ [] [] false) (.agg #[.int .i64 0, .string ⟨#[]⟩, .slice none 0 0, .slice none 0 0, .bool false]) := by
  simp only [TyV]
  exact ⟨none, 0, none, 0, rfl, by decide, Nat.zero_le _, Nat.zero_le _, Nat.zero_le _, Nat.zero_le _, by simp [TysO], by simp [StrsO]⟩
theorem leafM_V (w : World) (S : Nat → Prop) : MmV w S (.mk 0 ⟨#[]⟩ ⟨#[]⟩ [] []) (.agg #[.int .i64 0, .string ⟨#[]⟩, .string ⟨#[]⟩, .slice none 0 0, .slice none 0 0]) := by
  simp only [MmV]
  exact ⟨none, 0, none, 0, rfl, by decide, by decide, Nat.zero_le _, Nat.zero_le _, Nat.zero_le _, Nat.zero_le _, by simp [ExsO], by simp [TysO]⟩

end Go.Proofs.Ythgbldkcgfggfaa

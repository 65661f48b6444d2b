/-
  Rows of nodes; a row's item written over; rows that make makes.
-/
import Derived.Test.YtnhdgndjpkdhdaaGFree
import Derived.Test.YtnhdgndjpkdhdaaGCat2
namespace Go.Proofs.Ytnhdgndjpkdhdaa
open Go.RowKit

theorem infoNode : (Try.prog.info? 37).map (fun i => (i.zero, i.size, i.bytes)) = some (some (.agg #[.int .i64 0, .string ⟨#[]⟩, .slice none 0 0, .slice none 0 0, .bool false]), 5, 80) := by kernel_rfl

def srtN : Srt RNd where
  V := fun w S x v => NdV w S x v
  size := 5
  pos := by decide
  keep := fun _ _ _ _ hS _ _ h => h.keep hS
  cells := fun w S a v ⟨aA, cA, aL, cL, h1, _⟩ => by rw [h1]; rfl
  flat := fun w S a v ⟨aA, cA, aL, cL, h1, _⟩ u hu => by
    rw [h1] at hu
    simp [Value.cells] at hu
    rcases hu with rfl | rfl | rfl | rfl | rfl <;> rfl

section
variable {α : Type} {T : Srt α}
theorem Items.split {w : World} {S : Nat → Prop} : ∀ (es : List α) (xs : List Value) (i : Nat) (hi : i < es.length), Items T w S es xs → ∃ ys v zs, xs = ys ++ (v.cells.toList ++ zs) ∧ ys.length = i * T.size ∧ T.V w S es[i] v ∧
    ∀ (w' : World) (S' : Nat → Prop) (e : α) (u : Value), (∀ k, S k → S' k ∧ w'.heap[k]? = w.heap[k]?) → T.V w' S' e u → Items T w' S' (es.set i e) (ys ++ (u.cells.toList ++ zs))
  | a :: r, xs, 0, _, ⟨v, zs, h1, h2, h3⟩ => ⟨[], v, zs, by simpa using h1, by simp, h2, fun w' S' e u hS hu => ⟨u, zs, by simp, hu, Items.keep T hS _ _ h3⟩⟩
  | a :: r, xs, i + 1, hi, ⟨v, zs, h1, h2, h3⟩ => by
    obtain ⟨ys, v', zs', g1, g2, g3, g4⟩ := Items.split r zs i (by simpa using hi) h3
    have e1 := T.cells _ _ _ _ h2
    refine ⟨v.cells.toList ++ ys, v', zs', by rw [h1, g1, List.append_assoc], by rw [List.length_append, e1, g2, Nat.add_mul]; omega, g3, fun w' S' e u hS hu => ?_⟩
    exact ⟨v, ys ++ (u.cells.toList ++ zs'), by rw [List.append_assoc], T.keep _ _ _ _ hS _ _ h2, g4 w' S' e u hS hu⟩
/-- Five cells of a row, one behind the other, written over. -/
theorem set5 {ys zs : List Value} {a b c d e a' b' c' d' e' : Value} {k : Nat} (hk : ys.length = k) :
    (((((ys ++ ([a, b, c, d, e] ++ zs)).set k a').set (k + 1) b').set (k + 2) c').set (k + 3) d').set (k + 4) e' = ys ++ ([a', b', c', d', e'] ++ zs) := by
  subst hk
  simp
end

section
variable {t : TypeId} {base : Nat} {w : World} {S S' : Nat → Prop} {es : List RNd}
/-- A node of a row of the call's own written over. -/
theorem RowG.setN {g c i n : Nat} {x : RNd} {u0 u1 u2 u3 u4 : Value} (h : RowG srtN t base w S (.slice (some ⟨g, 0, none⟩) n c) es) (hn : es.length = n) (hi : i < n) (hS : ∀ k, S k → S' k) (ho : ∀ k, S' k → k < w.heap.size ∧ k ≠ g) (hx : NdV w S' x (.agg #[u0, u1, u2, u3, u4])) :
    RowG srtN t base (((((w.setCell ⟨g, i * 5, none⟩ u0).setCell ⟨g, i * 5 + 1, none⟩ u1).setCell ⟨g, i * 5 + 2, none⟩ u2).setCell ⟨g, i * 5 + 3, none⟩ u3).setCell ⟨g, i * 5 + 4, none⟩ u4) S' (.slice (some ⟨g, 0, none⟩) n c) (es.set i x) := by
  subst hn
  obtain ⟨xs, h1, h2⟩ := h.raw
  obtain ⟨ys, v, zs, g1, g2, g3, g4⟩ := Items.split es xs i hi h2
  have hk : Keeps (fun k => k = g) w (((((w.setCell ⟨g, i * 5, none⟩ u0).setCell ⟨g, i * 5 + 1, none⟩ u1).setCell ⟨g, i * 5 + 2, none⟩ u2).setCell ⟨g, i * 5 + 3, none⟩ u3).setCell ⟨g, i * 5 + 4, none⟩ u4) := by
    exact (((((Keeps.refl (fun k => k = g) w).setCell (p := ⟨g, i * 5, none⟩) (fun _ => rfl) _).setCell (p := ⟨g, i * 5 + 1, none⟩) (fun _ => rfl) _).setCell (p := ⟨g, i * 5 + 2, none⟩) (fun _ => rfl) _).setCell (p := ⟨g, i * 5 + 3, none⟩) (fun _ => rfl) _).setCell (p := ⟨g, i * 5 + 4, none⟩) (fun _ => rfl) _
  have hkS : ∀ k, S' k → S' k ∧ (((((w.setCell ⟨g, i * 5, none⟩ u0).setCell ⟨g, i * 5 + 1, none⟩ u1).setCell ⟨g, i * 5 + 2, none⟩ u2).setCell ⟨g, i * 5 + 3, none⟩ u3).setCell ⟨g, i * 5 + 4, none⟩ u4).heap[k]? = w.heap[k]? := fun k hs =>
    ⟨hs, hk.block k (ho k hs).1 (ho k hs).2⟩
  obtain ⟨aA, cA, aL, cL, hv, _⟩ := g3
  have hlen : (es.set i x).length = es.length := by simp
  refine ⟨⟨ys ++ ([u0, u1, u2, u3, u4] ++ zs), ?_, ?_⟩, fun k hs e => (ho k hs).2 (by simp [Value.ownBlock] at e; exact e.symm), fun k hs => Nat.lt_of_lt_of_le (ho k hs).1 hk.size⟩
  · rw [hlen]
    have s1 := ((((((h1.stored (i * 5) u0).1).stored (i * 5 + 1) u1).1).stored (i * 5 + 2) u2).1.stored (i * 5 + 3) u3).1.stored (i * 5 + 4) u4 |>.1
    rw [g1, hv] at s1
    rw [← set5 (ys := ys) (zs := zs) (k := i * 5) (by simpa [srtN] using g2)]
    exact s1
  · exact g4 _ S' x (.agg #[u0, u1, u2, u3, u4]) (fun k hs => hkS k (hS k hs)) (hx.keep hkS)
theorem RowG.cellN {g c n : Nat} (h : RowG srtN t base w S (.slice (some ⟨g, 0, none⟩) n c) es) (hn : es.length = n) (j : Nat) (hj : j < n * 5) : (∃ u, w.cell? ⟨g, j, none⟩ = some u) ∧ w.frozen? ⟨g, j, none⟩ = false := by
  subst hn
  obtain ⟨xs, h1, h2⟩ := h.raw
  have hl := Items.length srtN _ _ h2
  have hjx : j < xs.length := by rw [hl]; exact hj
  exact ⟨⟨xs[j], by rw [h1.cellAt j hj]; exact List.getElem?_eq_getElem hjx⟩, h1.frozenAt j⟩
theorem ndsO_of {w : World} {S : Nat → Prop} {b : Nat} (hb : S b) : ∀ (l : List RNd) (xs : List Value) (o : Nat), Items srtN w S l xs → (∀ j u, xs[j]? = some u → w.cell? ⟨b, o + j, none⟩ = some u) → NdsO w S l (some ⟨b, o, none⟩)
  | [], _, _, _, _ => trivial
  | a :: r, xs, o, ⟨v, ys, h1, h2, h3⟩, hc => by
    have h4 := srtN.cells _ _ _ _ h2
    have h5 : v.cells.toList.length = 5 := h4
    subst h1
    refine ⟨b, o, rfl, ⟨hb, v, fun j u hu => hc j u ?_, h2⟩, ndsO_of hb r ys (o + 5) h3 fun j u hu => ?_⟩
    · have : j < v.cells.toList.length := by
        have := (Array.getElem?_eq_some_iff.1 hu).1
        simpa using this
      rw [List.getElem?_append_left this]
      simpa using hu
    · have := hc (5 + j) u (by rw [List.getElem?_append_right (by omega), h5]; simpa using hu)
      rwa [← Nat.add_assoc] at this
theorem RowG.nds {v : Value} (h : RowG srtN t base w S v es) (hS : ∀ k, S k → S' k) (hn : ∀ k, base ≤ k → k < w.heap.size → S' k) :
    ∃ A cap, v = .slice A es.length cap ∧ es.length ≤ cap ∧ cap ≤ maxLen ∧ NdsO w S' es A := by
  obtain ⟨A, cap, hv, h1, h2, h3⟩ := h.shut
  refine ⟨A, cap, hv, h1, h2, ?_⟩
  rcases h3 with rfl | ⟨g, xs, rfl, hb, hg, hc, hi⟩
  · exact trivial
  · exact ndsO_of (hn g hb hg) _ _ 0 (Items.keep srtN (fun k hk => ⟨hS k hk, rfl⟩) _ _ hi) hc
end

/-- A block of numbers. -/
def numCells (N : Nat) (f : Nat → Nat) : Array Value := ((List.range N).map fun i => Value.int .i64 (f i : Nat)).toArray
def NumAt (w : World) (b N : Nat) (f : Nat → Nat) : Prop := w.heap[b]? = some (.cells (numCells N f) 3 (0, 0))
theorem NumAt.cell {w : World} {b N : Nat} {f : Nat → Nat} (h : NumAt w b N f) (i : Nat) (hi : i < N) : w.cell? ⟨b, i, none⟩ = some (.int .i64 (f i : Nat)) ∧ w.frozen? ⟨b, i, none⟩ = false := by
  constructor
  · rw [cell_of_row w b i _ _ _ h]; simp [numCells, hi]
  · unfold NumAt at h
    unfold World.frozen?
    rw [h]
    simp
theorem NumAt.lt {w : World} {b N : Nat} {f : Nat → Nat} (h : NumAt w b N f) : b < w.heap.size := (Array.getElem?_eq_some_iff.1 h).1
theorem NumAt.set {w : World} {b N : Nat} {f : Nat → Nat} (h : NumAt w b N f) (a y : Nat) (g : Nat → Nat) (hg : ∀ i, i < N → g i = if i = a then y else f i) : NumAt (w.setCell ⟨b, a, none⟩ (.int .i64 (y : Nat))) b N g := by
  unfold NumAt at h ⊢
  have e : (numCells N f).setIfInBounds a (.int .i64 (y : Nat)) = numCells N g := by
    apply Array.ext
    · simp [numCells]
    · intro i h1 h2
      simp only [numCells, List.size_toArray, List.length_map, List.length_range, Array.size_setIfInBounds] at h1 h2
      rw [Array.getElem_setIfInBounds (by simpa [numCells] using h1)]
      by_cases e : a = i
      · subst e; simp [numCells, hg _ h1]
      · have e' : ¬ i = a := fun x => e x.symm
        simp [numCells, hg _ h1, e, e']
  rw [← e]
  simp [World.setCell, Array.getElem?_modify, h]
theorem intsO_cells {w : World} {S : Nat → Prop} {b : Nat} (hb : S b) : ∀ (l : List Int) (o : Nat), (∀ j u, l[j]? = some u → w.cell? ⟨b, o + j, none⟩ = some (.int .i64 u)) → IntsO w S l (some ⟨b, o, none⟩)
  | [], _, _ => trivial
  | a :: r, o, hc => by
    refine ⟨b, o, rfl, hb, hc 0 a rfl, intsO_cells hb r (o + 1) fun j u hu => ?_⟩
    have := hc (j + 1) u (by simpa using hu)
    rwa [show o + (j + 1) = o + 1 + j by omega] at this
theorem NumAt.ints {w : World} {b N : Nat} {f : Nat → Nat} (h : NumAt w b N f) : IntsO w (fun k => k = b) ((List.range N).map fun i => ((f i : Nat) : Int)) (some ⟨b, 0, none⟩) := by
  refine intsO_cells (S := fun k => k = b) rfl _ _ fun j u hu => ?_
  rw [List.getElem?_map] at hu
  rcases Nat.lt_or_ge j N with hj | hj
  · rw [List.getElem?_range hj] at hu
    simp only [Option.map_some, Option.some.injEq] at hu
    subst hu
    have := (h.cell j hj).1
    simpa using this
  · rw [List.getElem?_eq_none (by simpa using hj)] at hu
    cases hu
theorem makeNum (W : World) (N : Nat) (hN : N * 8 ≤ 140737488355328) : Sem.run Try.prog (Instr.makeSlice 25 (.int .i64 N) (.int .i64 N)) W = .ok (.slice (some ⟨W.heap.size, 0, none⟩) N N) (W.alloc (.cells (numCells N (fun _ => 0)) 3)) := by
  obtain ⟨i0, hi, hz0, hz1, hz2⟩ := info_parts infoInt
  have h := run_make (P := Try.prog) W 25 3 i0 (.int .i64 0) Try.underlying25 hi hz0 .i64 .i64 N N (by omega) (Int.le_refl _) (by rw [hz2]; omega) (by omega)
  rw [hz1] at h
  simp only [Int.toNat_natCast, Nat.mul_one] at h
  have e : madeCells (Value.int .i64 0).cells N = numCells N (fun _ => 0) := by
    apply Array.ext
    · simp [madeCells, numCells]
    · intro i h1 h2
      have h3 : i % 1 = 0 := Nat.mod_one i
      simp [madeCells, numCells, Value.cells, h3]
  rw [e] at h
  exact h

def zeroN : RNd := ⟨0, ⟨#[]⟩, [], [], false⟩
theorem zeroN_V (w : World) (S : Nat → Prop) : NdV w S zeroN (.agg #[.int .i64 0, .string ⟨#[]⟩, .slice none 0 0, .slice none 0 0, .bool false]) := ⟨none, 0, none, 0, rfl, by decide, Nat.le_refl _, Nat.zero_le _, Nat.le_refl _, Nat.zero_le _, trivial, trivial⟩
def zerosN : Nat → List Value
  | 0 => []
  | n + 1 => [.int .i64 0, .string ⟨#[]⟩, .slice none 0 0, .slice none 0 0, .bool false] ++ zerosN n
theorem zerosN_items (w : World) (S : Nat → Prop) : ∀ n, Items srtN w S (List.replicate n zeroN) (zerosN n)
  | 0 => rfl
  | n + 1 => ⟨.agg #[.int .i64 0, .string ⟨#[]⟩, .slice none 0 0, .slice none 0 0, .bool false], zerosN n, rfl, zeroN_V w S, zerosN_items w S n⟩
theorem zerosN_len : ∀ n, (zerosN n).length = n * 5
  | 0 => rfl
  | n + 1 => by unfold zerosN; rw [List.length_append, zerosN_len n]; simp; omega
theorem zerosN_get : ∀ (n i : Nat) (_ : i < n * 5), (zerosN n)[i]? = (#[.int .i64 0, .string ⟨#[]⟩, .slice none 0 0, .slice none 0 0, .bool false] : Array Value)[i % 5]?
  | 0, i, h => by omega
  | n + 1, i, h => by
    unfold zerosN
    by_cases hi : i < 5
    · rw [List.getElem?_append_left (by simpa using hi), Nat.mod_eq_of_lt hi]
      simp
    · rw [List.getElem?_append_right (by simp; omega)]
      have := zerosN_get n (i - 5) (by omega)
      simp only [List.length_cons, List.length_nil]
      rw [this, show (i - 5) % 5 = i % 5 by omega]
theorem makeNodes (W : World) (N : Nat) (hN : N ≤ 2000000) : ∃ W', Sem.run Try.prog (Instr.makeSlice 22 (.int .i64 N) (.int .i64 N)) W = .ok (.slice (some ⟨W.heap.size, 0, none⟩) N N) W' ∧ Below W.heap.size W W' ∧ W.heap.size < W'.heap.size ∧
    RowG srtN 37 W.heap.size W' (fun _ => False) (.slice (some ⟨W.heap.size, 0, none⟩) N N) (List.replicate N zeroN) := by
  obtain ⟨i0, hi, hz0, hz1, hz2⟩ := info_parts infoNode
  obtain ⟨W', h1, h2, h3⟩ := run_make_full (P := Try.prog) W W.heap.size 22 37 i0 _ 5 Try.underlying22 hi hz0 hz1 .i64 .i64 N (by rw [hz2]; omega) (by unfold maxLen; omega) (Nat.le_refl _)
  have e : (madeCells (Value.agg #[.int .i64 0, .string ⟨#[]⟩, .slice none 0 0, .slice none 0 0, .bool false]).cells (N * 5)).toList = zerosN N := by
    apply List.ext_getElem?
    intro i
    rcases Nat.lt_or_ge i (N * 5) with h | h
    · rw [zerosN_get N i h]
      simp only [madeCells, Value.cells]
      simp [h]
      have : i % 5 < 5 := Nat.mod_lt _ (by decide)
      obtain ⟨m, hm⟩ : ∃ m, m = i % 5 := ⟨_, rfl⟩
      rw [← hm] at this ⊢
      match m, this with
      | 0, _ => rfl
      | 1, _ => rfl
      | 2, _ => rfl
      | 3, _ => rfl
      | 4, _ => rfl
    · rw [List.getElem?_eq_none (l := zerosN N) (by rw [zerosN_len]; exact h), List.getElem?_eq_none (by simp [madeCells]; exact h)]
  rw [e] at h2
  refine ⟨W', h1, ⟨h3.os, h3.tape, h3.output, h3.size, fun k hk => h3.block k hk (by simp)⟩, (h2.lt W.heap.size rfl).2, ⟨zerosN N, by rw [List.length_replicate]; exact h2, zerosN_items _ _ N⟩, fun _ h => h.elim, fun _ h => h.elim⟩
end Go.Proofs.Ytnhdgndjpkdhdaa

/-
  slices.DeleteFunc and slices.Sort on a row of node numbers of the call's own.
-/
import Derived.Test.YtnhdgndjpkdhdaaNOwn
import Derived.Test.YtnhdgndjpkdhdaaNReached
import Derived.Test.YtnhdgndjpkdhdaaNShelf
namespace Go.Proofs.Ytnhdgndjpkdhdaa
open Go.RowKit Go.Shelf Go.Sort

/-- The cells of a block, from its first one on, hold numbers, and may be written. -/
def IntsH (w : World) (b : Nat) (L : List Nat) : Prop := ∀ j (hj : j < L.length), w.cell? ⟨b, j, none⟩ = some (.int .i64 (L[j] : Nat)) ∧ w.frozen? ⟨b, j, none⟩ = false
theorem IntsH.keep {w w' : World} {b : Nat} {L : List Nat} (h : IntsH w b L) (hb : w'.heap[b]? = w.heap[b]?) : IntsH w' b L := fun j hj =>
  ⟨(World.cell?_of_block (a := ⟨b, j, none⟩) hb).trans (h j hj).1, by
    have := (h j hj).2
    unfold World.frozen? at this ⊢
    simp only at this ⊢
    rw [hb]; exact this⟩
theorem IntsH.ints {w : World} {b : Nat} {L : List Nat} (h : IntsH w b L) : IntsO w (fun k => k = b) (L.map Int.ofNat) (some ⟨b, 0, none⟩) := by
  refine intsO_cells (S := fun k => k = b) rfl _ _ fun j u hu => ?_
  rw [List.getElem?_map] at hu
  rcases Nat.lt_or_ge j L.length with hj | hj
  · rw [List.getElem?_eq_getElem hj] at hu
    simp only [Option.map_some, Option.some.injEq] at hu
    subst hu
    rw [Nat.zero_add]
    exact (h j hj).1
  · rw [List.getElem?_eq_none hj] at hu
    cases hu
/-- A row of the call's own: nil, or in a block. -/
theorem RowG.intsH {t : TypeId} {base : Nat} {w : World} {S : Nat → Prop} {v : Value} {L : List Nat} (h : RowG srtI t base w S v (L.map Int.ofNat)) :
    (v = .slice none 0 0 ∧ L = []) ∨ ∃ g c, v = .slice (some ⟨g, 0, none⟩) L.length c ∧ base ≤ g ∧ g < w.heap.size ∧ L.length ≤ c ∧ c ≤ maxLen ∧ IntsH w g L := by
  obtain ⟨xs, h1, h2⟩ := h.raw
  have hxs : xs.length = L.length := by have := Items.length srtI _ _ h2; simpa [srtI] using this
  have hget : ∀ (M : List Int) (ys : List Value), Items srtI w S M ys → ys = M.map (Value.int .i64) := by
    intro M
    induction M with
    | nil => intro ys h; exact h
    | cons a r ih =>
      rintro ys ⟨v, zs, e1, e2, e3⟩
      have e2' : v = .int .i64 a := e2
      rw [e1, e2', ih zs e3]
      simp [Value.cells]
  have hx := hget _ _ h2
  rcases h1.2 with ⟨e, h0⟩ | ⟨g, c, cur, e, hb, hg, hnc, hcm, hcs, htake⟩
  · rw [List.length_map] at h0
    exact .inl ⟨e, List.eq_nil_of_length_eq_zero h0⟩
  · subst e
    refine .inr ⟨g, c, by rw [List.length_map], hb, (h1.lt g rfl).2, by simpa using hnc, hcm, fun j hj => ⟨?_, h1.frozenAt j⟩⟩
    have := h1.cellAt j (by simpa [srtI] using hj)
    rw [this, hx]
    simp [hj]

theorem Keeps.grown_put {α : Type} [Inhabited α] (enc : α → Value) (w : World) (n blk off : Nat) (d : Array α) (os : Array Obj) : Keeps (fun k => k = blk) w (grow (putRow enc (Sort.ahead w n) blk off d) os) := by
  refine ⟨rfl, rfl, rfl, by simp [grow, putRow, mapBlock, Sort.ahead], fun k hk hne => ?_⟩
  rw [heap_grow_old _ _ (by simpa [putRow, mapBlock, Sort.ahead] using hk)]
  have : blk ≠ k := fun e => hne e.symm
  simp [putRow, mapBlock, Sort.ahead, Array.getElem?_modify, this]
theorem Keeps.put {α : Type} [Inhabited α] (enc : α → Value) (w : World) (n blk off : Nat) (d : Array α) : Keeps (fun k => k = blk) w (putRow enc (Sort.ahead w n) blk off d) := by
  refine ⟨rfl, rfl, rfl, by simp [putRow, mapBlock, Sort.ahead], fun k hk hne => ?_⟩
  have : blk ≠ k := fun e => hne e.symm
  simp [putRow, mapBlock, Sort.ahead, Array.getElem?_modify, this]

theorem del_row (w : World) (fn : Nat) (lb : Array Value) (eg : ∀ args w, (callFunc fn args).run Try.prog w = .ok (.enter fn args) w) (p : Nat → Bool) (N : Nat) (hN : 0 < N) (L : List Nat) (hL : ∀ x, x ∈ L → x < N) (blk cap : Nat) (hH : IntsH w blk L) (hcap : L.length ≤ cap) (h9 : L.length ≤ 2000000)
    (hp : ∀ W, Keeps (fun k => k = blk) w W → ∀ x, x < N → Calls Try.prog fn (#[.int .i64 (x : Nat)] ++ lb) W fun e w' => e = .returned (.bool (p x)) ∧ ∃ q, w' = W.drewN q) :
    Calls Try.prog 31 #[.slice (some ⟨blk, 0, none⟩) L.length cap, .func (.func fn) #[] lb] w fun e w' => e = .returned (.slice (some ⟨blk, 0, none⟩) (L.filter fun x => !p x).length cap) ∧ Keeps (fun k => k = blk) w w' ∧ IntsH w' blk (L.filter fun x => !p x) := by
  haveI : Inhabited (Fin N) := ⟨⟨0, hN⟩⟩
  obtain ⟨D, hD⟩ : ∃ D : List (Fin N), D.map Fin.val = L := ⟨L.pmap Fin.mk hL, by rw [List.map_pmap]; simp⟩
  have hDl : D.length = L.length := by rw [← hD, List.length_map]
  have hget : ∀ (E : List (Fin N)) (j : Nat) (hj : j < E.length), E.toArray[j]! = E[j] := fun E j hj => by
    rw [getElem!_pos E.toArray j (by simpa using hj)]; simp
  have hHD : Holds (fun x : Fin N => Value.int .i64 (x.val : Nat)) w blk 0 D.toArray := fun j hj => by
    have hj' : j < D.length := by simpa using hj
    obtain ⟨h1, h2⟩ := hH j (by omega)
    rw [Nat.zero_add, hget D j hj']
    refine ⟨?_, h2⟩
    rw [h1]
    have : L[j]'(by omega) = (D[j]).val := by simp only [← hD, List.getElem_map]
    rw [this]
  have hfl : ((D.toArray.toList.filter fun x => !p x.val).map Fin.val) = L.filter fun x => !p x := by
    rw [← hD, List.filter_map]
    rfl
  have hfll : (D.toArray.toList.filter fun x => !p x.val).length = (L.filter fun x => !p x).length := by rw [← hfl, List.length_map]
  have h := Try.slices_DeleteFunc (fun x : Fin N => Value.int .i64 (x.val : Nat)) (fun _ => rfl) (fun x => p x.val) fn lb eg ⟨0, hN⟩ Try.zeroValue3 blk 0 cap D.toArray w
    (fun W x hb => hp W (Keeps.of_below0 hb) x.val x.isLt) (fun n os dk x _ => hp _ (Keeps.grown_put _ w n blk 0 dk os) x.val x.isLt) hHD (by simp; omega) (by simp; omega)
  rw [hfll] at h
  have hsz : D.toArray.size = L.length := by simpa using hDl
  rw [hsz] at h
  refine h.mono ?_
  rintro e w' ⟨rfl, q, rfl⟩
  refine ⟨rfl, Keeps.put _ w q blk 0 _, fun j hj => ?_⟩
  have hle := List.length_filter_le (fun x => !p x) L
  have hP := holds_putRow (fun x : Fin N => Value.int .i64 (x.val : Nat)) (Sort.ahead w q) blk 0 D.toArray ((D.toArray.toList.filter fun x => !p x.val) ++ List.replicate (L.length - (L.filter fun x => !p x).length) (⟨0, hN⟩ : Fin N)).toArray (holds_ahead _ w q blk 0 _ hHD) (by simp only [List.size_toArray, List.length_append, List.length_replicate]; rw [hfll]; omega)
  obtain ⟨h1, h2⟩ := hP j (by simp only [List.size_toArray, List.length_append, List.length_replicate]; rw [hfll]; omega)
  rw [Nat.zero_add] at h1 h2
  refine ⟨?_, h2⟩
  rw [h1, hget _ j (by rw [List.length_append, hfll]; omega), List.getElem_append_left (by rw [hfll]; exact hj)]
  have : (L.filter fun x => !p x)[j] = ((D.toArray.toList.filter fun x => !p x.val)[j]'(by rw [hfll]; exact hj)).val := by simp only [← hfl, List.getElem_map]
  rw [this]

theorem sort_row (w : World) (L M : List Nat) (hp : L.Perm M) (hM : M.Pairwise (· < ·)) (blk cap : Nat) (hH : IntsH w blk L) (hblk : blk < w.heap.size) (h9 : L.length ≤ 2000000) :
    Calls Try.prog 46 #[.slice (some ⟨blk, 0, none⟩) L.length cap] w fun e w' => e = .returned (.tuple #[]) ∧ Keeps (fun k => k = blk) w w' ∧ IntsH w' blk M := by
  have hHI : Holds (Value.int .i64) w blk 0 (L.map Int.ofNat).toArray := fun j hj => by
    have hj' : j < L.length := by simpa using hj
    obtain ⟨h1, h2⟩ := hH j hj'
    rw [Nat.zero_add, getElem!_pos _ j hj]
    refine ⟨?_, h2⟩
    rw [h1]
    simp
  have hms : ((L.map Int.ofNat).mergeSort fun x y => decide (x ≤ y)) = M.map Int.ofNat := by
    refine List.Perm.eq_of_pairwise (le := fun a b => decide (a ≤ b) = true) (fun a b _ _ h1 h2 => ?_) (List.pairwise_mergeSort (fun a b c h1 h2 => ?_) (fun a b => ?_) _) ?_ ((List.mergeSort_perm _ _).trans (hp.map _))
    · simp only [decide_eq_true_eq] at h1 h2; omega
    · simp only [decide_eq_true_eq] at h1 h2 ⊢; omega
    · simp only [Bool.or_eq_true, decide_eq_true_eq]; omega
    · rw [List.pairwise_map]
      exact hM.imp fun {a b} h => by simp only [decide_eq_true_eq, Int.ofNat_eq_natCast]; omega
  have h := Try.slices_Sort_int blk 0 cap (L.map Int.ofNat) w hHI hblk (by rw [List.length_map]; omega)
  rw [hms, List.length_map] at h
  refine h.mono ?_
  rintro e w' ⟨rfl, n, os, rfl⟩
  have hlen : M.length = L.length := hp.length_eq.symm
  refine ⟨rfl, Keeps.grown_put _ w n blk 0 _ os, fun j hj => ?_⟩
  have hP := holds_putRow (Value.int .i64) (Sort.ahead w n) blk 0 (L.map Int.ofNat).toArray (M.map Int.ofNat).toArray (holds_ahead _ w n blk 0 _ hHI) (by simpa using hlen)
  obtain ⟨h1, h2⟩ := hP j (by simpa using hj)
  rw [Nat.zero_add, getElem!_pos _ j (by simpa using hj)] at h1
  rw [Nat.zero_add] at h2
  have hh : (grow (putRow (Value.int .i64) (Sort.ahead w n) blk 0 (M.map Int.ofNat).toArray) os).heap[blk]? = (putRow (Value.int .i64) (Sort.ahead w n) blk 0 (M.map Int.ofNat).toArray).heap[blk]? := heap_grow_old _ _ (by simpa [putRow, mapBlock, Sort.ahead] using hblk)
  refine ⟨(World.cell?_of_block (a := ⟨blk, j, none⟩) hh).trans (by rw [h1]; simp), ?_⟩
  unfold World.frozen? at h2 ⊢
  simp only at h2 ⊢
  rw [hh]; exact h2
end Go.Proofs.Ytnhdgndjpkdhdaa

/-
  Pairs and numbers as keys of a map.
-/
import Derived.Test.YtnhdgndjpkdhdaaDReach
import Derived.Maps.OwnSet
import Derived.DeepKeys4
namespace Go.Proofs.Ytnhdgndjpkdhdaa
open Go.RowKit

set_option maxRecDepth 100000 in
theorem laidOut_ : laidOutB Try.prog = true := by kernel_rfl
set_option maxRecDepth 100000 in
theorem rowP : (80 : TypeId) < Try.prog.types.size := of_decide_eq_true (by kernel_rfl)
set_option maxRecDepth 100000 in
theorem wideP : (match Try.prog.underlying 80 with | some (.array _ _) | some (.struct _) => true | _ => false) = true := by kernel_rfl
set_option maxRecDepth 100000 in
theorem keyedP : Maps.Keyed Try.prog 80 := Maps.Keyed.of_law (deep_law_laid laidOut_ (m := 2) (by omega) rowP (by kernel_rfl) wideP)
theorem keyTypeP : Try.prog.keyType 80 = true := by kernel_rfl
theorem cellsP : Try.prog.cellsOf 80 = 2 := by kernel_rfl
theorem cellsI : Try.prog.cellsOf 3 = 1 := by kernel_rfl
set_option maxRecDepth 100000 in
theorem sizeT : ∃ n, Try.prog.types.size = n + 1 := ⟨Try.prog.types.size - 1, (Nat.succ_pred_eq_of_pos (Nat.lt_of_le_of_lt (Nat.zero_le _) rowP)).symm⟩
theorem wfI (a : Nat) (ha : a ≤ 4000000) : (Lit.int .i64 (a : Int)).wf = true := by
  simp [Lit.wf, IntKind.min, IntKind.max, IntKind.bits, IntKind.signed]
  omega
theorem keyLits_one (d : Nat) (a : Nat) (ha : a ≤ 4000000) : Try.prog.keyLits (d + 1) 3 [.int .i64 (a : Int)] = some [.int .i64 (a : Int)] := by
  unfold Program.keyLits
  rw [Try.underlying3]
  simp [wfI a ha]
theorem keyOf_pair (a b : Nat) (ha : a ≤ 4000000) (hb : b ≤ 4000000) : keyOf Try.prog 80 (.agg #[.int .i64 (a : Int), .int .i64 (b : Int)]) = some (.string (keyBytes [.int .i64 (a : Int), .int .i64 (b : Int)])) := by
  obtain ⟨n, hn⟩ := sizeT
  have h1 := keyLits_one n a ha
  have h2 := keyLits_one n b hb
  unfold keyOf
  rw [Try.underlying80]
  simp only [keyTypeP, Value.formed, Try.underlying80, cellsP]
  unfold Program.keyLits
  rw [Try.underlying80, hn]
  simp [cellsP, cellsI, Value.cells, h1, h2]

def pairV (q : Nat × Nat) : Value := .agg #[.int .i64 (q.1 : Int), .int .i64 (q.2 : Int)]
def pairL (q : Nat × Nat) : Lit := .string (keyBytes [.int .i64 (q.1 : Int), .int .i64 (q.2 : Int)])
def Small (q : Nat × Nat) : Prop := q.1 ≤ 4000000 ∧ q.2 ≤ 4000000
theorem keyOf_V {q : Nat × Nat} (h : Small q) : keyOf Try.prog 80 (pairV q) = some (pairL q) := keyOf_pair q.1 q.2 h.1 h.2
theorem pairL_inj {q q' : Nat × Nat} (h : Small q) (h' : Small q') (e : pairL q = pairL q') : q = q' := by
  have h1 := keyedP.inj (keyOf_V h) (by rw [e]; exact keyOf_V h')
  unfold pairV at h1
  simp at h1
  obtain ⟨a, b⟩ := q
  obtain ⟨c, d⟩ := q'
  simp at h1
  simp only [Prod.mk.injEq]
  omega
/-- Who was looked at, as a map's datum. -/
def setL (L : List (Nat × Nat)) : DataW Unit := L.foldl (fun D q => D.put (pairL q) (.agg [])) (.map [])
theorem setL_snoc (L : List (Nat × Nat)) (q : Nat × Nat) : setL (L ++ [q]) = (setL L).put (pairL q) (.agg []) := by simp [setL]
theorem gsnoc_ind {α : Type} {P : List α → Prop} (h0 : P []) (hs : ∀ l x, P l → P (l ++ [x])) (l : List α) : P l := by
  have : ∀ n (l : List α), l.length = n → P l := by
    intro n
    induction n with
    | zero => intro l hl; rw [List.length_eq_zero_iff.1 hl]; exact h0
    | succ n ih =>
      intro l hl
      rcases gsnoc l with rfl | ⟨r, x, rfl⟩
      · exact h0
      · exact hs r x (ih r (by simpa using hl))
  exact this _ l rfl
theorem setL_isMap (L : List (Nat × Nat)) : Maps.IsMap (setL L) :=
  gsnoc_ind (P := fun L => Maps.IsMap (setL L)) Maps.isMap_empty (fun l x h => by rw [setL_snoc]; exact h.put _ _) L
theorem has_setL (L : List (Nat × Nat)) (hL : ∀ q, q ∈ L → Small q) {q : Nat × Nat} (hq : Small q) : Maps.has (setL L) (pairL q) = decide (q ∈ L) := by
  revert hL
  refine gsnoc_ind (P := fun L => (∀ q, q ∈ L → Small q) → Maps.has (setL L) (pairL q) = decide (q ∈ L)) ?_ ?_ L
  · intro _; rfl
  · intro l x ih hL
    have hx : Small x := hL x (by simp)
    have ih' := ih (fun q hq => hL q (List.mem_append_left _ hq))
    rw [setL_snoc]
    by_cases e : q = x
    · subst e
      rw [Maps.has_put_same (setL_isMap l) (keyedP.key (keyOf_V hq))]
      simp
    · rw [Maps.has_put_other (fun e2 => e (pairL_inj hq hx e2)), ih']
      simp [e]

def srtP : Srt (Nat × Nat) where
  V := fun _ _ q v => v = pairV q
  size := 2
  pos := by decide
  keep := fun _ _ _ _ _ _ _ hv => hv
  cells := fun w S a v h => by rw [h]; rfl
  flat := fun w S a v h u hu => by
    rw [h] at hu
    simp [Value.cells, pairV] at hu
    rcases hu with rfl | rfl <;> rfl
end Go.Proofs.Ytnhdgndjpkdhdaa

/-
  trefoilref02.Of, no parts.
-/
import Derived.Test.YthgbldkcgfggfaaOf
namespace Go.Proofs.Ythgbldkcgfggfaa
open Go.RowKit

/-- A term without parts. -/
theorem leafE_V (w : World) (S : Nat → Prop) (k : Int) (s : ByteArray) (n : Int) (hs : s.size ≤ maxLen) : ExV w S (.mk k s n [] [] [] []) (.agg #[.int .i64 k, .string s, .int .i64 n, .slice none 0 0, .slice none 0 0, .slice none 0 0, .slice none 0 0]) := by
  simp only [ExV]
  exact ⟨none, 0, none, 0, none, 0, none, 0, rfl, hs, Nat.zero_le _, Nat.zero_le _, Nat.zero_le _, Nat.zero_le _, Nat.zero_le _, Nat.zero_le _, Nat.zero_le _, Nat.zero_le _, by simp [ExsO], by simp [StrsO], by simp [TysO], by simp [MmsO]⟩

set_option maxRecDepth 100000 in
set_option maxHeartbeats 2000000 in
theorem of_nil (w : World) (A : Option Addr) (c : Nat) : Calls Try.prog 11 #[.slice A 0 c] w fun e w' => ∃ v, e = .returned (.tuple #[v, .slice none 0 0]) ∧ ExV w' (New w w') (.mk 5 ⟨#[]⟩ 0 [] [] [] []) v ∧ Below w.heap.size w w' := by
  go_enter Try.func11, Try.ntmps11
  go_wp2_with fail
  refine bodyPost_ret (v := .tuple #[.agg #[.int .i64 5, .string ⟨#[]⟩, .int .i64 0, .slice none 0 0, .slice none 0 0, .slice none 0 0, .slice none 0 0], .slice none 0 0]) (by simp [results, Try.results11, go_sem]) rfl ?_
  exact ⟨_, rfl, leafE_V _ _ 5 ⟨#[]⟩ 0 (by simp [maxLen, ByteArray.size]), (Below.refl _ w).alloc (Nat.le_refl _) _⟩

end Go.Proofs.Ythgbldkcgfggfaa

/-
  trefoillaw06.Great: some number.
-/
import Derived.Test.YtnhdgndjpkdhdaaDReach
namespace Go.Proofs.Ytnhdgndjpkdhdaa
open Go.RowKit

set_option maxRecDepth 100000 in
set_option maxHeartbeats 4000000 in
theorem great_r (w : World) (S : Nat → Prop) (g : RGr) (gv : Value) (hS : ∀ k, S k → k < w.heap.size) (hg : GrV w S g gv) :
    Calls Try.prog 22 #[gv] w fun e w' => (∃ z : Int, e = .returned (.int .i64 z)) ∧ Below w.heap.size w w' := by
  obtain ⟨gA, gc, rfl, hgc, hgm, oG⟩ := hg
  unfold maxLen at hgm
  obtain ⟨w1, hw1⟩ : ∃ w1, w1 = w.alloc (.cells #[.slice gA g.nodes.length gc, .int .i64 g.root] 24) := ⟨_, rfl⟩
  have hsz1 : w1.heap.size = w.heap.size + 1 := by rw [hw1]; simp
  have hb1 : Below w.heap.size w w1 := by rw [hw1]; exact (Below.refl _ _).alloc (Nat.le_refl _) _
  have hq0 : Blk w1 w.heap.size (.cells #[.slice gA g.nodes.length gc, .int .i64 g.root] 24 (0, 0)) := by rw [hw1]; exact Blk.new' _ _ _ rfl
  have HOG := Lib.hid (NdsO.keep (fun k hk => ⟨hk, hb1.block k (hS k hk)⟩) _ _ oG : NdsO w1 S g.nodes gA)
  have HS := Lib.hid (fun k hk => by have := hS k hk; omega : ∀ k, S k → k < w1.heap.size)
  have HB1 := Lib.hid hb1
  have c0 := hq0.cells.1 0
  clear oG hS hb1 hq0
  go_enter Try.func22, Try.ntmps22
  go_wp2_with fail
  rw [← hw1]
  clear hw1
  go_wp2
  go_loopw [3, 14] (fun v3 v14 wr => ∃ (z : Int) (k : Nat), v3 = .int .i64 z ∧ v14 = .int .i64 k ∧ k ≤ g.nodes.length ∧ BelC w1 wr) (fun _ v14 _ => g.nodes.length - (intOf v14).toNat)
  case atStart => exact ⟨_, 0, rfl, rfl, Nat.zero_le _, BelC.refl _⟩
  case round =>
    obtain ⟨z, k, rfl, rfl, hk, hb⟩ := hrel
    have HB := Lib.hid hb
    by_cases hlt : k < g.nodes.length
    · obtain ⟨b1, o1, rfl, p1⟩ := NdsO.get _ _ (NdsO.keep (fun j hj => ⟨hj, Below.block hb j (HS.out j hj)⟩) _ _ HOG.out) k hlt
      obtain ⟨X, hX⟩ : ∃ X, X = g.nodes[k] := ⟨_, rfl⟩
      rw [← hX] at p1
      obtain ⟨xA, xB, xL, xM, f0, f1, f2, f3, f4, h1, h2, h3, h4, h5, h6, h7, h8⟩ := p1.val
      have HL := Lib.hid h7
      have hzw := Below.size hb
      have hSr : ∀ j, S j → j < wr.heap.size := fun j hj => Nat.lt_of_lt_of_le (HS.out j hj) hzw
      have HSr := Lib.hid hSr
      unfold maxLen at h1 h3 h5
      have hbn : BelC wr (wr.alloc (.cells #[.int .i64 X.kind, .string X.name, .slice xA X.args.length xB, .slice xL X.labels.length xM, .bool X.op] 37)) := (BelC.refl wr).alloc _
      have hqn : Blk (wr.alloc (.cells #[.int .i64 X.kind, .string X.name, .slice xA X.args.length xB, .slice xL X.labels.length xM, .bool X.op] 37)) wr.heap.size (.cells #[.int .i64 X.kind, .string X.name, .slice xA X.args.length xB, .slice xL X.labels.length xM, .bool X.op] 37 (0, 0)) := Blk.new' _ _ _ rfl
      have HBn := Lib.hid (Below.trans hb (Below.mono hbn hzw) : BelC w1 _)
      have HQn := Lib.hid hqn
      clear hX p1 h6 h7 h8 hSr hbn hqn hb
      go_wp2
      all_goals
       have hbn1 := HBn.out
       have hL := HL.out
       have hL2 : StrsO (wr.alloc (.cells #[.int .i64 X.kind, .string X.name, .slice xA X.args.length xB, .slice xL X.labels.length xM, .bool X.op] 37)) S X.labels xL := StrsO.keep (fun j hj => ⟨hj, Below.heap_alloc _ _ _ (HSr.out j hj)⟩) _ _ hL
       have hS2 : ∀ j, S j → j < (wr.alloc (.cells #[.int .i64 X.kind, .string X.name, .slice xA X.args.length xB, .slice xL X.labels.length xM, .bool X.op] 37)).heap.size := fun j hj => by have := HSr.out j hj; simp; omega
       generalize (wr.alloc (.cells #[.int .i64 X.kind, .string X.name, .slice xA X.args.length xB, .slice xL X.labels.length xM, .bool X.op] 37)) = wn at hbn1 hL2 hS2 ⊢
       have HBn1 := Lib.hid hbn1
       have HL2 := Lib.hid hL2
       have HS2 := Lib.hid hS2
       clear hbn1 hL hL2 hS2
       go_loopw [3, 36] (fun v3 v36 wm => ∃ (z : Int) (j n : Nat), v3 = .int .i64 z ∧ v36 = .int .i64 j ∧ j ≤ X.labels.length ∧ wm = wn.drewN n) (fun _ v36 _ => X.labels.length - (intOf v36).toNat)
       case atStart => exact ⟨_, 0, 0, rfl, rfl, Nat.zero_le _, rfl⟩
       case round =>
         obtain ⟨z2, j, n, rfl, rfl, hj, rfl⟩ := hrel
         by_cases hlt2 : j < X.labels.length
         · obtain ⟨b2, o2, rfl, _, d1, d2⟩ := StrsO.get _ _ HL2.out j hlt2
           obtain ⟨s, hs⟩ : ∃ s, s = X.labels[j] := ⟨_, rfl⟩
           rw [← hs] at d1 d2
           unfold maxLen at d2
           clear hs
           go_wp2
           all_goals go_roundw
           all_goals first
             | exact ⟨_, j + 1, _, rfl, by go_num, by omega, rfl⟩
             | (simp [intOf]; omega)
         · have hbb : BelC w1 (wn.drewN n) := Below.drewN'' HBn1.out n
           have HBb := Lib.hid hbb
           clear hbb
           go_wp2
           all_goals go_roundw
           all_goals first
             | exact ⟨_, k + 1, rfl, by go_num, by omega, HBb.out⟩
             | (simp [intOf]; omega)
    · clear hb
      go_wp2
      go_ret
      exact ⟨⟨_, rfl⟩, HB1.out.trans (Below.mono HB.out HB1.out.size)⟩
end Go.Proofs.Ytnhdgndjpkdhdaa

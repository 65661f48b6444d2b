/-
  trefoillaw02.TreeApart is true for every input that it is handed, and leaves its arguments as they were. No condition besides the form's own.
-/
import Derived.Test.YthgbldkcgfggfaaLaw
import Derived.Test.YthgbldkcgfggfaaApart0
import Derived.Test.YthgbldkcgfggfaaApart1
import Derived.Test.YthgbldkcgfggfaaApart2
import Derived.Test.YthgbldkcgfggfaaApart3
import Derived.Test.YthgbldkcgfggfaaApart4
import Derived.Test.YthgbldkcgfggfaaApart5
import Derived.Test.YthgbldkcgfggfaaApart6
namespace Go.Proofs.Ythgbldkcgfggfaa
open Go.ChangeShapes Go.WideShapes Go.ChangeAt Go.RowKit

set_option maxRecDepth 100000 in
set_option maxHeartbeats 1000000 in
theorem apart_great1 (w : World) (S : Nat → Prop) (l : List Part) (A1 : Option Addr) (c1 : Nat) (wh : Int) (hS : ∀ k, S k → k < w.heap.size) (hl : PtsO w S l A1) (hlc : l.length ≤ c1) (hc1 : c1 ≤ 10000000000000) (hg1 : greatB l = true) :
    Calls Try.prog 6 #[.slice A1 l.length c1, .int .u8 wh] w fun e w' => e = .returned (.bool true) ∧ Below w.heap.size w w' := by
  have HL := Lib.hid hl
  have HS := Lib.hid hS
  clear hl hS
  go_enter Try.func6, Try.ntmps6
  go_wp2_with fail
  refine (alive_any w).mono ?_
  rintro e w1 ⟨rfl, hb1⟩
  have HB1 := Lib.hid hb1
  clear hb1
  go_wp2_with fail
  obtain ⟨p1, p2⟩ := pts_later HS.out HB1.out HL.out
  refine (great_r w1 S l A1 c1 true p1 p2 hlc hc1 hg1).mono ?_
  rintro e w2 ⟨rfl, hb2⟩
  have HB2 := Lib.hid (HB1.out.trans (hb2.mono HB1.out.size))
  clear hb2 p1 p2
  go_wp2_with fail
  go_ret
  exact ⟨rfl, HB2.out⟩

theorem apart_any (w : World) (S : Nat → Prop) (l : List Part) (A1 : Option Addr) (c1 wh : Nat) (hwh : wh < 256) (hS : ∀ k, S k → k < w.heap.size) (hl : PtsO w S l A1) (hlc : l.length ≤ c1) (hc1 : c1 ≤ 10000000000000) :
    Calls Try.prog 6 #[.slice A1 l.length c1, .int .u8 wh] w fun e w' => e = .returned (.bool true) ∧ Below w.heap.size w w' := by
  cases hg1 : greatB l with
  | true => exact apart_great1 w S l A1 c1 wh hS hl hlc hc1 hg1
  | false =>
    have h7 : (wh : Int) % 7 = 0 ∨ (wh : Int) % 7 = 1 ∨ (wh : Int) % 7 = 2 ∨ (wh : Int) % 7 = 3 ∨ (wh : Int) % 7 = 4 ∨ (wh : Int) % 7 = 5 ∨ (wh : Int) % 7 = 6 := by omega
    rcases h7 with h | h | h | h | h | h | h
    · exact apart_0 w S l A1 c1 wh hwh h hS hl hlc hc1 hg1
    · exact apart_1 w S l A1 c1 wh hwh h hS hl hlc hc1 hg1
    · exact apart_2 w S l A1 c1 wh hwh h hS hl hlc hc1 hg1
    · exact apart_3 w S l A1 c1 wh hwh h hS hl hlc hc1 hg1
    · exact apart_4 w S l A1 c1 wh hwh h hS hl hlc hc1 hg1
    · exact apart_5 w S l A1 c1 wh hwh h hS hl hlc hc1 hg1
    · exact apart_6 w S l A1 c1 wh hwh h hS hl hlc hc1 hg1

set_option maxRecDepth 100000 in
theorem apart_lifted (os : Os) (started : os.Started) (H : Type) (enc : TypeId × Value → H) :
    ReturnsInHanded {} Try.checked os 6 .any (Rows.treeApartSpec.pre6 enc Try.prog Try.f6 Rows.treeApartRow.domain false) (Rows.treeApartSpec.post enc Try.prog Try.f6 false true false false) := by
  refine returnsInHanded_of_change_sized (C := Try.checked) lawOwn started (by kernel_rfl) Try.func6
    (ChangeSpec.witness6 (enc := enc) (C := Try.checked) false ⟨#[], #[.slice none 0 0, .int .u8 0], []⟩ 8 (by kernel_rfl) (by kernel_rfl) (by kernel_rfl) (by kernel_rfl)) ?_
  intro W base args ds gs before hval0 hW _ hsz0 _
  have hsz : (DataW.weightsEach Try.prog (Try.f6.params.toList ++ Rows.treeApartSpec.plain.varTypes Try.prog) (ds ++ gs)).all (· ≤ reachBytes) = true := hsz0
  clear hsz0
  have hval : ∀ (j : Nat) t v, Try.f6.params[j]? = some t → args[j]? = some v → Value.okWide Try.prog W .any base t v := hval0
  have hW' := hW
  obtain ⟨p, q, hA0, hV, rfl, _, _⟩ := hW
  have hA : DataW.TrodAll enc Try.prog W 0 (fun _ => true) true Try.f6.params.toList args.toList ds p := hA0
  rw [Try.params6] at hA hval hsz
  obtain ⟨v0, v1, d0, d1, p0, p1, rfl, rfl, rfl, h0, h1⟩ := trodAll_two hA
  obtain ⟨rfl, rfl⟩ := trodVars_none hV
  obtain ⟨l, A1, c1, rfl, hlc, hc1, hl⟩ := open_parts h0 (okWide_slice Try.underlying22 (hval 0 22 v0 rfl rfl)) hsz (j := 0) rfl rfl
  obtain ⟨n, rfl, rfl, rfl, wn⟩ := open_int Try.underlying5 (hval 1 5 v1 rfl rfl) h1
  clear hA0 hval0
  simp only [List.append_nil] at hW'
  have hlt : ∀ x ∈ p0, x.block < W.heap.size := fun x hx => by simpa using hW'.lt x (by simpa using hx)
  have bn := u8_bounds wn
  obtain ⟨n', hn'⟩ : ∃ n' : Nat, n = n' := ⟨n.toNat, by omega⟩
  subst hn'
  refine (apart_any W _ l A1 c1 n' (by omega) (fun _ h => h) hl hlc hc1).mono fun e W' ⟨he, hnx⟩ => ?_
  subst he
  refine ⟨_, rfl, _, _, _, [], p0 ++ [], [], hW', ?_, ?_, rfl, hnx.frame _, fun h => by cases h⟩
  · exact trodAll_mk1 (shut_bool Try.underlying4 true)
  · exact trodAll_mk2 (Below.trod lawLaid (by kernel_rfl) (of_decide_eq_true (by kernel_rfl)) h0 hnx hlt) (shut_int Try.underlying5 wn)

theorem apart_holds : Rows.TreeApartSaid :=
  OpenClaim.holds_of_wide 6 Try.f6 rfl rfl rfl rfl rfl rfl rfl ⟨rfl, rfl, rfl, rfl, rfl⟩ rfl rfl rfl rfl rfl (by kernel_rfl) Try.func6 (by kernel_rfl)
    (of_decide_eq_true (by kernel_rfl)) (by unfold Func.isWrapper; first | (rw [if_pos (by decide +kernel)]; kernel_rfl) | (rw [if_neg (by decide +kernel)]; exact ⟨rfl, rfl⟩))
    (fun os started H enc _ => apart_lifted os started H enc)

#print axioms apart_holds
end Go.Proofs.Ythgbldkcgfggfaa

/-
  trefoillaw02.TreeValues is true for every input that it is handed, and leaves its arguments as they were. No condition besides the form's own.
-/
import Derived.Test.YthgbldkcgfggfaaLaw
import Derived.Test.YthgbldkcgfggfaaVal00
import Derived.Test.YthgbldkcgfggfaaVal01
import Derived.Test.YthgbldkcgfggfaaVal10
import Derived.Test.YthgbldkcgfggfaaVal11
namespace Go.Proofs.Ythgbldkcgfggfaa
open Go.ChangeShapes Go.WideShapes Go.ChangeAt Go.RowKit

set_option maxRecDepth 100000 in
set_option maxHeartbeats 1000000 in
theorem values_great1 (w : World) (S : Nat → Prop) (l m : List Part) (A1 A2 : Option Addr) (c1 c2 : Nat) (hS : ∀ k, S k → k < w.heap.size) (hl : PtsO w S l A1) (hlc : l.length ≤ c1) (hc1 : c1 ≤ 10000000000000) (hg1 : greatB l = true) :
    Calls Try.prog 8 #[.slice A1 l.length c1, .slice A2 m.length c2] w fun e w' => e = .returned (.bool true) ∧ Below w.heap.size w w' := by
  have HL := Lib.hid hl
  have HS := Lib.hid hS
  clear hl hS
  go_enter Try.func8, Try.ntmps8
  go_wp2_with fail
  refine (alive_any w).mono ?_
  rintro e w1 ⟨rfl, hb1⟩
  have HB1 := Lib.hid hb1
  clear hb1
  go_wp2_with fail
  obtain ⟨p1, p2⟩ := pts_later HS.out HB1.out HL.out
  refine (great_r w1 S l A1 c1 true p1 p2 hlc hc1 hg1).mono ?_
  rintro e w2 ⟨rfl, hb2⟩
  have HB2 := Lib.hid (HB1.out.trans (hb2.mono HB1.out.size))
  clear hb2 p1 p2
  go_wp2_with fail
  go_ret
  exact ⟨rfl, HB2.out⟩

set_option maxRecDepth 100000 in
set_option maxHeartbeats 1000000 in
theorem values_great2 (w : World) (S : Nat → Prop) (l m : List Part) (A1 A2 : Option Addr) (c1 c2 : Nat) (hS : ∀ k, S k → k < w.heap.size) (hl : PtsO w S l A1) (hm : PtsO w S m A2) (hlc : l.length ≤ c1) (hmc : m.length ≤ c2) (hc1 : c1 ≤ 10000000000000) (hc2 : c2 ≤ 10000000000000) (hg1 : greatB l = false) (hg2 : greatB m = true) :
    Calls Try.prog 8 #[.slice A1 l.length c1, .slice A2 m.length c2] w fun e w' => e = .returned (.bool true) ∧ Below w.heap.size w w' := by
  have HL := Lib.hid hl
  have HM := Lib.hid hm
  have HS := Lib.hid hS
  clear hl hm hS
  go_enter Try.func8, Try.ntmps8
  go_wp2_with fail
  refine (alive_any w).mono ?_
  rintro e w1 ⟨rfl, hb1⟩
  have HB1 := Lib.hid hb1
  clear hb1
  go_wp2_with fail
  obtain ⟨p1, p2⟩ := pts_later HS.out HB1.out HL.out
  refine (great_r w1 S l A1 c1 false p1 p2 hlc hc1 hg1).mono ?_
  rintro e w2 ⟨rfl, hb2⟩
  have HB2 := Lib.hid (HB1.out.trans (hb2.mono HB1.out.size))
  clear hb2 p1 p2
  go_wp2_with fail
  obtain ⟨p1, p2⟩ := pts_later HS.out HB2.out HM.out
  refine (great_r w2 S m A2 c2 true p1 p2 hmc hc2 hg2).mono ?_
  rintro e w3 ⟨rfl, hb3⟩
  have HB3 := Lib.hid (HB2.out.trans (hb3.mono HB2.out.size))
  clear hb3 p1 p2
  go_wp2_with fail
  go_ret
  exact ⟨rfl, HB3.out⟩

theorem values_any (w : World) (S : Nat → Prop) (l m : List Part) (A1 A2 : Option Addr) (c1 c2 : Nat) (hS : ∀ k, S k → k < w.heap.size) (hl : PtsO w S l A1) (hm : PtsO w S m A2) (hlc : l.length ≤ c1) (hmc : m.length ≤ c2) (hc1 : c1 ≤ 10000000000000) (hc2 : c2 ≤ 10000000000000) :
    Calls Try.prog 8 #[.slice A1 l.length c1, .slice A2 m.length c2] w fun e w' => e = .returned (.bool true) ∧ Below w.heap.size w w' := by
  cases hg1 : greatB l with
  | true => exact values_great1 w S l m A1 A2 c1 c2 hS hl hlc hc1 hg1
  | false =>
    cases hg2 : greatB m with
    | true => exact values_great2 w S l m A1 A2 c1 c2 hS hl hm hlc hmc hc1 hc2 hg1 hg2
    | false =>
      cases hrA : (ofE l).value with
      | true =>
        cases hrB : (ofE m).value with
        | true => exact values_11 w S l m A1 A2 c1 c2 hS hl hm hlc hmc hc1 hc2 hg1 hg2 hrA hrB
        | false => exact values_10 w S l m A1 A2 c1 c2 hS hl hm hlc hmc hc1 hc2 hg1 hg2 hrA hrB
      | false =>
        cases hrB : (ofE m).value with
        | true => exact values_01 w S l m A1 A2 c1 c2 hS hl hm hlc hmc hc1 hc2 hg1 hg2 hrA hrB
        | false => exact values_00 w S l m A1 A2 c1 c2 hS hl hm hlc hmc hc1 hc2 hg1 hg2 hrA hrB

set_option maxRecDepth 100000 in
theorem values_lifted (os : Os) (started : os.Started) (H : Type) (enc : TypeId × Value → H) :
    ReturnsInHanded {} Try.checked os 8 .any (Rows.treeValuesSpec.pre6 enc Try.prog Try.f8 Rows.treeValuesRow.domain false) (Rows.treeValuesSpec.post enc Try.prog Try.f8 false true false false) := by
  refine returnsInHanded_of_change_sized (C := Try.checked) lawOwn started (by kernel_rfl) Try.func8
    (ChangeSpec.witness6 (enc := enc) (C := Try.checked) false ⟨#[], #[.slice none 0 0, .slice none 0 0], []⟩ 8 (by kernel_rfl) (by kernel_rfl) (by kernel_rfl) (by kernel_rfl)) ?_
  intro W base args ds gs before hval0 hW _ hsz0 _
  have hsz : (DataW.weightsEach Try.prog (Try.f8.params.toList ++ Rows.treeValuesSpec.plain.varTypes Try.prog) (ds ++ gs)).all (· ≤ reachBytes) = true := hsz0
  clear hsz0
  have hval : ∀ (j : Nat) t v, Try.f8.params[j]? = some t → args[j]? = some v → Value.okWide Try.prog W .any base t v := hval0
  have hW' := hW
  obtain ⟨p, q, hA0, hV, rfl, _, _⟩ := hW
  have hA : DataW.TrodAll enc Try.prog W 0 (fun _ => true) true Try.f8.params.toList args.toList ds p := hA0
  rw [Try.params8] at hA hval hsz
  obtain ⟨v0, v1, d0, d1, p0, p1, rfl, rfl, rfl, h0, h1⟩ := trodAll_two hA
  obtain ⟨rfl, rfl⟩ := trodVars_none hV
  obtain ⟨l, A1, c1, rfl, hlc, hc1, hl⟩ := open_parts h0 (okWide_slice Try.underlying22 (hval 0 22 v0 rfl rfl)) hsz (j := 0) rfl rfl
  obtain ⟨m, A2, c2, rfl, hmc, hc2, hm⟩ := open_parts h1 (okWide_slice Try.underlying22 (hval 1 22 v1 rfl rfl)) hsz (j := 1) rfl rfl
  clear hA0 hval0
  simp only [List.append_nil] at hW'
  have hlt : ∀ x ∈ p0 ++ p1, x.block < W.heap.size := fun x hx => by simpa using hW'.lt x hx
  refine (values_any W _ l m A1 A2 c1 c2 (fun _ h => h) hl hm hlc hmc hc1 hc2).mono fun e W' ⟨he, hnx⟩ => ?_
  subst he
  refine ⟨_, rfl, _, _, _, [], p0 ++ p1, [], hW', ?_, ?_, rfl, hnx.frame _, fun h => by cases h⟩
  · exact trodAll_mk1 (shut_bool Try.underlying4 true)
  · exact trodAll_mk2 (Below.trod lawLaid (by kernel_rfl) (of_decide_eq_true (by kernel_rfl)) h0 hnx (fun x hx => hlt x (List.mem_append_left _ hx))) (Below.trod lawLaid (by kernel_rfl) (of_decide_eq_true (by kernel_rfl)) h1 hnx (fun x hx => hlt x (List.mem_append_right _ hx)))

theorem values_holds : Rows.TreeValuesSaid :=
  OpenClaim.holds_of_wide 8 Try.f8 rfl rfl rfl rfl rfl rfl rfl ⟨rfl, rfl, rfl, rfl, rfl⟩ rfl rfl rfl rfl rfl (by kernel_rfl) Try.func8 (by kernel_rfl)
    (of_decide_eq_true (by kernel_rfl)) (by unfold Func.isWrapper; first | (rw [if_pos (by decide +kernel)]; kernel_rfl) | (rw [if_neg (by decide +kernel)]; exact ⟨rfl, rfl⟩))
    (fun os started H enc _ => values_lifted os started H enc)

#print axioms values_holds
end Go.Proofs.Ythgbldkcgfggfaa

/-
  trefoillaw02.TreeChecks is true for every input that it is handed, and leaves its arguments as they were. No condition besides the form's own.
-/
import Derived.Test.YthgbldkcgfggfaaLaw
import Derived.Test.YthgbldkcgfggfaaChk1
namespace Go.Proofs.Ythgbldkcgfggfaa
open Go.ChangeShapes Go.WideShapes Go.ChangeAt Go.RowKit

theorem u16_bounds2 {n : Int} (h : (Lit.int .u16 n).wf = true) : 0 ≤ n ∧ n < 65536 := by
  have h1 : IntKind.u16.min = 0 := rfl
  have h2 : IntKind.u16.max = 65535 := rfl
  simp only [Lit.wf, Bool.and_eq_true, decide_eq_true_eq] at h
  omega

set_option maxRecDepth 100000 in
set_option maxHeartbeats 1000000 in
theorem checks_great1 (w : World) (S : Nat → Prop) (l : List Part) (A1 : Option Addr) (c1 : Nat) (more : Int) (hS : ∀ k, S k → k < w.heap.size) (hl : PtsO w S l A1) (hlc : l.length ≤ c1) (hc1 : c1 ≤ 10000000000000) (hg1 : greatB l = true) :
    Calls Try.prog 3 #[.slice A1 l.length c1, .int .u16 more] w fun e w' => e = .returned (.bool true) ∧ Below w.heap.size w w' := by
  have HL := Lib.hid hl
  have HS := Lib.hid hS
  clear hl hS
  go_enter Try.func3, Try.ntmps3
  go_wp2_with fail
  refine (alive_any w).mono ?_
  rintro e w1 ⟨rfl, hb1⟩
  have HB1 := Lib.hid hb1
  clear hb1
  go_wp2_with fail
  obtain ⟨p1, p2⟩ := pts_later HS.out HB1.out HL.out
  refine (great_r w1 S l A1 c1 true p1 p2 hlc hc1 hg1).mono ?_
  rintro e w2 ⟨rfl, hb2⟩
  have HB2 := Lib.hid (HB1.out.trans (hb2.mono HB1.out.size))
  clear hb2 p1 p2
  go_wp2_with fail
  go_ret
  exact ⟨rfl, HB2.out⟩

theorem checks_any (w : World) (S : Nat → Prop) (l : List Part) (A1 : Option Addr) (c1 : Nat) (more : Nat) (hmore : more < 65536) (hS : ∀ k, S k → k < w.heap.size) (hl : PtsO w S l A1) (hlc : l.length ≤ c1) (hc1 : c1 ≤ 10000000000000) :
    Calls Try.prog 3 #[.slice A1 l.length c1, .int .u16 more] w fun e w' => e = .returned (.bool true) ∧ Below w.heap.size w w' := by
  cases hg1 : greatB l with
  | true => exact checks_great1 w S l A1 c1 more hS hl hlc hc1 hg1
  | false => exact checks_main w S l A1 c1 more hmore hS hl hlc hc1 hg1

set_option maxRecDepth 100000 in
theorem checks_lifted (os : Os) (started : os.Started) (H : Type) (enc : TypeId × Value → H) :
    ReturnsInHanded {} Try.checked os 3 .any (Rows.treeChecksSpec.pre6 enc Try.prog Try.f3 Rows.treeChecksRow.domain false) (Rows.treeChecksSpec.post enc Try.prog Try.f3 false true false false) := by
  refine returnsInHanded_of_change_sized (C := Try.checked) lawOwn started (by kernel_rfl) Try.func3
    (ChangeSpec.witness6 (enc := enc) (C := Try.checked) false ⟨#[], #[.slice none 0 0, .int .u16 0], []⟩ 8 (by kernel_rfl) (by kernel_rfl) (by kernel_rfl) (by kernel_rfl)) ?_
  intro W base args ds gs before hval0 hW _ hsz0 _
  have hsz : (DataW.weightsEach Try.prog (Try.f3.params.toList ++ Rows.treeChecksSpec.plain.varTypes Try.prog) (ds ++ gs)).all (· ≤ reachBytes) = true := hsz0
  clear hsz0
  have hval : ∀ (j : Nat) t v, Try.f3.params[j]? = some t → args[j]? = some v → Value.okWide Try.prog W .any base t v := hval0
  have hW' := hW
  obtain ⟨p, q, hA0, hV, rfl, _, _⟩ := hW
  have hA : DataW.TrodAll enc Try.prog W 0 (fun _ => true) true Try.f3.params.toList args.toList ds p := hA0
  rw [Try.params3] at hA hval hsz
  obtain ⟨v0, v1, d0, d1, p0, p1, rfl, rfl, rfl, h0, h1⟩ := trodAll_two hA
  obtain ⟨rfl, rfl⟩ := trodVars_none hV
  obtain ⟨l, A1, c1, rfl, hlc, hc1, hl⟩ := open_parts h0 (okWide_slice Try.underlying22 (hval 0 22 v0 rfl rfl)) hsz (j := 0) rfl rfl
  obtain ⟨more, rfl, rfl, rfl, wm⟩ := open_int Try.underlying23 (hval 1 23 v1 rfl rfl) h1
  clear hA0 hval0
  simp only [List.append_nil] at hW'
  have hlt : ∀ x ∈ p0, x.block < W.heap.size := fun x hx => by simpa using hW'.lt x (by simpa using hx)
  have bm := u16_bounds2 wm
  obtain ⟨m', hm'⟩ : ∃ m' : Nat, more = m' := ⟨more.toNat, by omega⟩
  subst hm'
  refine (checks_any W _ l A1 c1 m' (by omega) (fun _ h => h) hl hlc hc1).mono fun e W' ⟨he, hnx⟩ => ?_
  subst he
  refine ⟨_, rfl, _, _, _, [], p0 ++ [], [], hW', ?_, ?_, rfl, hnx.frame _, fun h => by cases h⟩
  · exact trodAll_mk1 (shut_bool Try.underlying4 true)
  · exact trodAll_mk2 (Below.trod lawLaid (by kernel_rfl) (of_decide_eq_true (by kernel_rfl)) h0 hnx hlt) (shut_int Try.underlying23 wm)

theorem checks_holds : Rows.TreeChecksSaid :=
  OpenClaim.holds_of_wide 3 Try.f3 rfl rfl rfl rfl rfl rfl rfl ⟨rfl, rfl, rfl, rfl, rfl⟩ rfl rfl rfl rfl rfl (by kernel_rfl) Try.func3 (by kernel_rfl)
    (of_decide_eq_true (by kernel_rfl)) (by unfold Func.isWrapper; first | (rw [if_pos (by decide +kernel)]; kernel_rfl) | (rw [if_neg (by decide +kernel)]; exact ⟨rfl, rfl⟩))
    (fun os started H enc _ => checks_lifted os started H enc)

#print axioms checks_holds
end Go.Proofs.Ythgbldkcgfggfaa

/-
  gen.check, trefoilref13.Check.
-/
import Derived.Test.YtnhdgndjpkdhdaaNBack
namespace Go.Proofs.Ytnhdgndjpkdhdaa
open Go.RowKit

def RGr.monoOk (g : RGr) (M : List Int) : Bool := M.all fun m => decide (0 ≤ m) && decide (m < g.nodes.length)
/-- What is said of a graph and monos of it. -/
def RGr.mcode (g : RGr) (M : List Int) : Int := if g.code = 0 then (if g.monoOk M = true then 0 else 2) else g.code
theorem mono_drop (g : RGr) (M : List Int) (k : Nat) (h : k < M.length) : g.monoOk (M.drop k) = ((decide (0 ≤ M[k]) && decide (M[k] < g.nodes.length)) && g.monoOk (M.drop (k + 1))) := by
  unfold RGr.monoOk
  rw [List.drop_eq_getElem_cons h, List.all_cons]
theorem RGr.ok_code {g : RGr} (h : g.code = 0) : g.ok = true := by
  rcases hk : g.ok with _ | _
  · rcases RGr.code_no hk with e | e <;> rw [h] at e <;> cases e
  · rfl
theorem mcode_ok {g : RGr} {M : List Int} (h : g.mcode M = 0) : g.ok = true ∧ g.monoOk M = true := by
  unfold RGr.mcode at h
  by_cases h1 : g.code = 0
  · rw [if_pos h1] at h
    refine ⟨RGr.ok_code h1, ?_⟩
    by_cases h2 : g.monoOk M = true
    · exact h2
    · rw [if_neg h2] at h; cases h
  · rw [if_neg h1] at h; exact absurd h h1
theorem ok_mcode {g : RGr} {M : List Int} (h : g.ok = true) (k : g.monoOk M = true) : g.mcode M = 0 := by
  unfold RGr.mcode
  rw [if_pos (RGr.code_ok h), if_pos k]
theorem mcode_no {g : RGr} {M : List Int} (h : g.mcode M ≠ 0) : g.mcode M = 3 ∨ g.mcode M = 2 := by
  unfold RGr.mcode at h ⊢
  by_cases h1 : g.code = 0
  · rw [if_pos h1] at h ⊢
    by_cases h2 : g.monoOk M = true
    · rw [if_pos h2] at h; exact absurd rfl h
    · rw [if_neg h2]; exact .inr rfl
  · rw [if_neg h1]
    rcases hk : g.ok with _ | _
    · exact RGr.code_no hk
    · exact absurd (RGr.code_ok hk) h1
theorem mono_nat {g : RGr} {M : List Int} (h : g.monoOk M = true) : M = (M.map Int.toNat).map Int.ofNat ∧ ∀ m, m ∈ M.map Int.toNat → m < g.nodes.length := by
  unfold RGr.monoOk at h
  rw [List.all_eq_true] at h
  refine ⟨(ofNat_toNat M fun z hz => ?_).symm, fun m hm => ?_⟩
  · have := h z hz
    simp only [Bool.and_eq_true, decide_eq_true_eq] at this
    exact this.1
  · obtain ⟨z, hz, rfl⟩ := List.mem_map.1 hm
    have := h z hz
    simp only [Bool.and_eq_true, decide_eq_true_eq] at this
    omega

set_option maxRecDepth 100000 in
set_option maxHeartbeats 2000000 in
theorem mcheck_r (w : World) (S S2 : Nat → Prop) (g : RGr) (gv : Value) (M : List Int) (mA : Option Addr) (mc : Nat) (hS : ∀ k, S k → k < w.heap.size) (he : GrV w S g gv) (hS2 : ∀ k, S2 k → k < w.heap.size) (hM : IntsO w S2 M mA) (_hmc : M.length ≤ mc) (hmm : mc ≤ maxLen) :
    Calls Try.prog 23 #[gv, .slice mA M.length mc] w fun e w' => e = .returned (.int .i64 (g.mcode M)) ∧ Below w.heap.size w w' := by
  obtain ⟨A, cN, hgv, hcN, hcN9, oN⟩ := he
  subst hgv
  obtain ⟨w1, hw1⟩ : ∃ w1, w1 = w.alloc (.cells #[.slice A g.nodes.length cN, .int .i64 g.root] 24) := ⟨_, rfl⟩
  have hsz1 : w1.heap.size = w.heap.size + 1 := by rw [hw1]; simp
  have hb1 : Below w.heap.size w w1 := by rw [hw1]; exact (Below.refl _ _).alloc (Nat.le_refl _) _
  have hrow : ∀ W, Below w1.heap.size w1 W → ∀ j, W.cell? ⟨w.heap.size, j, none⟩ = (#[.slice A g.nodes.length cN, .int .i64 g.root] : Array Value)[j]? := fun W hW j =>
    cell_of_row W w.heap.size j _ _ _ ((hW.block w.heap.size (by omega)).trans (by rw [hw1]; exact heap_alloc_new w _))
  have hgr : GrV w1 S g (.agg #[.slice A g.nodes.length cN, .int .i64 g.root]) := ⟨A, cN, rfl, hcN, hcN9, NdsO.keep (fun k hk => ⟨hk, hb1.block k (hS k hk)⟩) _ _ oN⟩
  have hck := check_r w1 S g _ (fun k hk => by have := hS k hk; omega) hgr
  have HCk := Lib.hid hck
  have HRow := Lib.hid hrow
  have HB1 := Lib.hid hb1
  have HM := Lib.hid (IntsO.keep (fun k hk => ⟨hk, hb1.block k (hS2 k hk)⟩) _ _ hM : IntsO w1 S2 M mA)
  have HS2 := Lib.hid (fun k hk => by have := hS2 k hk; omega : ∀ k, S2 k → k < w1.heap.size)
  have c00 := hrow w1 (Below.refl _ _) 0
  have c01 := hrow w1 (Below.refl _ _) 1
  clear oN hS hS2 hM hgr hck hrow hb1
  unfold maxLen at hcN9 hmm
  go_enter Try.func23, Try.ntmps23
  go_wp2_with fail
  rw [← hw1]
  clear hw1
  refine HCk.out.mono ?_
  rintro e w2 ⟨rfl, hb2⟩
  have HB2 := Lib.hid hb2
  have hr2 := HRow.out w2 hb2
  have c0 := hr2 0
  clear hb2 hr2 c00 c01
  obtain ⟨cd, hcd⟩ : ∃ cd, cd = g.code := ⟨_, rfl⟩
  rw [← hcd]
  by_cases h0 : cd = 0
  · have hmco : g.mcode M = if g.monoOk (M.drop 0) = true then 0 else 2 := by unfold RGr.mcode; rw [← hcd, if_pos h0, List.drop_zero]
    have HMc := Lib.hid hmco
    subst h0
    clear hmco hcd
    go_wp2
    go_loopw [15] (fun i wr => ∃ k : Nat, i = .int .i64 k ∧ k ≤ M.length ∧ g.mcode M = (if g.monoOk (M.drop k) = true then 0 else 2) ∧ wr = w2) (fun i _ => M.length - (intOf i).toNat)
    case atStart => exact ⟨0, rfl, Nat.zero_le _, HMc.out, rfl⟩
    case round =>
      obtain ⟨k, rfl, hk, hq, rfl⟩ := hrel
      by_cases hlt : k < M.length
      · obtain ⟨b2, o2, rfl, _, d1⟩ := IntsO.get _ _ (IntsO.keep (S' := S2) (fun k hk => ⟨hk, HB2.out.block k (HS2.out k hk)⟩) _ _ HM.out) k hlt
        have hd := mono_drop g M k hlt
        obtain ⟨x, hx⟩ : ∃ x, x = M[k] := ⟨_, rfl⟩
        rw [← hx] at d1 hd
        rw [hd] at hq
        clear hx hd
        by_cases h1 : x < 0
        · have hq' : g.mcode M = 2 := by rw [hq, decide_eq_false (by omega)]; rfl
          have HQ' := Lib.hid hq'
          clear hq hq'
          go_wp2
          go_ret
          exact ⟨by rw [HQ'.out]; rfl, HB1.out.trans (HB2.out.mono (by omega))⟩
        · by_cases h2 : (g.nodes.length : Int) ≤ x
          · have hq' : g.mcode M = 2 := by rw [hq, decide_eq_true (by omega : 0 ≤ x), decide_eq_false (by omega : ¬ x < (g.nodes.length : Int))]; rfl
            have HQ' := Lib.hid hq'
            clear hq hq'
            go_wp2
            go_ret
            exact ⟨by rw [HQ'.out]; rfl, HB1.out.trans (HB2.out.mono (by omega))⟩
          · have HQ := Lib.hid (by rw [hq, decide_eq_true (by omega : 0 ≤ x), decide_eq_true (by omega : x < (g.nodes.length : Int)), Bool.true_and, Bool.true_and] : g.mcode M = (if g.monoOk (M.drop (k + 1)) = true then 0 else 2))
            clear hq
            go_wp2
            go_roundw
            case rel => exact ⟨k + 1, by go_num, by omega, HQ.out, by first | rfl | trivial⟩
            case measure => simp [intOf]; omega
      · have hk' : k = M.length := by omega
        have hq' : g.mcode M = 0 := by rw [hq, hk', List.drop_length]; rfl
        have HQ' := Lib.hid hq'
        clear hq hq' hk'
        go_wp2
        go_ret
        exact ⟨by rw [HQ'.out]; rfl, HB1.out.trans (HB2.out.mono (by omega))⟩
  · have hmco : g.mcode M = cd := by unfold RGr.mcode; rw [← hcd, if_neg h0]
    have HQ' := Lib.hid hmco
    clear hmco hcd
    go_wp2
    go_ret
    exact ⟨by rw [HQ'.out]; rfl, HB1.out.trans (HB2.out.mono (by omega))⟩

set_option maxRecDepth 100000 in
set_option maxHeartbeats 2000000 in
theorem rmcheck_r (w : World) (S S2 : Nat → Prop) (g : RGr) (gv : Value) (M : List Int) (mA : Option Addr) (mc : Nat) (hS : ∀ k, S k → k < w.heap.size) (he : GrV w S g gv) (hS2 : ∀ k, S2 k → k < w.heap.size) (hM : IntsO w S2 M mA) (_hmc : M.length ≤ mc) (hmm : mc ≤ maxLen) :
    Calls Try.prog 26 #[gv, .slice mA M.length mc] w fun e w' => e = .returned (.int .i64 (g.mcode M)) ∧ Below w.heap.size w w' := by
  obtain ⟨A, cN, hgv, hcN, hcN9, oN⟩ := he
  subst hgv
  obtain ⟨w1, hw1⟩ : ∃ w1, w1 = w.alloc (.cells #[.slice A g.nodes.length cN, .int .i64 g.root] 24) := ⟨_, rfl⟩
  have hsz1 : w1.heap.size = w.heap.size + 1 := by rw [hw1]; simp
  have hb1 : Below w.heap.size w w1 := by rw [hw1]; exact (Below.refl _ _).alloc (Nat.le_refl _) _
  have hrow : ∀ W, Below w1.heap.size w1 W → ∀ j, W.cell? ⟨w.heap.size, j, none⟩ = (#[.slice A g.nodes.length cN, .int .i64 g.root] : Array Value)[j]? := fun W hW j =>
    cell_of_row W w.heap.size j _ _ _ ((hW.block w.heap.size (by omega)).trans (by rw [hw1]; exact heap_alloc_new w _))
  have hgr : GrV w1 S g (.agg #[.slice A g.nodes.length cN, .int .i64 g.root]) := ⟨A, cN, rfl, hcN, hcN9, NdsO.keep (fun k hk => ⟨hk, hb1.block k (hS k hk)⟩) _ _ oN⟩
  have hck := gcheck_r w1 S g _ (fun k hk => by have := hS k hk; omega) hgr
  have HCk := Lib.hid hck
  have HRow := Lib.hid hrow
  have HB1 := Lib.hid hb1
  have HM := Lib.hid (IntsO.keep (fun k hk => ⟨hk, hb1.block k (hS2 k hk)⟩) _ _ hM : IntsO w1 S2 M mA)
  have HS2 := Lib.hid (fun k hk => by have := hS2 k hk; omega : ∀ k, S2 k → k < w1.heap.size)
  have c00 := hrow w1 (Below.refl _ _) 0
  have c01 := hrow w1 (Below.refl _ _) 1
  clear oN hS hS2 hM hgr hck hrow hb1
  unfold maxLen at hcN9 hmm
  go_enter Try.func26, Try.ntmps26
  go_wp2_with fail
  rw [← hw1]
  clear hw1
  refine HCk.out.mono ?_
  rintro e w2 ⟨rfl, hb2⟩
  have HB2 := Lib.hid hb2
  have hr2 := HRow.out w2 hb2
  have c0 := hr2 0
  clear hb2 hr2 c00 c01
  obtain ⟨cd, hcd⟩ : ∃ cd, cd = g.code := ⟨_, rfl⟩
  rw [← hcd]
  by_cases h0 : cd = 0
  · have hmco : g.mcode M = if g.monoOk (M.drop 0) = true then 0 else 2 := by unfold RGr.mcode; rw [← hcd, if_pos h0, List.drop_zero]
    have HMc := Lib.hid hmco
    subst h0
    clear hmco hcd
    go_wp2
    go_loopw [15] (fun i wr => ∃ k : Nat, i = .int .i64 k ∧ k ≤ M.length ∧ g.mcode M = (if g.monoOk (M.drop k) = true then 0 else 2) ∧ wr = w2) (fun i _ => M.length - (intOf i).toNat)
    case atStart => exact ⟨0, rfl, Nat.zero_le _, HMc.out, rfl⟩
    case round =>
      obtain ⟨k, rfl, hk, hq, rfl⟩ := hrel
      by_cases hlt : k < M.length
      · obtain ⟨b2, o2, rfl, _, d1⟩ := IntsO.get _ _ (IntsO.keep (S' := S2) (fun k hk => ⟨hk, HB2.out.block k (HS2.out k hk)⟩) _ _ HM.out) k hlt
        have hd := mono_drop g M k hlt
        obtain ⟨x, hx⟩ : ∃ x, x = M[k] := ⟨_, rfl⟩
        rw [← hx] at d1 hd
        rw [hd] at hq
        clear hx hd
        by_cases h1 : x < 0
        · have hq' : g.mcode M = 2 := by rw [hq, decide_eq_false (by omega)]; rfl
          have HQ' := Lib.hid hq'
          clear hq hq'
          go_wp2
          go_ret
          exact ⟨by rw [HQ'.out]; rfl, HB1.out.trans (HB2.out.mono (by omega))⟩
        · by_cases h2 : (g.nodes.length : Int) ≤ x
          · have hq' : g.mcode M = 2 := by rw [hq, decide_eq_true (by omega : 0 ≤ x), decide_eq_false (by omega : ¬ x < (g.nodes.length : Int))]; rfl
            have HQ' := Lib.hid hq'
            clear hq hq'
            go_wp2
            go_ret
            exact ⟨by rw [HQ'.out]; rfl, HB1.out.trans (HB2.out.mono (by omega))⟩
          · have HQ := Lib.hid (by rw [hq, decide_eq_true (by omega : 0 ≤ x), decide_eq_true (by omega : x < (g.nodes.length : Int)), Bool.true_and, Bool.true_and] : g.mcode M = (if g.monoOk (M.drop (k + 1)) = true then 0 else 2))
            clear hq
            go_wp2
            go_roundw
            case rel => exact ⟨k + 1, by go_num, by omega, HQ.out, by first | rfl | trivial⟩
            case measure => simp [intOf]; omega
      · have hk' : k = M.length := by omega
        have hq' : g.mcode M = 0 := by rw [hq, hk', List.drop_length]; rfl
        have HQ' := Lib.hid hq'
        clear hq hq' hk'
        go_wp2
        go_ret
        exact ⟨by rw [HQ'.out]; rfl, HB1.out.trans (HB2.out.mono (by omega))⟩
  · have hmco : g.mcode M = cd := by unfold RGr.mcode; rw [← hcd, if_neg h0]
    have HQ' := Lib.hid hmco
    clear hmco hcd
    go_wp2
    go_ret
    exact ⟨by rw [HQ'.out]; rfl, HB1.out.trans (HB2.out.mono (by omega))⟩
end Go.Proofs.Ytnhdgndjpkdhdaa

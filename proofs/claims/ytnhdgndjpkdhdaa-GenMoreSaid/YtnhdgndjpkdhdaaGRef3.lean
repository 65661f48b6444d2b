/-
  trefoilref06.Check.
-/
import Derived.Test.YtnhdgndjpkdhdaaGRef2
namespace Go.Proofs.Ytnhdgndjpkdhdaa
open Go.RowKit

/-- Whether a graph may be. -/
def RGr.ok (g : RGr) : Bool := decide (g.nodes.length ≤ 1048576) && (decide (0 ≤ g.root) && decide (g.root < g.nodes.length) && g.nodes.all (RNd.ok g.nodes.length))
/-- What Check answers. -/
def RGr.code (g : RGr) : Int := if 1048576 < g.nodes.length then 3 else if g.ok = true then 0 else 2
theorem RGr.ok_len {g : RGr} (h : g.ok = true) : g.nodes.length ≤ 1048576 := by
  simp only [RGr.ok, Bool.and_eq_true, decide_eq_true_eq] at h
  exact h.1
theorem RGr.code_ok {g : RGr} (h : g.ok = true) : g.code = 0 := by
  have := RGr.ok_len h
  unfold RGr.code
  rw [if_neg (by omega), if_pos h]
theorem RGr.code_no {g : RGr} (h : g.ok = false) : g.code = 3 ∨ g.code = 2 := by
  unfold RGr.code
  rw [h]
  by_cases h1 : 1048576 < g.nodes.length
  · rw [if_pos h1]; exact .inl rfl
  · rw [if_neg h1]; exact .inr rfl
theorem RGr.ok_fit {g : RGr} (h : g.ok = true) : g.gr.Fit := by
  simp only [RGr.ok, Bool.and_eq_true, decide_eq_true_eq] at h
  refine RGr.fit h.2.1 ?_
  rw [List.all_eq_true]
  intro x hx
  have := List.all_eq_true.1 h.2.2 x hx
  simp only [RNd.ok, Bool.and_eq_true] at this
  exact this.1

set_option maxRecDepth 100000 in
set_option maxHeartbeats 2000000 in
theorem gcheck_r (w : World) (S : Nat → Prop) (g : RGr) (v : Value) (hS : ∀ k, S k → k < w.heap.size) (he : GrV w S g v) :
    Calls Try.prog 44 #[v] w fun e w' => e = .returned (.int .i64 g.code) ∧ Below w.heap.size w w' := by
  obtain ⟨nodes, root⟩ := g
  obtain ⟨A, c, rfl, hc, hc9, oN⟩ := he
  simp only [] at hc oN
  have HON := Lib.hid oN
  clear oN
  by_cases hbig : 1048576 < nodes.length
  · have hcode : RGr.code ⟨nodes, root⟩ = 3 := by unfold RGr.code; exact if_pos hbig
    rw [hcode]
    have hlo : (1048576 : Int) < (nodes.length : Int) := by omega
    unfold maxLen at hc9
    go_enter Try.func44, Try.ntmps44
    go_wp2
    go_ret
    exact ⟨rfl, (Below.refl _ _).alloc (Nat.le_refl _) _⟩
  have hcode : RGr.code ⟨nodes, root⟩ = if RGr.ok ⟨nodes, root⟩ = true then 0 else 2 := by unfold RGr.code; exact if_neg hbig
  rw [hcode]
  clear hcode
  obtain ⟨r, hr⟩ : ∃ r, RGr.ok ⟨nodes, root⟩ = r := ⟨_, rfl⟩
  rw [hr]
  simp only [RGr.ok, decide_eq_true (by omega : nodes.length ≤ 1048576), Bool.true_and] at hr
  have hlo : ¬ (1048576 : Int) < (nodes.length : Int) := by omega
  by_cases h0 : 0 ≤ root
  · by_cases h1 : root < nodes.length
    · have hr' : nodes.all (RNd.ok nodes.length) = r := by rw [← hr]; simp [h0, h1]
      have h0' : ¬ root < 0 := by omega
      have h1' : ¬ (nodes.length : Int) ≤ root := by omega
      have HR := Lib.hid hr'
      clear hr hr'
      unfold maxLen at hc9
      go_enter Try.func44, Try.ntmps44
      go_wp2
      obtain ⟨w1, hw1⟩ : ∃ w1, w1 = w.alloc (.cells #[.slice A nodes.length c, .int .i64 root] 24) := ⟨_, rfl⟩
      have hsz1 : w1.heap.size = w.heap.size + 1 := by rw [hw1]; simp
      have hb1 : Below w.heap.size w w1 := by rw [hw1]; exact (Below.refl _ _).alloc (Nat.le_refl _) _
      have hbw : ∀ W, Below w1.heap.size w1 W → Below w.heap.size w W := fun W hW => hb1.trans (hW.mono (by omega))
      have hrow : ∀ W, Below w1.heap.size w1 W → W.cell? ⟨w.heap.size, 0, none⟩ = some (.slice A nodes.length c) := fun W hW =>
        cell_of_row W w.heap.size 0 _ _ _ ((hW.block w.heap.size (by omega)).trans (by rw [hw1]; exact heap_alloc_new w _))
      have HRow := Lib.hid hrow
      have HBw := Lib.hid hbw
      rw [← hw1]
      clear hbw hw1 hsz1 hrow hb1
      go_loopw [4, 23] (fun _ i wr => ∃ k : Nat, i = .int .i64 k ∧ k ≤ nodes.length ∧ (nodes.drop k).all (RNd.ok nodes.length) = r ∧ Below w1.heap.size w1 wr) (fun _ i _ => nodes.length - (intOf i).toNat)
      case atStart => exact ⟨0, rfl, Nat.zero_le _, by rw [List.drop_zero]; exact HR.out, Below.refl _ _⟩
      case round =>
        obtain ⟨k, rfl, hk, hq, hb⟩ := hrel
        have Hq := Lib.hid hq
        have HB := Lib.hid hb
        clear hq hb
        by_cases hlt : k < nodes.length
        · obtain ⟨bm, om, rfl, hmp⟩ := NdsO.get _ _ (NdsO.keep (fun k hk => ⟨hk, (HBw.out _ HB.out).block k (hS k hk)⟩) _ _ HON.out) k hlt
          have hd : (nodes.drop k).all (RNd.ok nodes.length) = (RNd.ok nodes.length nodes[k] && (nodes.drop (k + 1)).all (RNd.ok nodes.length)) := by rw [List.drop_eq_getElem_cons hlt]; rfl
          obtain ⟨x, hx⟩ : ∃ m, m = nodes[k] := ⟨_, rfl⟩
          rw [← hx] at hmp hd
          have hq := Hq.out
          rw [hd] at hq
          obtain ⟨xA, yA, xL, yL, f0, f1, f2, f3, f4, hv⟩ := hmp.val
          have hSr : ∀ k, S k → k < wr.heap.size := fun k hk => Nat.lt_of_lt_of_le (hS k hk) (HBw.out _ HB.out).size
          have hV : NdV wr S x (.agg #[.int .i64 x.kind, .string x.name, .slice xA x.args.length yA, .slice xL x.labels.length yL, .bool x.op]) := ⟨xA, yA, xL, yL, rfl, hv.1, hv.2.1, hv.2.2.1, hv.2.2.2.1, hv.2.2.2.2.1, hv.2.2.2.2.2.1, hv.2.2.2.2.2.2.1⟩
          have HV := Lib.hid hV
          have c0 := HRow.out (wr.alloc (.cells #[.int .i64 x.kind, .string x.name, .slice xA x.args.length yA, .slice xL x.labels.length yL, .bool x.op] 37)) (HB.out.alloc HB.out.size _)
          clear hx hmp hv hV hd
          rcases hc' : x.ok nodes.length with _ | _
          · have hrr : false = r := by rw [← hq, hc']; rfl
            subst hrr
            have HC := Lib.hid hc'
            clear hc' hq
            go_wp2_with (go_at_call 60; refine (gmay_r _ S x _ nodes.length false (by omega) (fun k hk => by have := hSr k hk; simp; omega) (NdV.keep (fun k hk => ⟨hk, Below.heap_alloc _ _ _ (hSr k hk)⟩) HV.out) HC.out).mono ?_; rintro e w' ⟨rfl, hb2⟩; have HB2 := Lib.hid hb2; clear hb2)
            go_ret
            exact ⟨rfl, HBw.out _ ((HB.out.alloc HB.out.size _).trans (HB2.out.mono (by have := HB.out.size; simp; omega)))⟩
          · rw [hc', Bool.true_and] at hq
            have HC := Lib.hid hc'
            have HQ' := Lib.hid hq
            clear hc' hq
            go_wp2_with (go_at_call 60; refine (gmay_r _ S x _ nodes.length true (by omega) (fun k hk => by have := hSr k hk; simp; omega) (NdV.keep (fun k hk => ⟨hk, Below.heap_alloc _ _ _ (hSr k hk)⟩) HV.out) HC.out).mono ?_; rintro e w' ⟨rfl, hb2⟩; have HB2 := Lib.hid hb2; clear hb2)
            go_roundw
            case rel => exact ⟨k + 1, by go_num, by omega, HQ'.out, (HB.out.alloc HB.out.size _).trans (HB2.out.mono (by have := HB.out.size; simp; omega))⟩
            case measure => simp [intOf]; omega
        · have hk' : k = nodes.length := by omega
          have hrr : true = r := by rw [← Hq.out, hk', List.drop_length]; rfl
          subst hrr
          clear hk'
          go_wp2
          go_ret
          exact ⟨rfl, HBw.out _ HB.out⟩
    · have hrr : r = false := by rw [← hr]; simp [h1]
      subst hrr
      have h0' : ¬ root < 0 := by omega
      have h1' : (nodes.length : Int) ≤ root := by omega
      clear hr
      go_enter Try.func44, Try.ntmps44
      go_wp2
      go_ret
      exact ⟨rfl, (Below.refl _ _).alloc (Nat.le_refl _) _⟩
  · have hrr : r = false := by rw [← hr]; simp [h0]
    subst hrr
    have h0' : root < 0 := by omega
    clear hr
    go_enter Try.func44, Try.ntmps44
    go_wp2
    go_ret
    exact ⟨rfl, (Below.refl _ _).alloc (Nat.le_refl _) _⟩
end Go.Proofs.Ytnhdgndjpkdhdaa

/-
  graph.Check.
-/
import Derived.Test.YtnhdgndjpkdhdaaGRef1M
import Derived.Test.YtnhdgndjpkdhdaaDNode2
namespace Go.Proofs.Ytnhdgndjpkdhdaa
open Go.RowKit

theorem nodeMayBe_q (w : World) (S : Nat → Prop) (x : RNd) (b o N : Nat) (r : Bool) (hN : N ≤ 1000000000) (he : NdP w S b o x) (hr : x.ok N = r) (n : Nat) :
    Calls Try.prog 39 #[.pointer (some ⟨b, o, none⟩), .int .i64 N] (w.drewN n) fun e w' => e = .returned (.bool r) ∧ ∃ m, w' = (w.drewN n).drewN m :=
  nodeMayBe_r (w.drewN n) S x b o N r hN (he.keep (w := w) (w' := w.drewN n) fun _ hk => ⟨hk, rfl⟩) hr

set_option maxRecDepth 100000 in
set_option maxHeartbeats 2000000 in
theorem check_r (w : World) (S : Nat → Prop) (g : RGr) (v : Value) (hS : ∀ k, S k → k < w.heap.size) (he : GrV w S g v) :
    Calls Try.prog 17 #[v] w fun e w' => e = .returned (.int .i64 g.code) ∧ Below w.heap.size w w' := by
  obtain ⟨nodes, root⟩ := g
  obtain ⟨A, c, rfl, hc, hc9, oN⟩ := he
  simp only [] at hc oN
  have HON := Lib.hid oN
  clear oN
  by_cases hbig : 1048576 < nodes.length
  · have hcode : RGr.code ⟨nodes, root⟩ = 3 := by unfold RGr.code; exact if_pos hbig
    rw [hcode]
    have hlo : (1048576 : Int) < (nodes.length : Int) := by omega
    unfold maxLen at hc9
    go_enter Try.func17, Try.ntmps17
    go_wp2
    go_ret
    exact ⟨rfl, (Below.refl _ _).alloc (Nat.le_refl _) _⟩
  have hcode : RGr.code ⟨nodes, root⟩ = if RGr.ok ⟨nodes, root⟩ = true then 0 else 2 := by unfold RGr.code; exact if_neg hbig
  rw [hcode]
  clear hcode
  obtain ⟨r, hr⟩ : ∃ r, RGr.ok ⟨nodes, root⟩ = r := ⟨_, rfl⟩
  rw [hr]
  simp only [RGr.ok, decide_eq_true (by omega : nodes.length ≤ 1048576), Bool.true_and] at hr
  have hlo : ¬ (1048576 : Int) < (nodes.length : Int) := by omega
  rcases hin : (decide (0 ≤ root) && decide (root < nodes.length)) with _ | _
  · have hrr : r = false := by rw [← hr, hin]; rfl
    subst hrr
    have HIN := Lib.hid hin
    clear hr hin
    unfold maxLen at hc9
    go_enter Try.func17, Try.ntmps17
    go_wp2_with (go_at_call 38; refine (isNode_r _ root nodes.length _ HIN.out).mono ?_; rintro e w' ⟨rfl, rfl⟩)
    go_ret
    exact ⟨rfl, (Below.refl _ _).alloc (Nat.le_refl _) _⟩
  · have hr' : nodes.all (RNd.ok nodes.length) = r := by rw [← hr, hin, Bool.true_and]
    have HR := Lib.hid hr'
    have HIN := Lib.hid hin
    clear hr hr' hin
    unfold maxLen at hc9
    go_enter Try.func17, Try.ntmps17
    go_wp2_with (go_at_call 38; refine (isNode_r _ root nodes.length _ HIN.out).mono ?_; rintro e w' ⟨rfl, rfl⟩)
    obtain ⟨w1, hw1⟩ : ∃ w1, w1 = w.alloc (.cells #[.slice A nodes.length c, .int .i64 root] 24) := ⟨_, rfl⟩
    have hsz1 : w1.heap.size = w.heap.size + 1 := by rw [hw1]; simp
    have hb1 : Below w.heap.size w w1 := by rw [hw1]; exact (Below.refl _ _).alloc (Nat.le_refl _) _
    have hbw : ∀ W, Below w1.heap.size w1 W → Below w.heap.size w W := fun W hW => hb1.trans (hW.mono (by omega))
    have hrow : ∀ W, Below w1.heap.size w1 W → W.cell? ⟨w.heap.size, 0, none⟩ = some (.slice A nodes.length c) := fun W hW =>
      cell_of_row W w.heap.size 0 _ _ _ ((hW.block w.heap.size (by omega)).trans (by rw [hw1]; exact heap_alloc_new w _))
    have HRow := Lib.hid hrow
    have HBw := Lib.hid hbw
    rw [← hw1]
    clear hbw hw1 hsz1 hrow hb1
    go_loopw [3, 18] (fun _ i wr => ∃ k : Nat, i = .int .i64 k ∧ k ≤ nodes.length ∧ (nodes.drop k).all (RNd.ok nodes.length) = r ∧ Below w1.heap.size w1 wr) (fun _ i _ => nodes.length - (intOf i).toNat)
    case atStart => exact ⟨0, rfl, Nat.zero_le _, by rw [List.drop_zero]; exact HR.out, Below.refl _ _⟩
    case round =>
      obtain ⟨k, rfl, hk, hq, hb⟩ := hrel
      have Hq := Lib.hid hq
      have HB := Lib.hid hb
      have hcN := HRow.out wr hb
      clear hq hb
      by_cases hlt : k < nodes.length
      · obtain ⟨bm, om, rfl, hmp⟩ := NdsO.get _ _ (NdsO.keep (S' := S) (w' := wr) (fun k hk => ⟨hk, (HBw.out _ HB.out).block k (hS k hk)⟩) _ _ HON.out) k hlt
        have hd : (nodes.drop k).all (RNd.ok nodes.length) = (RNd.ok nodes.length nodes[k] && (nodes.drop (k + 1)).all (RNd.ok nodes.length)) := by rw [List.drop_eq_getElem_cons hlt]; rfl
        obtain ⟨x, hx⟩ : ∃ m, m = nodes[k] := ⟨_, rfl⟩
        rw [← hx] at hmp hd
        have hq := Hq.out
        rw [hd] at hq
        have HMP := Lib.hid hmp
        clear hx hmp hd
        rcases hc' : x.ok nodes.length with _ | _
        · have hrr : false = r := by rw [← hq, hc']; rfl
          subst hrr
          have HC := Lib.hid hc'
          clear hc' hq
          go_wp2
          go_quiet ((go_at_call 39; exact Calls.quiet_of (nodeMayBe_q _ S x _ _ nodes.length _ (by omega) HMP.out HC.out _)))
          go_wp2
          go_ret
          exact ⟨rfl, Below.drewN' (HBw.out _ HB.out) nq⟩
        · rw [hc', Bool.true_and] at hq
          have HC := Lib.hid hc'
          have HQ' := Lib.hid hq
          clear hc' hq
          go_wp2
          go_quiet ((go_at_call 39; exact Calls.quiet_of (nodeMayBe_q _ S x _ _ nodes.length _ (by omega) HMP.out HC.out _)))
          go_wp2
          go_roundw
          case rel => exact ⟨k + 1, by go_num, by omega, HQ'.out, Below.drewN' HB.out nq⟩
          case measure => simp [intOf]; omega
      · have hk' : k = nodes.length := by omega
        have hrr : true = r := by rw [← Hq.out, hk', List.drop_length]; rfl
        subst hrr
        clear hk'
        go_wp2
        go_ret
        exact ⟨rfl, HBw.out _ HB.out⟩
end Go.Proofs.Ytnhdgndjpkdhdaa

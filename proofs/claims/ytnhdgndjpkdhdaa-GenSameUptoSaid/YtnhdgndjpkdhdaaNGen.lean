/-
  gen.generic, gen.Generic, gen.isFree.
-/
import Derived.Test.YtnhdgndjpkdhdaaNLib
import Derived.Test.YtnhdgndjpkdhdaaGTrm
namespace Go.Proofs.Ytnhdgndjpkdhdaa
open Go.RowKit Go.Shelf Go.Sort

/-- What monos reach; the nodes that are fixed, and generic. -/
def RGr.held (g : RGr) (M : List Nat) : List Nat := G.heldL g.fa g.nodes.length M
def RGr.isHeld (g : RGr) (M : List Nat) (x : Nat) : Bool := decide (x ∈ g.held M)
def RGr.fixL (g : RGr) (M : List Nat) : List Nat := (List.range g.nodes.length).filter fun x => g.isHeld M x && g.fr x
def RGr.genL (g : RGr) (M : List Nat) : List Nat := (List.range g.nodes.length).filter fun x => decide (x ∈ g.reach) && (!g.isHeld M x && g.fr x)
theorem held_way {g : RGr} (h : g.ok = true) {M : List Nat} (hM : ∀ m, m ∈ M → m < g.nodes.length) (x : Nat) : x ∈ g.held M ↔ ∃ m, m ∈ M ∧ G.Way g.fa m x := G.mem_heldL (fa_lt h) hM x
theorem genL_lt {g : RGr} {M : List Nat} : ∀ x, x ∈ g.genL M → x < g.nodes.length := fun _ hx => List.mem_range.1 (List.mem_filter.1 hx).1
theorem fixL_lt {g : RGr} {M : List Nat} : ∀ x, x ∈ g.fixL M → x < g.nodes.length := fun _ hx => List.mem_range.1 (List.mem_filter.1 hx).1
theorem genL_sort {g : RGr} {M : List Nat} : (g.genL M).Pairwise (· < ·) := List.Pairwise.filter _ List.pairwise_lt_range
theorem genL_len {g : RGr} {M : List Nat} : (g.genL M).length ≤ g.nodes.length := Nat.le_trans (List.length_filter_le _ _) (by simp)
theorem fixL_len {g : RGr} {M : List Nat} : (g.fixL M).length ≤ g.nodes.length := Nat.le_trans (List.length_filter_le _ _) (by simp)
theorem reachU_eq {g : RGr} (h : g.ok = true) : g.reachU = g.reach := by unfold RGr.reachU; rw [if_pos h]
theorem ok_pos {g : RGr} (h : g.ok = true) : 0 < g.nodes.length := by
  have h1 := (RGr.ok_fit h).root
  have hgN : g.gr.nodes.length = g.nodes.length := by simp [RGr.gr]
  omega
theorem gen_perm {g : RGr} (h : g.ok = true) {M : List Nat} (out : List Nat) (ho : ∀ x, x ∈ out ↔ x ∈ g.held M) : ((g.reachU.filter g.fr).filter fun x => !decide (x ∈ out)).Perm (g.genL M) := by
  rw [reachU_eq h]
  obtain ⟨r1, r2, _, _⟩ := reach_facts h
  refine (List.perm_ext_iff_of_nodup ((r1.filter _).filter _) ((List.nodup_range).filter _)).2 fun x => ?_
  unfold RGr.isHeld
  simp only [List.mem_filter, List.mem_range, Bool.and_eq_true, Bool.not_eq_true', decide_eq_true_eq, decide_eq_false_iff_not, ho]
  constructor
  · rintro ⟨⟨h1, h2⟩, h3⟩; exact ⟨r2 x h1, h1, h3, h2⟩
  · rintro ⟨_, h1, h3, h2⟩; exact ⟨⟨h1, h2⟩, h3⟩

set_option maxRecDepth 100000 in
theorem del_none (w : World) (fv : Value) : Calls Try.prog 31 #[.slice none 0 0, fv] w fun e w' => e = .returned (.slice none 0 0) ∧ w' = w := by
  go_enter Try.func31, Try.ntmps31
  go_wp2_with (go_at_call 49; refine (Try.slices_IndexFunc_empty (α := Nat) none 0 fv _).mono ?_; rintro e w' ⟨rfl, rfl⟩)
  go_ret
  exact ⟨rfl, rfl⟩

set_option maxRecDepth 100000 in
theorem generic1_r (W : World) (B Bx N x : Nat) (out : List Nat) (_hN : N ≤ 2000000) (hx : x < N) (hm : MetAt W B N out) (hb : W.cell? ⟨Bx, 0, none⟩ = some (.slice (some ⟨B, 0, none⟩) N N)) :
    Calls Try.prog 45 #[.int .i64 (x : Nat), .pointer (some ⟨Bx, 0, none⟩)] W fun e w' => e = .returned (.bool (decide (x ∈ out))) ∧ ∃ q, w' = W.drewN q := by
  obtain ⟨m1, m2⟩ := hm.cell x hx
  clear hm
  go_enter Try.func45, Try.ntmps45
  go_wp2
  go_ret
  exact ⟨rfl, 0, rfl⟩

set_option maxRecDepth 100000 in
set_option maxHeartbeats 2000000 in
theorem generic_r (w : World) (S S2 : Nat → Prop) (g : RGr) (gv : Value) (M : List Nat) (mA : Option Addr) (mc : Nat) (hok : g.ok = true) (hS : ∀ k, S k → k < w.heap.size) (he : GrV w S g gv)
    (hM : ∀ m, m ∈ M → m < g.nodes.length) (hS2 : ∀ k, S2 k → k < w.heap.size) (hI : IntsO w S2 (M.map Int.ofNat) mA) (hmc : M.length ≤ mc) (hmm : mc ≤ maxLen) :
    Calls Try.prog 29 #[gv, .slice mA M.length mc] w fun e w' => ∃ A c, e = .returned (.slice A (g.genL M).length c) ∧ (g.genL M).length ≤ c ∧ c ≤ maxLen ∧ IntsO w' (fun k => w.heap.size ≤ k ∧ k < w'.heap.size) ((g.genL M).map Int.ofNat) A ∧ Below w.heap.size w w' := by
  have hN := RGr.ok_len hok
  obtain ⟨A, cN, hgv, hcN, hcN9, oN⟩ := he
  subst hgv
  obtain ⟨w1, hw1⟩ : ∃ w1, w1 = w.alloc (.cells #[.slice A g.nodes.length cN, .int .i64 g.root] 24) := ⟨_, rfl⟩
  have hsz1 : w1.heap.size = w.heap.size + 1 := by rw [hw1]; simp
  have hb1 : Below w.heap.size w w1 := by rw [hw1]; exact (Below.refl _ _).alloc (Nat.le_refl _) _
  have hq1 : Blk w1 w.heap.size (.cells #[.slice A g.nodes.length cN, .int .i64 g.root] 24 (0, 0)) := by rw [hw1]; exact Blk.new' _ _ _ rfl
  have hz1 : ∀ k, S k → k < w1.heap.size := fun k hk => by have := hS k hk; omega
  have hz2 : ∀ k, S2 k → k < w1.heap.size := fun k hk => by have := hS2 k hk; omega
  have hA1 : NdsO w1 S g.nodes A := NdsO.keep (fun k hk => ⟨hk, hb1.block k (hS k hk)⟩) _ _ oN
  have hre := reached_r w1 S S2 g A cN M mA mc hok hz1 hA1 hcN hcN9 hM hz2 (IntsO.keep (fun k hk => ⟨hk, hb1.block k (hS2 k hk)⟩) _ _ hI) hmc hmm
  have hgr : ∀ W, Below w1.heap.size w1 W → GrV W S g (.agg #[.slice A g.nodes.length cN, .int .i64 g.root]) := fun W hW => ⟨A, cN, rfl, hcN, hcN9, NdsO.keep (fun k hk => ⟨hk, hW.block k (hz1 k hk)⟩) _ _ hA1⟩
  have hcell : ∀ W, Below w1.heap.size w1 W → W.cell? ⟨w.heap.size, 0, none⟩ = some (.slice A g.nodes.length cN) ∧ W.cell? ⟨w.heap.size, 1, none⟩ = some (.int .i64 g.root) := fun W hW =>
    ⟨(hW.cell (p := ⟨w.heap.size, 0, none⟩) (by simp only; omega)).trans (hq1.cells.1 0), (hW.cell (p := ⟨w.heap.size, 1, none⟩) (by simp only; omega)).trans (hq1.cells.1 1)⟩
  have eg : ∀ args w, (callFunc 45 args).run Try.prog w = .ok (.enter 45 args) w := enters_of Try.func45 (by kernel_rfl) rfl
  have hHel : ∀ out : List Nat, (∀ x, x ∈ out ↔ ∃ m, m ∈ M ∧ G.Way g.fa m x) → ∀ x, x ∈ out ↔ x ∈ g.held M := fun out h x => by rw [h, held_way hok hM]
  have HRe := Lib.hid hre
  have HGr := Lib.hid hgr
  have HC := Lib.hid hcell
  have HB1 := Lib.hid hb1
  have HEg := Lib.hid eg
  have HHel := Lib.hid hHel
  have HOk := Lib.hid hok
  have HZ1 := Lib.hid hz1
  obtain ⟨c00, c01⟩ := hcell w1 (Below.refl _ _)
  unfold maxLen at hcN9 hmm
  clear hS hS2 hI hM oN hA1 hre hgr hcell hb1 eg hHel hok hz1 hz2 hq1
  go_enter Try.func29, Try.ntmps29
  go_wp2_with fail
  rw [← hw1]
  clear hw1
  refine HRe.out.mono ?_
  rintro e w2 ⟨B, out, rfl, g1, g2, g3, g4⟩
  have hz12 := g4.size
  obtain ⟨w3, hw3⟩ : ∃ w3, w3 = w2.alloc (.cells #[.slice (some ⟨B, 0, none⟩) g.nodes.length g.nodes.length] 45) := ⟨_, rfl⟩
  have hb23 : Below w2.heap.size w2 w3 := by rw [hw3]; exact (Below.refl _ _).alloc (Nat.le_refl _) _
  have hz3 : w3.heap.size = w2.heap.size + 1 := by rw [hw3]; simp
  have hb13 := g4.trans (hb23.mono g4.size)
  have hBlt : B < w2.heap.size := (Array.getElem?_eq_some_iff.1 g2).1
  have hm3 : MetAt w3 B g.nodes.length out := (hb23.block _ hBlt).trans g2
  have hx3 : Blk w3 w2.heap.size (.cells #[.slice (some ⟨B, 0, none⟩) g.nodes.length g.nodes.length] 45 (0, 0)) := by rw [hw3]; exact Blk.new' _ _ _ rfl
  have hfree := dfree_o w3 S g _ (fun k hk => Nat.lt_of_lt_of_le (HZ1.out k hk) hb13.size) (HGr.out _ hb13)
  have hper := gen_perm HOk.out out (HHel.out out g3)
  have c3 := HC.out w3 hb13
  have HFree := Lib.hid hfree
  have HPer := Lib.hid hper
  have HM3 := Lib.hid hm3
  have HX3 := Lib.hid hx3
  have HB13 := Lib.hid hb13
  obtain ⟨c30, c31⟩ := c3
  rw [hw3] at c30 c31
  clear g2 g3 g4 hb23 hb13 hm3 hx3 hfree hper c00 c01 HRe
  go_wp2_with fail
  rw [← hw3]
  clear hw3
  refine HFree.out.mono ?_
  rintro e w4 ⟨s, rfl, q1, q2⟩
  have HQ2 := Lib.hid q2
  have hz34 := q2.size
  rcases q1.intsH with ⟨rfl, hL⟩ | ⟨gb, gc, rfl, r1, r2, r3, r4, r5⟩
  · have hgn : g.genL M = [] := by
      have h := HPer.out
      rw [hL] at h
      exact List.Perm.nil_eq h |>.symm
    have HGn := Lib.hid hgn
    clear q1 q2 hL hgn
    go_wp2_with (first | (go_at_call 31; refine (del_none _ _).mono ?_; rintro e w' ⟨rfl, rfl⟩) | (go_at_call 46; refine (Try.slices_Sort_int_none none 0 _).mono ?_; rintro e w' ⟨rfl, rfl⟩))
    go_ret
    refine ⟨none, 0, by rw [HGn.out]; rfl, by rw [HGn.out]; exact Nat.le_refl _, Nat.zero_le _, by rw [HGn.out]; exact trivial, HB1.out.trans ((HB13.out.trans (HQ2.out.mono (by omega))).mono (by omega))⟩
  · have hpw : ∀ W, Keeps (fun k => k = gb) w4 W → ∀ x, x < g.nodes.length → Calls Try.prog 45 (#[.int .i64 (x : Nat)] ++ #[.pointer (some ⟨w2.heap.size, 0, none⟩)]) W fun e w' => e = .returned (.bool (decide (x ∈ out))) ∧ ∃ q, w' = W.drewN q := fun W hW x hx => by
      show Calls Try.prog 45 #[.int .i64 (x : Nat), .pointer (some ⟨w2.heap.size, 0, none⟩)] W _
      refine generic1_r W B w2.heap.size g.nodes.length x out (by omega) hx ?_ ?_
      · exact (hW.block _ (by omega) (by omega)).trans ((q2.block _ (by omega)).trans HM3.out)
      · have hb : W.heap[w2.heap.size]? = w3.heap[w2.heap.size]? := (hW.block w2.heap.size (by omega) (by omega)).trans (q2.block w2.heap.size (by omega))
        exact (World.cell?_of_block (a := ⟨w2.heap.size, 0, none⟩) hb).trans (HX3.out.cells.1 0)
    have hLl : ∀ x, x ∈ g.reachU.filter g.fr → x < g.nodes.length := fun x hx => (reachU_lt g).1 x (List.mem_filter.1 hx).1
    have hl9 : (g.reachU.filter g.fr).length ≤ 2000000 := Nat.le_trans (List.length_filter_le _ _) (Nat.le_trans (reachU_len g) (by decide))
    obtain ⟨L, hL⟩ : ∃ L, L = g.reachU.filter g.fr := ⟨_, rfl⟩
    rw [← hL] at r3 r5 hLl hl9 ⊢
    have hper := HPer.out
    rw [← hL] at hper
    have hdel := del_row w4 45 #[.pointer (some ⟨w2.heap.size, 0, none⟩)] HEg.out (fun x => decide (x ∈ out)) g.nodes.length (ok_pos HOk.out) L hLl gb gc r5 r3 hl9 hpw
    obtain ⟨L2, hL2⟩ : ∃ L2, L2 = L.filter fun x => !decide (x ∈ out) := ⟨_, rfl⟩
    rw [← hL2] at hper hdel
    have hl2 : L2.length ≤ L.length := by rw [hL2]; exact List.length_filter_le _ _
    have hgl : (g.genL M).length = L2.length := hper.length_eq.symm
    have HDel := Lib.hid hdel
    have HPer2 := Lib.hid hper
    have HGl := Lib.hid hgl
    unfold maxLen at r4
    clear q1 q2 r5 hpw hLl hper hdel hL hL2 hgl
    go_wp2_with (first | (go_at_call 31; refine HDel.out.mono ?_; rintro e w5 ⟨rfl, t1, t2⟩; have T1 := Lib.hid t1; have T2 := Lib.hid t2; clear t1 t2) | (go_at_call 46; refine (sort_row w5 L2 (g.genL M) HPer2.out genL_sort gb gc T2.out (Nat.lt_of_lt_of_le r2 T1.out.size) (by omega)).mono ?_; rintro e w6 ⟨rfl, t3, t4⟩; have T3 := Lib.hid t3; have T4 := Lib.hid t4; clear t3 t4))
    go_ret
    have hk := T1.out.trans T3.out
    have hzk := hk.size
    refine ⟨some ⟨gb, 0, none⟩, gc, by rw [HGl.out]; rfl, by rw [HGl.out]; omega, by unfold maxLen; exact r4, ?_, ?_⟩
    · exact IntsO.keep (fun k hk => ⟨by subst hk; omega, rfl⟩) _ _ T4.out.ints
    · exact HB1.out.trans (((HB13.out.trans (HQ2.out.mono (by omega))).trans (hk.below (by omega) (fun i hi e => by omega))).mono (by omega))
end Go.Proofs.Ytnhdgndjpkdhdaa

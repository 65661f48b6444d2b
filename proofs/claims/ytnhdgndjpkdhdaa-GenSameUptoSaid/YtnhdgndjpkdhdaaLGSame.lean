/-
  trefoillaw13.GenSame: without monos a fresh copy is the same type and has no free node in common, with Root mono nothing is copied: so it returns true, and does not panic, for every graph that it is handed, as long as what it reads is of no more than the bulk that the second form names.
-/
import Derived.Test.YtnhdgndjpkdhdaaNPairM
import Derived.Test.YtnhdgndjpkdhdaaDSameM
import Derived.Test.YtnhdgndjpkdhdaaGEqual
import Derived.Deep.CondSized
namespace Go.Proofs.Ytnhdgndjpkdhdaa
open Go.ChangeShapes Go.WideShapes Go.ChangeAt Go.RowKit Go.Deep

set_option maxRecDepth 100000 in
set_option maxHeartbeats 1000000 in
theorem closed_r (w : World) (S : Nat → Prop) (g : RGr) (gv : Value) (hok : g.ok = true) (hS : ∀ k, S k → k < w.heap.size) (hg : GrV w S g gv) :
    Calls Try.prog 20 #[gv] w fun e w' => e = .returned (.bool (decide ((g.reachU.filter g.fr).length = 0))) ∧ Below w.heap.size w w' := by
  have hgK := hg
  obtain ⟨gA, gc, rfl, hgc, hgm, _⟩ := hg
  obtain ⟨w1, hw1⟩ : ∃ w1, w1 = w.alloc (.cells #[.slice gA g.nodes.length gc, .int .i64 g.root] 24) := ⟨_, rfl⟩
  have hb1 : BelC w w1 := by rw [hw1]; exact (BelC.refl w).alloc _
  have hq0 : Blk w1 w.heap.size (.cells #[.slice gA g.nodes.length gc, .int .i64 g.root] 24 (0, 0)) := by rw [hw1]; exact Blk.new' _ _ _ rfl
  have HCk := Lib.hid (fun W (hW : BelC w W) => check_r W S g _ (fun k hk => Nat.lt_of_lt_of_le (hS k hk) (Below.size hW)) (hgK.keep (fun k hk => ⟨hk, Below.block hW k (hS k hk)⟩)))
  have HFr := Lib.hid (fun W (hW : BelC w W) => dfree_r W S g _ (fun k hk => Nat.lt_of_lt_of_le (hS k hk) (Below.size hW)) (hgK.keep (fun k hk => ⟨hk, Below.block hW k (hS k hk)⟩)))
  have hcell : ∀ W, BelC w1 W → (W.cell? ⟨w.heap.size, 0, none⟩ = some (.slice gA g.nodes.length gc) ∧ W.cell? ⟨w.heap.size, 1, none⟩ = some (.int .i64 g.root)) := fun W hW => ⟨BelC.old hW (hq0.cells.1 0), BelC.old hW (hq0.cells.1 1)⟩
  have hc0 : g.code = 0 := by unfold RGr.code; rw [if_neg (by have := RGr.ok_len hok; omega), if_pos hok]
  rw [hc0] at HCk
  obtain ⟨n, hn⟩ : ∃ n, n = (g.reachU.filter g.fr).length := ⟨_, rfl⟩
  rw [← hn] at HFr ⊢
  have HB1 := Lib.hid hb1
  have HC := Lib.hid hcell
  obtain ⟨c0, c1⟩ := hcell w1 (BelC.refl _)
  unfold maxLen at hgm
  clear hgK hS hc0 hok hn hb1 hq0 hcell
  go_enter Try.func20, Try.ntmps20
  go_wp2_with fail
  rw [← hw1]
  clear hw1
  (with_reducible refine (HCk.out w1 HB1.out).mono ?_)
  rintro e w2 ⟨rfl, hb2⟩
  have HB2 := Lib.hid (BelC.trans HB1.out hb2)
  obtain ⟨d0, d1⟩ := HC.out w2 hb2
  clear hb2 c0 c1
  by_cases h0 : n = 0
  · subst h0
    go_wp2_with (go_at_call 19; (with_reducible refine (HFr.out w2 HB2.out).mono ?_); rintro e w3 ⟨A, c, rfl, _, _, _, hb3⟩; have HB3 := Lib.hid (BelC.trans HB2.out hb3); clear hb3)
    go_ret
    exact ⟨rfl, HB3.out⟩
  · have h2 : decide (n = 0) = false := decide_eq_false h0
    go_wp2_with (go_at_call 19; (with_reducible refine (HFr.out w2 HB2.out).mono ?_); rintro e w3 ⟨A, c, rfl, _, _, _, hb3⟩; have HB3 := Lib.hid (BelC.trans HB2.out hb3); clear hb3)
    go_ret
    refine ⟨?_, HB3.out⟩
    rw [h2]
    simp [h0]

section
variable {wC W : World} {S S2 : Nat → Prop} {g : RGr} {gv : Value} {M : List Int} {mA : Option Addr} {mc : Nat}
theorem fresh_e (hF : g.fits) (hE : g.es.length ≤ 4000000) (hS : ∀ k, S k → k < wC.heap.size) (hg : GrV wC S g gv) (hW : BelC wC W) (hS2 : ∀ k, S2 k → k < W.heap.size) (hI : IntsO W S2 M mA) (hmc : M.length ≤ mc) (hmm : mc ≤ maxLen) :
    Calls Try.prog 13 #[gv, .slice mA M.length mc] W fun e w' => ∃ A c, e = .returned (.tuple #[.agg #[.slice A (g.freshU M).nodes.length c, .int .i64 (g.freshU M).root], .int .i64 (g.fcode M)]) ∧ c ≤ maxLen ∧ GrV w' (New W.heap.size w') (g.freshU M) (.agg #[.slice A (g.freshU M).nodes.length c, .int .i64 (g.freshU M).root]) ∧ BelC W w' :=
  (dFresh_r W S S2 g gv M mA mc hF (fun _ => hE) (fun k hk => Nat.lt_of_lt_of_le (hS k hk) (Below.size hW)) (hg.keep (fun k hk => ⟨hk, Below.block hW k (hS k hk)⟩)) hS2 hI hmc hmm).mono fun _ _ ⟨v, h1, h2, h3⟩ => by
    have h2' := h2
    obtain ⟨A, c, rfl, _, hm, _⟩ := h2
    exact ⟨A, c, h1, hm, h2', h3⟩
theorem freel_e (hS : ∀ k, S k → k < wC.heap.size) (hg : GrV wC S g gv) (hW : BelC wC W) : Calls Try.prog 19 #[gv] W fun e w' => ∃ A c, e = .returned (.slice A (g.reachU.filter g.fr).length c) ∧ (g.reachU.filter g.fr).length ≤ c ∧ c ≤ maxLen ∧ Stays w' ((g.reachU.filter g.fr).map Int.ofNat) A ∧ BelC W w' :=
  (dfree_r W S g gv (fun k hk => Nat.lt_of_lt_of_le (hS k hk) (Below.size hW)) (hg.keep (fun k hk => ⟨hk, Below.block hW k (hS k hk)⟩))).mono fun _ _ ⟨A, c, h1, h2, h3, h4, h5⟩ => ⟨A, c, h1, h2, h3, .of h4, h5⟩
end

set_option maxRecDepth 100000 in
set_option maxHeartbeats 4000000 in
theorem lawsame_any (w : World) (S1 : Nat → Prop) (g : RGr) (gv : Value) (hF : g.fits) (hb8 : g.nodes.length ≤ 200000) (hE : g.es.length ≤ 2000000) (hS1 : ∀ k, S1 k → k < w.heap.size) (hg : GrV w S1 g gv) :
    Calls Try.prog 4 #[gv] w fun e w' => e = .returned (.bool true) ∧ Below w.heap.size w w' := by
  have hgK := hg
  obtain ⟨gA, gc, rfl, hgc, hgm, _⟩ := hg
  obtain ⟨w1, hw1⟩ : ∃ w1, w1 = w.alloc (.cells #[.slice gA g.nodes.length gc, .int .i64 g.root] 24) := ⟨_, rfl⟩
  have hb1 : BelC w w1 := by rw [hw1]; exact (BelC.refl w).alloc _
  have hq0 : Blk w1 w.heap.size (.cells #[.slice gA g.nodes.length gc, .int .i64 g.root] 24 (0, 0)) := by rw [hw1]; exact Blk.new' _ _ _ rfl
  have hcell : ∀ W, BelC w1 W → (W.cell? ⟨w.heap.size, 0, none⟩ = some (.slice gA g.nodes.length gc) ∧ W.cell? ⟨w.heap.size, 1, none⟩ = some (.int .i64 g.root)) := fun W hW => ⟨BelC.old hW (hq0.cells.1 0), BelC.old hW (hq0.cells.1 1)⟩
  have hgW : GrV w1 S1 g (.agg #[.slice gA g.nodes.length gc, .int .i64 g.root]) := hgK.keep (fun k hk => ⟨hk, Below.block hb1 k (hS1 k hk)⟩)
  have hSW : ∀ k, S1 k → k < w1.heap.size := fun k hk => Nat.lt_of_lt_of_le (hS1 k hk) (Below.size hb1)
  have HGo := Lib.hid (fun W (hW : BelC w1 W) => good_e (A := none) (l := 0) (c := 0) (m := 300) hSW hgW hW)
  have HCk := Lib.hid (fun W (hW : BelC w1 W) => check_e hSW hgW hW)
  have HGW := Lib.hid hgW
  have HSW := Lib.hid hSW
  have HC := Lib.hid hcell
  have HB1 := Lib.hid hb1
  obtain ⟨cg, hcg⟩ : ∃ c, g.code = c := ⟨_, rfl⟩
  rw [hcg] at HCk
  have HCg := Lib.hid hcg
  unfold maxLen at hgm
  clear hgK hS1 hb1 hq0 hcell hgW hSW hcg
  go_enter Try.func4, Try.ntmps4
  go_wp2_with fail
  rw [← hw1]
  clear hw1
  refine (alive13_r w1).mono ?_
  rintro e w2 ⟨rfl, hb2'⟩
  have hb2 : BelC w1 w2 := hb2'
  have HB2 := Lib.hid hb2
  obtain ⟨k0, k1⟩ := HC.out w2 hb2
  clear hb2 hb2'
  go_wp2_with (first
    | (go_at_call 8; (with_reducible refine (HGo.out w2 HB2.out).mono ?_); rintro e w3 ⟨⟨bb, rfl, h60⟩, hb3⟩; have hb13 := BelC.trans HB2.out hb3; have HB3 := Lib.hid hb13; obtain ⟨j0, j1⟩ := HC.out w3 hb13; clear hb3 hb13; rcases bb with _ | _)
    | (go_at_call 17; (with_reducible refine (HCk.out w3 HB3.out).mono ?_); rintro e w4 ⟨rfl, hb4⟩; have hb14 := BelC.trans HB3.out hb4; have HB4 := Lib.hid hb14; have hx4 := HC.out w4 hb14; clear hb4 hb14; by_cases hc1 : cg = 0 <;> (first | subst hc1 | have hc1b : (cg != 0) = true := bne_iff_ne.2 hc1)))
  · go_ret
    exact ⟨rfl, BelC.trans HB1.out HB3.out⟩
  · have hok := RGr.ok_code HCg.out
    obtain ⟨s1, s2, s3, s4⟩ := same_codes hok (by omega)
    have hg4 : GrV w4 S1 g (.agg #[.slice gA g.nodes.length gc, .int .i64 g.root]) := HGW.out.keep (fun k hk => ⟨hk, Below.block HB4.out k (HSW.out k hk)⟩)
    have hS4 : ∀ k, S1 k → k < w4.heap.size := fun k hk => Nat.lt_of_lt_of_le (HSW.out k hk) (Below.size HB4.out)
    have hfr1 := fresh_e (M := []) (mA := none) (mc := 0) (S2 := fun _ => False) hF (by omega : g.es.length ≤ 4000000) hS4 hg4 (BelC.refl w4) (fun _ h => h.elim) trivial (Nat.le_refl _) (by decide)
    have hfr2 := fun (W : World) (hW : BelC w4 W) (b : Nat) (hb : Blk W b (.cells #[.int .i64 g.root] 3 (0, 0))) => fresh_e (M := [g.root]) (mA := some ⟨b, 0, none⟩) (mc := 1) (S2 := fun k => k = b) hF (by omega : g.es.length ≤ 4000000) hS4 hg4 hW (fun k hk => by subst hk; exact hb.lt) ⟨b, 0, rfl, rfl, hb.cells.1 0, trivial⟩ (Nat.le_refl _) (by decide)
    rw [s1, s2] at hfr1
    rw [s3, s4] at hfr2
    simp only [List.length_nil] at hfr1
    simp only [List.length_cons, List.length_nil, Nat.zero_add] at hfr2
    have hCl := copL_len hok []
    have hfok := fresh_ok hok (copL_lt hok []) (by omega)
    have hsame := fresh_same hok []
    have hfree := fresh_free hok hfok
    have hnone := cop_none hok
    have hlen := fresh_len g (g.copL [])
    obtain ⟨T, hT⟩ : ∃ T, T = g.freshOf (g.copL []) := ⟨_, rfl⟩
    rw [← hT] at hfr1 hfok hsame hfree hlen
    obtain ⟨cl, hcl⟩ : ∃ n, n = (g.copL []).length := ⟨_, rfl⟩
    rw [← hcl] at hnone hlen hCl
    have HOk := Lib.hid hok
    have HG4 := Lib.hid hg4
    have HS4 := Lib.hid hS4
    have HFr2 := Lib.hid hfr2
    have HFok := Lib.hid hfok
    have HSame := Lib.hid hsame
    have HFree := Lib.hid hfree
    have HNone := Lib.hid hnone
    have HLen := Lib.hid hlen
    obtain ⟨k0', k1'⟩ := hx4
    clear hok s1 s2 s3 s4 hg4 hS4 hfr2 hfok hsame hfree hnone hlen hT hcl k0 k1 j0 j1 HGo HCk
    with_reducible refine hfr1.mono ?_
    rintro e w5 ⟨xA, xc, rfl, xm, xv, hb5⟩
    clear hfr1
    have hb6 : BelC w5 (w5.alloc (.cells #[.slice xA T.nodes.length xc, .int .i64 T.root] 24)) := (BelC.refl _).alloc _
    have hq6 : Blk (w5.alloc (.cells #[.slice xA T.nodes.length xc, .int .i64 T.root] 24)) w5.heap.size (.cells #[.slice xA T.nodes.length xc, .int .i64 T.root] 24 (0, 0)) := Blk.new' _ _ _ rfl
    have hb46 := BelC.trans hb5 hb6
    have hxv := xv.keep (w' := w5.alloc (.cells #[.slice xA T.nodes.length xc, .int .i64 T.root] 24)) (S' := fun k => k < w5.heap.size) (fun k hk => ⟨hk.2.1, Below.heap_alloc _ _ _ hk.2.1⟩)
    have hg6 := HG4.out.keep (w' := w5.alloc (.cells #[.slice xA T.nodes.length xc, .int .i64 T.root] 24)) (S' := S1) (fun k hk => ⟨hk, Below.block hb46 k (HS4.out k hk)⟩)
    have hz6 := Below.size hb46
    have hz56 := Below.size hb6
    have hsm := dsame_u (w5.alloc (.cells #[.slice xA T.nodes.length xc, .int .i64 T.root] 24)) (fun k => k < w5.heap.size) S1 T g _ _ true (fun k hk => Nat.lt_of_lt_of_le hk hz56) (fun k hk => Nat.lt_of_lt_of_le (HS4.out k hk) hz6) hxv hg6 ⟨fun _ => ⟨HFok.out, HOk.out, HSame.out⟩, fun _ => rfl⟩
    have HSm := Lib.hid hsm
    have hc6 : ∀ W, BelC (w5.alloc (.cells #[.slice xA T.nodes.length xc, .int .i64 T.root] 24)) W → ((W.cell? ⟨w.heap.size, 0, none⟩ = some (.slice gA g.nodes.length gc) ∧ W.cell? ⟨w.heap.size, 1, none⟩ = some (.int .i64 g.root)) ∧ (W.cell? ⟨w5.heap.size, 0, none⟩ = some (.slice xA T.nodes.length xc) ∧ W.cell? ⟨w5.heap.size, 1, none⟩ = some (.int .i64 T.root))) := fun W hW =>
      ⟨HC.out W (BelC.trans HB4.out (BelC.trans hb46 hW)), BelC.old hW (hq6.cells.1 0), BelC.old hW (hq6.cells.1 1)⟩
    have HC6 := Lib.hid hc6
    have HXv := Lib.hid hxv
    have HG6 := Lib.hid hg6
    have HB46 := Lib.hid hb46
    obtain ⟨⟨g0, g1⟩, f0, f1⟩ := hc6 _ (BelC.refl _)
    clear xv hb5 hb6 hq6 hb46 hxv hg6 hz6 hsm hc6 k0' k1'
    go_wp2_with (go_at_call 18; (with_reducible refine HSm.out.mono ?_); rintro e w7 ⟨rfl, hb7⟩; have HB7 := Lib.hid (show BelC _ w7 from hb7); obtain ⟨⟨p0, p1⟩, q0, q1⟩ := HC6.out w7 hb7; clear hb7)
    have hb67 : BelC (w5.alloc (.cells #[.slice xA T.nodes.length xc, .int .i64 T.root] 24)) w7 := HB7.out
    have hfr7 := freel_e (fun k (hk : k < w5.heap.size) => Nat.lt_of_lt_of_le hk hz56) HXv.out hb67
    obtain ⟨L, hL⟩ : ∃ L, L = T.reachU.filter T.fr := ⟨_, rfl⟩
    have hLf := HFree.out
    rw [← hL] at hfr7 hLf
    have HLf := Lib.hid hLf
    with_reducible refine hfr7.mono ?_
    rintro e w8 ⟨lA, lc, rfl, l1, l2, lst, hb8'⟩
    have hb68 := BelC.trans hb67 hb8'
    obtain ⟨⟨p0, p1⟩, q0, q1⟩ := HC6.out w8 hb68
    have HSt := Lib.hid lst
    have HB68 := Lib.hid hb68
    have HB48 := Lib.hid (BelC.trans HB46.out hb68)
    unfold maxLen at l2
    clear hb67 hfr7 hL hLf lst hb8' hb68 g0 g1 f0 f1
    go_wp2_with fail
    go_loopw [35] (fun v35 wr => ∃ (i n : Nat), v35 = .int .i64 i ∧ i ≤ L.length ∧ wr = w8.drewN n) (fun v35 _ => L.length - (intOf v35).toNat)
    case atStart => exact ⟨0, 0, rfl, Nat.zero_le _, rfl⟩
    case round =>
      obtain ⟨i, n, rfl, hi', rfl⟩ := hrel
      have hbn : BelC w8 (w8.drewN n) := (BelC.refl w8).drewN n
      have HBn := Lib.hid hbn
      by_cases hlt : i < L.length
      · obtain ⟨b, o, rfl, _, d1⟩ := IntsO.get _ _ (HSt.out _ hbn) i (by simpa using hlt)
        rw [List.getElem_map] at d1
        have hx9 := HLf.out _ (List.getElem_mem hlt)
        obtain ⟨x, hx⟩ : ∃ x, x = L[i] := ⟨_, rfl⟩
        rw [← hx] at d1 hx9
        have d1' : (w8.drewN n).cell? ⟨b, o + i, none⟩ = some (.int .i64 (x : Int)) := d1
        have hnl : ¬ ((x : Int) < (g.nodes.length : Int)) := by omega
        clear d1 hx hbn hx9
        go_wp2
        go_roundw
        case rel => exact ⟨i + 1, n, by go_num, by omega, by first | rfl | trivial⟩
        case measure => simp [intOf]; omega
      · clear hbn
        go_wp2_with fail
        have hqa : Blk ((w8.drewN n).alloc (.cells #[.int .i64 g.root] 3)) w8.heap.size (.cells #[.int .i64 g.root] 3 (0, 0)) := Blk.new' _ _ _ (by simp)
        have hba : BelC w8 ((w8.drewN n).alloc (.cells #[.int .i64 g.root] 3)) := HBn.out.alloc _
        have hf2 := HFr2.out _ (BelC.trans HB48.out hba) _ hqa
        with_reducible refine hf2.mono ?_
        rintro e w10 ⟨hA, hc, rfl, hm, hv, hb10⟩
        have hb810 := BelC.trans hba hb10
        have hb11 : BelC w10 (w10.alloc (.cells #[.slice hA g.nodes.length hc, .int .i64 g.root] 24)) := (BelC.refl _).alloc _
        have hq11 : Blk (w10.alloc (.cells #[.slice hA g.nodes.length hc, .int .i64 g.root] 24)) w10.heap.size (.cells #[.slice hA g.nodes.length hc, .int .i64 g.root] 24 (0, 0)) := Blk.new' _ _ _ rfl
        obtain ⟨wD, hwD⟩ : ∃ x, x = w10.alloc (.cells #[.slice hA g.nodes.length hc, .int .i64 g.root] 24) := ⟨_, rfl⟩
        have hwD' := hwD
        rw [← hwD] at hb11 hq11
        have hb6D := BelC.trans HB68.out (BelC.trans hb810 hb11)
        have hb4D := BelC.trans HB48.out (BelC.trans hb810 hb11)
        have hgD : GrV wD S1 g (.agg #[.slice gA g.nodes.length gc, .int .i64 g.root]) := HG4.out.keep (fun k hk => ⟨hk, Below.block hb4D k (HS4.out k hk)⟩)
        have hSD : ∀ k, S1 k → k < wD.heap.size := fun k hk => Nat.lt_of_lt_of_le (HS4.out k hk) (Below.size hb4D)
        have hhD : GrV wD (fun k => k < wD.heap.size) g (.agg #[.slice hA g.nodes.length hc, .int .i64 g.root]) := hv.keep (fun k hk => ⟨Nat.lt_of_lt_of_le hk.2.1 (Below.size hb11), Below.block hb11 k hk.2.1⟩)
        have heq := fun W (hW : BelC wD W) => gequal_r W (fun k => k < wD.heap.size) S1 g g _ _ true (fun k hk => Nat.lt_of_lt_of_le hk (Below.size hW)) (fun k hk => Nat.lt_of_lt_of_le (hSD k hk) (Below.size hW)) (hhD.keep (fun k hk => ⟨hk, Below.block hW k hk⟩)) (hgD.keep (fun k hk => ⟨hk, Below.block hW k (hSD k hk)⟩)) ⟨fun _ => rfl, fun _ => rfl⟩
        have hclo := fun W (hW : BelC wD W) => closed_r W S1 g _ HOk.out (fun k hk => Nat.lt_of_lt_of_le (hSD k hk) (Below.size hW)) (hgD.keep (fun k hk => ⟨hk, Below.block hW k (hSD k hk)⟩))
        have hcD : ∀ W, BelC wD W → (((W.cell? ⟨w.heap.size, 0, none⟩ = some (.slice gA g.nodes.length gc) ∧ W.cell? ⟨w.heap.size, 1, none⟩ = some (.int .i64 g.root)) ∧ (W.cell? ⟨w5.heap.size, 0, none⟩ = some (.slice xA T.nodes.length xc) ∧ W.cell? ⟨w5.heap.size, 1, none⟩ = some (.int .i64 T.root))) ∧ (W.cell? ⟨w10.heap.size, 0, none⟩ = some (.slice hA g.nodes.length hc) ∧ W.cell? ⟨w10.heap.size, 1, none⟩ = some (.int .i64 g.root))) := fun W hW =>
          ⟨HC6.out W (BelC.trans hb6D hW), BelC.old hW (hq11.cells.1 0), BelC.old hW (hq11.cells.1 1)⟩
        obtain ⟨r, hr⟩ : ∃ r, r = decide ((g.reachU.filter g.fr).length = 0) := ⟨_, rfl⟩
        rw [← hr] at hclo
        have hlr : (((T.nodes.length : Int) == (g.nodes.length : Int)) == r) = true := by
          rw [hr, HLen.out, beq_iff_eq, Bool.eq_iff_iff, beq_iff_eq, decide_eq_true_eq, ← HNone.out]
          omega
        have HEq := Lib.hid heq
        have HClo := Lib.hid hclo
        have HCD := Lib.hid hcD
        have HB4D := Lib.hid hb4D
        have HLr := Lib.hid hlr
        obtain ⟨⟨⟨z0, z1⟩, z2, z3⟩, z4, z5⟩ := hcD wD (BelC.refl _)
        have hxD := hcD wD (BelC.refl _)
        clear hqa hba hf2 hv hb10 hb810 hb11 hq11 hb6D hb4D hgD hSD hhD heq hclo hcD hr hlr p0 p1 q0 q1
        rw [hwD'] at z0 z1 z2 z3 z4 z5
        go_wp2_with fail
        rw [← hwD']
        clear hwD hwD' z0 z1 z2 z3 z4 z5
        go_region_held3 (fun W => ((W.cell? ⟨w.heap.size, 0, none⟩ = some (.slice gA g.nodes.length gc) ∧ W.cell? ⟨w.heap.size, 1, none⟩ = some (.int .i64 g.root)) ∧ (W.cell? ⟨w5.heap.size, 0, none⟩ = some (.slice xA T.nodes.length xc) ∧ W.cell? ⟨w5.heap.size, 1, none⟩ = some (.int .i64 T.root))) ∧ (W.cell? ⟨w10.heap.size, 0, none⟩ = some (.slice hA g.nodes.length hc) ∧ W.cell? ⟨w10.heap.size, 1, none⟩ = some (.int .i64 g.root)))
          (first | with_reducible exact hxD | (with_reducible refine HCD.out _ ?_; (· repeat (first | with_reducible assumption | with_reducible exact BelC.refl _ | with_reducible refine BelC.alloc ?_ _ | with_reducible refine BelC.drew ?_))))
          (first
            | (go_at_call 16; (with_reducible refine (HEq.out _ ?_).mono ?_); (· repeat (first | with_reducible assumption | with_reducible exact BelC.refl _ | with_reducible refine BelC.drew ?_)); rintro e w12 ⟨rfl, hb12⟩; refine cut_ (P := BelC wD w12) (BelC.trans ?_ hb12) (fun hbc12 => ?_); (· repeat (first | with_reducible assumption | with_reducible exact BelC.refl _ | with_reducible refine BelC.drew ?_)))
            | (go_at_call 20; (with_reducible refine (HClo.out _ ?_).mono ?_); (· repeat (first | with_reducible assumption | with_reducible exact BelC.refl _ | with_reducible refine BelC.drew ?_)); rintro e w13 ⟨rfl, hb13⟩; refine cut_ (P := BelC wD w13) (BelC.trans ?_ hb13) (fun hbc13 => ?_); (· repeat (first | with_reducible assumption | with_reducible exact BelC.refl _ | with_reducible refine BelC.drew ?_))))
        rw [HLr.out]
        go_wp2_with fail
        go_ret
        exact ⟨rfl, BelC.trans HB1.out (BelC.trans HB4.out (BelC.trans HB4D.out hbc13))⟩
  · go_ret
    exact ⟨rfl, BelC.trans HB1.out HB4.out⟩
theorem es_sum (g : RGr) : g.es.length + 6 * g.nodes.length = (g.nodes.map fun x => x.args.length + 6).sum := by
  have h1 : (List.range g.nodes.length).map (fun i => (g.fa i).length) = g.nodes.map fun x => x.args.length := by
    apply List.ext_getElem
    · simp
    · intro i h1 h2
      simp only [List.length_map] at h2
      simp [RGr.fa, G.Gr.f, RGr.gr, RNd.nd, h2]
  have h2 : g.es.length = (g.nodes.map fun x => x.args.length).sum := by
    unfold RGr.es G.edges
    rw [List.length_flatMap, ← h1]
    simp
  rw [h2]
  generalize g.nodes = l
  induction l with
  | nil => rfl
  | cons x r ih => simp only [List.map_cons, List.sum_cons, List.length_cons] at ih ⊢; omega
theorem bulkGen {H : Type} {g : RGr} {dn dr : DataW H} {ds : List (DataW H)} (h : g.nodes = [] ∨ ∃ elems sp, dn = .slice elems sp ∧ elems.length = g.nodes.length ∧ (g.nodes.map fun x => x.args.length + 6).sum ≤ Rows.uptoBulkAll elems) (hk : Rows.uptoSmall H (.agg [dn, dr] :: ds) = true) : g.es.length + 6 * g.nodes.length ≤ 1048576 := by
  rw [es_sum]
  have h1 := of_decide_eq_true hk
  rcases h with h | ⟨elems, sp, rfl, _, h3⟩
  · rw [h]; decide
  · simp only [Rows.uptoBulkAll, Rows.uptoBulk] at h1
    omega
set_option maxRecDepth 100000 in
theorem gensame_lifted (os : Os) (started : os.Started) (H : Type) (enc : TypeId × Value → H) (F : Stop.Interp) :
    ReturnsInHanded {} Try.checked os 4 .any ((Rows.OpenSpec.upto Rows.genSameSpec).pre6 enc Try.prog Try.f4 Rows.genSameUptoRow.domain false) (((Rows.OpenSpec.upto Rows.genSameSpec).at F).post enc Try.prog Try.f4 false true false false) := by
  refine returnsInHanded_of_cond_sized (C := Try.checked) (s := Rows.OpenSpec.upto Rows.genSameSpec) (k := Rows.uptoSmall) rfl lawOwn started (by kernel_rfl) Try.func4
    (OpenSpec.witness (enc := enc) (C := Try.checked) (s := Rows.OpenSpec.upto Rows.genSameSpec) (k := Rows.uptoSmall) rfl false ⟨#[], #[.agg #[.slice none 0 0, .int .i64 0]], []⟩ 8 (by kernel_rfl) (by kernel_rfl) (by kernel_rfl)
      (x := ([.agg [.nil, .lit (.int .i64 0)]], [], [])) (by kernel_rfl) rfl (by kernel_rfl)) ?_
  intro W base args ds gs before hval0 hW _ hk hsz0 _
  have hsz : (DataW.weightsEach Try.prog (Try.f4.params.toList ++ Rows.genSameSpec.plain.varTypes Try.prog) (ds ++ gs)).all (· ≤ reachBytes) = true := hsz0
  clear hsz0
  have hval : ∀ (j : Nat) t v, Try.f4.params[j]? = some t → args[j]? = some v → Value.okWide Try.prog W .any base t v := hval0
  have hW' := hW
  obtain ⟨p, q, hA0, hV, rfl, _, _⟩ := hW
  have hA : DataW.TrodAll enc Try.prog W 0 (fun _ => true) true Try.f4.params.toList args.toList ds p := hA0
  rw [Try.params4] at hA hval hsz
  obtain ⟨v0, d0, rfl, rfl, h0⟩ := trodAll_one hA
  obtain ⟨rfl, rfl⟩ := trodVars_none hV
  have hsz1 : (DataW.weightsEach Try.prog [24] [d0]).all (· ≤ reachBytes) = true := hsz
  have hwt := fun n hn => of_decide_eq_true (List.all_eq_true.1 hsz1 n hn)
  obtain ⟨g, hg, hF, _, dn, dr, rfl, hdn⟩ := open_graph (hval 0 24 v0 rfl rfl) h0 (fun n hn => hwt n (DataW.weights_mem_each (j := 0) (t := 24) (d := d0) rfl rfl n hn))
  have hn := bulkGen hdn hk
  clear hA0 hval0
  simp only [List.append_nil] at hW'
  have hlt : ∀ x ∈ p, x.block < W.heap.size := fun x hx => by simpa using hW'.lt x (by simpa using hx)
  refine (lawsame_any W _ g v0 hF (by omega) (by omega) (fun _ h => h) hg).mono fun e W' ⟨he, hnx⟩ => ?_
  subst he
  refine ⟨_, rfl, _, _, _, [], p, [], hW', ?_, ?_, rfl, hnx.frame _, fun h => by cases h⟩
  · exact trodAll_mk1 (shut_bool Try.underlying4 true)
  · exact trodAll_mk1 (Below.trod lawLaid (by kernel_rfl) (of_decide_eq_true (by kernel_rfl)) h0 hnx hlt)

theorem gensame_holds : Rows.GenSameUptoSaid :=
  OpenClaim.holds_of_cond 4 Try.f4 rfl rfl rfl rfl rfl rfl rfl ⟨rfl, rfl, rfl, rfl, rfl⟩ rfl rfl rfl rfl rfl (by kernel_rfl) Try.func4 (by kernel_rfl)
    (of_decide_eq_true (by kernel_rfl)) (by unfold Func.isWrapper; first | (rw [if_pos (by decide +kernel)]; kernel_rfl) | (rw [if_neg (by decide +kernel)]; exact ⟨rfl, rfl⟩))
    (fun os started H enc _ F => gensame_lifted os started H enc F)

#print axioms gensame_holds
end Go.Proofs.Ytnhdgndjpkdhdaa

/-
  trefoillaw06.GraphTrims is true for every input that it is handed, and leaves its arguments as they were.
-/
import Derived.Test.YtipehahfbcbigaaLCom
import Derived.Test.YtipehahfbcbigaaLTrimP
import Derived.Test.YtipehahfbcbigaaDTrim
import Derived.Test.YtipehahfbcbigaaGEqual
namespace Go.Proofs.Ytipehahfbcbigaa
open Go.ChangeShapes Go.WideShapes Go.ChangeAt Go.RowKit Go.Deep

theorem dtrim_c {w1 W : World} {S : Nat → Prop} {g : RGr} {gv : Value} (hF : g.fits) (hS : ∀ k, S k → k < w1.heap.size) (hg : GrV w1 S g gv) (hW : BelC w1 W) : Calls Try.prog 11 #[gv] W fun e w' => ∃ tA tc, e = .returned (.agg #[.slice tA g.trimU.nodes.length tc, .int .i64 g.trimU.root]) ∧ GrV w' (fun k => W.heap.size ≤ k ∧ k < w'.heap.size) g.trimU (.agg #[.slice tA g.trimU.nodes.length tc, .int .i64 g.trimU.root]) ∧ BelC w1 w' ∧ BelC W w' :=
  (dTrim_u W S g gv hF (fun k hk => Nat.lt_of_lt_of_le (hS k hk) (Below.size hW)) (hg.keep (fun k hk => ⟨hk, Below.block hW k (hS k hk)⟩))).mono fun _ _ ⟨v, h1, h2, h3⟩ => by
    have h2' := h2
    obtain ⟨tA, tc, rfl, _, _, _⟩ := h2
    exact ⟨tA, tc, h1, h2', Below.trans hW (h3.mono (Below.size hW)), h3⟩
theorem dreach_c {w1 W : World} {S : Nat → Prop} {g : RGr} {gv : Value} (hS : ∀ k, S k → k < w1.heap.size) (hg : GrV w1 S g gv) (hW : BelC w1 W) : Calls Try.prog 16 #[gv] W fun e w' => ∃ A c, e = .returned (.slice A g.reachU.length c) ∧ g.reachU.length ≤ c ∧ c ≤ maxLen ∧ IntsO w' (fun k => W.heap.size ≤ k ∧ k < w'.heap.size) (g.reachU.map Int.ofNat) A ∧ BelC w1 w' ∧ BelC W w' :=
  (dreach_u W S g gv (fun k hk => Nat.lt_of_lt_of_le (hS k hk) (Below.size hW)) (hg.keep (fun k hk => ⟨hk, Below.block hW k (hS k hk)⟩))).mono fun _ _ ⟨A, c, h1, h2, h3, h4, h5⟩ => ⟨A, c, h1, h2, h3, h4, Below.trans hW (h5.mono (Below.size hW)), h5⟩
theorem gequal_c {w1 W : World} {S1 S2 : Nat → Prop} {g h : RGr} {gv hv : Value} {b : Bool} (hS1 : ∀ k, S1 k → k < W.heap.size) (hg : GrV W S1 g gv) (hS2 : ∀ k, S2 k → k < W.heap.size) (hh : GrV W S2 h hv) (hb : b = true ↔ g = h) (hW : BelC w1 W) :
    Calls Try.prog 20 #[gv, hv] W fun e w' => e = .returned (.bool b) ∧ BelC w1 w' :=
  (gequal_r W S1 S2 g h gv hv b hS1 hS2 hg hh hb).mono fun _ _ ⟨h1, h2⟩ => ⟨h1, Below.trans hW (h2.mono (Below.size hW))⟩
set_option maxRecDepth 100000 in
set_option maxHeartbeats 2000000 in
theorem lawtrims_any (w : World) (S1 S2 : Nat → Prop) (g h : RGr) (gv hv : Value) (hF : g.fits) (hS1 : ∀ k, S1 k → k < w.heap.size) (hS2 : ∀ k, S2 k → k < w.heap.size) (hg : GrV w S1 g gv) (hh : GrV w S2 h hv) :
    Calls Try.prog 5 #[gv, hv] w fun e w' => e = .returned (.bool true) ∧ Below w.heap.size w w' := by
  have hgK := hg
  have hhK := hh
  obtain ⟨gA, gc, rfl, _, _, _⟩ := hg
  obtain ⟨hA, hc, rfl, _, _, _⟩ := hh
  obtain ⟨w1, hw1⟩ : ∃ w1, w1 = (w.alloc (.cells #[.slice gA g.nodes.length gc, .int .i64 g.root] 24)).alloc (.cells #[.slice hA h.nodes.length hc, .int .i64 h.root] 24) := ⟨_, rfl⟩
  have hsz1 : w1.heap.size = w.heap.size + 2 := by rw [hw1]; simp
  have hb1 : Below w.heap.size w w1 := by rw [hw1]; exact ((Below.refl _ _).alloc (Nat.le_refl _) _).alloc (by simp) _
  have hq0 : Blk w1 w.heap.size (.cells #[.slice gA g.nodes.length gc, .int .i64 g.root] 24 (0, 0)) := by rw [hw1]; exact (Blk.new' _ _ _ rfl).alloc _
  have hq1 : Blk w1 (w.heap.size + 1) (.cells #[.slice hA h.nodes.length hc, .int .i64 h.root] 24 (0, 0)) := by rw [hw1]; exact Blk.new' _ _ _ (by simp)
  have hcell : ∀ W, BelC w1 W → (W.cell? ⟨w.heap.size, 0, none⟩ = some (.slice gA g.nodes.length gc) ∧ W.cell? ⟨w.heap.size, 1, none⟩ = some (.int .i64 g.root) ∧ W.cell? ⟨w.heap.size + 1, 0, none⟩ = some (.slice hA h.nodes.length hc) ∧ W.cell? ⟨w.heap.size + 1, 1, none⟩ = some (.int .i64 h.root)) := fun W hW => ⟨BelC.old hW (hq0.cells.1 0), BelC.old hW (hq0.cells.1 1), BelC.old hW (hq1.cells.1 0), BelC.old hW (hq1.cells.1 1)⟩
  have hgW := hgK.keep (w' := w1) (S' := S1) (fun k hk => ⟨hk, hb1.block k (hS1 k hk)⟩)
  have hhW := hhK.keep (w' := w1) (S' := S2) (fun k hk => ⟨hk, hb1.block k (hS2 k hk)⟩)
  have hT1 : ∀ k, S1 k → k < w1.heap.size := fun k hk => Nat.lt_of_lt_of_le (hS1 k hk) hb1.size
  have hT2 : ∀ k, S2 k → k < w1.heap.size := fun k hk => Nat.lt_of_lt_of_le (hS2 k hk) hb1.size
  obtain ⟨cg, hcg⟩ : ∃ c, g.code = c := ⟨_, rfl⟩
  obtain ⟨ch, hch⟩ : ∃ c, h.code = c := ⟨_, rfl⟩
  have HGg := Lib.hid (fun W (hW : BelC w1 W) => great_c hT1 hgW hW)
  have HGh := Lib.hid (fun W (hW : BelC w1 W) => great_c hT2 hhW hW)
  have hKg := fun W (hW : BelC w1 W) => check_c hT1 hgW hW
  have hKh := fun W (hW : BelC w1 W) => check_c hT2 hhW hW
  rw [hcg] at hKg
  rw [hch] at hKh
  have HKg := Lib.hid hKg
  have HKh := Lib.hid hKh
  have HTr := Lib.hid (fun W (hW : BelC w1 W) => dtrim_c hF hT1 hgW hW)
  have HC := Lib.hid hcell
  have HB1 := Lib.hid hb1
  have HCg := Lib.hid hcg
  have HCh := Lib.hid hch
  have HGW := Lib.hid hgW
  have HHW := Lib.hid hhW
  have HT1 := Lib.hid hT1
  have HT2 := Lib.hid hT2
  have HF := Lib.hid hF
  clear hgK hhK hS1 hS2 hb1 hq0 hq1 hcell hgW hhW hT1 hT2 hcg hch hKg hKh hF
  go_enter Try.func5, Try.ntmps5
  go_wp2_with fail
  rw [← hw1]
  clear hw1
  refine (alive_c (BelC.refl w1)).mono ?_
  rintro e w2 ⟨rfl, hb2⟩
  have HB2 := Lib.hid hb2
  obtain ⟨k0, k1, k2, k3⟩ := HC.out w2 hb2
  clear hb2
  go_upto_region 5 with (first
    | (go_at_call 10; (with_reducible refine (HGg.out w2 HB2.out).mono ?_); rintro e w3 ⟨⟨z, rfl⟩, hb3⟩; have HB3 := Lib.hid hb3; obtain ⟨j0, j1, j2, j3⟩ := HC.out w3 hb3; clear hb3; by_cases hz : (500 : Int) < z)
    | (go_at_call 10; (with_reducible refine (HGh.out w3 HB3.out).mono ?_); rintro e w4 ⟨⟨z2, rfl⟩, hb4⟩; have HB4 := Lib.hid hb4; obtain ⟨i0, i1, i2, i3⟩ := HC.out w4 hb4; clear hb4; by_cases hz2 : (500 : Int) < z2)
    | (go_at_call 13; (with_reducible refine (HKg.out w4 HB4.out).mono ?_); rintro e w5 ⟨rfl, hb5⟩; have HB5 := Lib.hid hb5; obtain ⟨l0, l1, l2, l3⟩ := HC.out w5 hb5; clear hb5; by_cases hz3 : cg = 0 <;> (first | subst hz3 | have hz3b : (cg != 0) = true := bne_iff_ne.2 hz3))
    | (go_at_call 13; (with_reducible refine (HKh.out w5 HB5.out).mono ?_); rintro e w6 ⟨rfl, hb6⟩; have HB6 := Lib.hid hb6; have hx6 := HC.out w6 hb6; clear hb6; by_cases hz4 : ch = 0 <;> (first | subst hz4 | have hz4b : (ch != 0) = true := bne_iff_ne.2 hz4)))
  all_goals try (go_ret; first | exact ⟨rfl, HB1.out.trans (Below.mono HB3.out HB1.out.size)⟩ | exact ⟨rfl, HB1.out.trans (Below.mono HB4.out HB1.out.size)⟩ | exact ⟨rfl, HB1.out.trans (Below.mono HB5.out HB1.out.size)⟩ | exact ⟨rfl, HB1.out.trans (Below.mono HB6.out HB1.out.size)⟩)
  have hok := RGr.ok_of_code HCg.out
  have hokh := RGr.ok_of_code HCh.out
  have htU : g.trimU = g.trim := by unfold RGr.trimU; rw [if_pos hok]
  have hb6 := HB6.out
  have htr := HTr.out
  rw [htU] at htr
  have HTr2 := Lib.hid htr
  obtain ⟨T, hT⟩ : ∃ T, T = g.trim := ⟨_, rfl⟩
  rw [← hT] at htr
  have htr' : ∀ W, BelC w6 W → Calls Try.prog 11 #[.agg #[.slice gA g.nodes.length gc, .int .i64 g.root]] W fun e w' => ∃ tA tc, e = .returned (.agg #[.slice tA T.nodes.length tc, .int .i64 0]) ∧ GrV w' (fun k => w6.heap.size ≤ k ∧ k < w'.heap.size) T (.agg #[.slice tA T.nodes.length tc, .int .i64 0]) ∧ BelC w6 w' := fun W hW => by
    refine (htr W (Below.trans hb6 (Below.mono hW (Below.size hb6)))).mono ?_
    rintro e w' ⟨tA, tc, h1, h2, h3, h4⟩
    have h0 : T.root = 0 := by rw [hT]; rfl
    rw [h0] at h1 h2
    exact ⟨tA, tc, h1, GrV.keep (fun k hk => ⟨⟨Nat.le_trans (Below.size hW) hk.1, hk.2⟩, rfl⟩) h2, Below.trans hW (Below.mono h4 (Below.size hW))⟩
  have HTr3 := Lib.hid htr'
  have HT := Lib.hid hT
  have HOk := Lib.hid hok
  have HOkh := Lib.hid hokh
  have hbr := BelC.refl w6
  have hc6 : ∀ W, BelC w6 W → (W.cell? ⟨w.heap.size, 0, none⟩ = some (.slice gA g.nodes.length gc) ∧ W.cell? ⟨w.heap.size, 1, none⟩ = some (.int .i64 g.root) ∧ W.cell? ⟨w.heap.size + 1, 0, none⟩ = some (.slice hA h.nodes.length hc) ∧ W.cell? ⟨w.heap.size + 1, 1, none⟩ = some (.int .i64 h.root)) := fun W hW => HC.out W (Below.trans hb6 (Below.mono hW (Below.size hb6)))
  have HC6 := Lib.hid hc6
  clear htr htr' hT hok hokh htU HTr HTr2 hc6 hb6 k0 k1 k2 k3 j0 j1 j2 j3 i0 i1 i2 i3 l0 l1 l2 l3
  obtain ⟨x0, x1, x2, x3⟩ := hx6
  go_upto_region 6 with (go_at_call 11; (with_reducible refine (HTr3.out _ hbr).mono ?_); rintro e w7 ⟨tA, tc, rfl, ht7, hb7⟩; have HT7 := Lib.hid ht7; have HB7 := Lib.hid hb7; clear ht7 hb7)
  have hb68 : BelC w6 (w7.alloc (.cells #[.slice tA T.nodes.length tc, .int .i64 0] 24)) := HB7.out.alloc _
  have hq8 : Blk (w7.alloc (.cells #[.slice tA T.nodes.length tc, .int .i64 0] 24)) w7.heap.size (.cells #[.slice tA T.nodes.length tc, .int .i64 0] 24 (0, 0)) := Blk.new' _ _ _ rfl
  have ht8 : GrV (w7.alloc (.cells #[.slice tA T.nodes.length tc, .int .i64 0] 24)) (fun k => k < w7.heap.size) T (.agg #[.slice tA T.nodes.length tc, .int .i64 0]) := HT7.out.keep (fun k hk => ⟨hk.2, Below.heap_alloc _ _ _ hk.2⟩)
  have hz8 : w7.heap.size < (w7.alloc (.cells #[.slice tA T.nodes.length tc, .int .i64 0] 24)).heap.size := by simp
  generalize (w7.alloc (.cells #[.slice tA T.nodes.length tc, .int .i64 0] 24)) = w8 at hb68 hq8 ht8 hz8 ⊢
  obtain ⟨tb, htb⟩ : ∃ tb, tb = w7.heap.size := ⟨_, rfl⟩
  rw [← htb] at hq8 ht8 hz8 ⊢
  have hb18 : BelC w1 w8 := Below.trans HB6.out (Below.mono hb68 (Below.size HB6.out))
  have hg8 := HGW.out.keep (w' := w8) (S' := S1) (fun k hk => ⟨hk, Below.block hb18 k (HT1.out k hk)⟩)
  have hh8 := HHW.out.keep (w' := w8) (S' := S2) (fun k hk => ⟨hk, Below.block hb18 k (HT2.out k hk)⟩)
  have hS1 : ∀ k, S1 k → k < w8.heap.size := fun k hk => Nat.lt_of_lt_of_le (HT1.out k hk) (Below.size hb18)
  have hS2 : ∀ k, S2 k → k < w8.heap.size := fun k hk => Nat.lt_of_lt_of_le (HT2.out k hk) (Below.size hb18)
  have hSt : ∀ k, k < tb → k < w8.heap.size := fun k hk => by omega
  have hTok : T.ok = true := by rw [HT.out]; exact RGr.trim_ok HOk.out
  have hTU : T.trimU = T := by rw [HT.out]; exact RGr.trim_trimU HOk.out
  have hTF : T.fits := by rw [HT.out]; exact RGr.trim_fits HOk.out HF.out
  have hTs : G.Same g.gr.f g.root.toNat T.gr.f T.root.toNat := by rw [HT.out]; exact RGr.trim_same HOk.out
  have hTr : T.root = 0 := by rw [HT.out]; rfl
  have hTn : g.reachU.length = T.nodes.length := by rw [HT.out]; unfold RGr.reachU; rw [if_pos HOk.out]; simp [RGr.trim]
  have c1 := fun W (hW : BelC w8 W) => dsame_c (b := true) hS1 hg8 hSt ht8 ⟨fun _ => ⟨HOk.out, hTok, hTs⟩, fun _ => rfl⟩ hW
  have c2 := fun W (hW : BelC w8 W) => dsame_c (b := true) hSt ht8 hS1 hg8 ⟨fun _ => ⟨hTok, HOk.out, hTs.symm⟩, fun _ => rfl⟩ hW
  have c3 := fun W (hW : BelC w8 W) => dsame_c (b := true) hS1 hg8 hS1 hg8 ⟨fun _ => ⟨HOk.out, HOk.out, G.Same.refl _ _⟩, fun _ => rfl⟩ hW
  obtain ⟨b, hb⟩ : ∃ b : Bool, b = true ↔ G.Same g.gr.f g.root.toNat h.gr.f h.root.toNat := by
    by_cases h : G.Same g.gr.f g.root.toNat h.gr.f h.root.toNat
    · exact ⟨true, by simp [h]⟩
    · exact ⟨false, by simp [h]⟩
  have c4 := fun W (hW : BelC w8 W) => dsame_c (b := b) hS1 hg8 hS2 hh8 ⟨fun e => ⟨HOk.out, HOkh.out, hb.1 e⟩, fun e => hb.2 e.2.2⟩ hW
  have c5 := fun W (hW : BelC w8 W) => dsame_c (b := b) hS2 hh8 hS1 hg8 ⟨fun e => ⟨HOkh.out, HOk.out, (hb.1 e).symm⟩, fun e => hb.2 e.2.2.symm⟩ hW
  have c6 := fun W (hW : BelC w8 W) => dtrim_c hTF hSt ht8 hW
  rw [hTU, hTr] at c6
  have c7 := fun W (hW : BelC w8 W) => dreach_c hS1 hg8 hW
  rw [hTn] at c7
  have c8 : ∀ (w9 W : World) (A2 : Option Addr) (k2 : Nat) (S : Nat → Prop), (∀ k, S k → k < w9.heap.size) → GrV w9 S T (.agg #[.slice A2 T.nodes.length k2, .int .i64 0]) → BelC w8 w9 → BelC w9 W → Calls Try.prog 20 #[.agg #[.slice A2 T.nodes.length k2, .int .i64 0], .agg #[.slice tA T.nodes.length tc, .int .i64 0]] W fun e w' => e = .returned (.bool true) ∧ BelC w8 w' := fun w9 W A2 k2 S hS h9 hb9 hW => by
    have hbW : BelC w8 W := Below.trans hb9 (Below.mono hW (Below.size hb9))
    exact gequal_c (fun k hk => Nat.lt_of_lt_of_le (hS k hk) (Below.size hW)) (h9.keep (fun k hk => ⟨hk, Below.block hW k (hS k hk)⟩)) (fun k hk => Nat.lt_of_lt_of_le (hSt k hk) (Below.size hbW)) (ht8.keep (fun k hk => ⟨hk, Below.block hbW k (hSt k hk)⟩)) ⟨fun _ => rfl, fun _ => rfl⟩ hbW
  have hcl : ∀ W, BelC w8 W → (W.cell? ⟨w.heap.size, 0, none⟩ = some (.slice gA g.nodes.length gc) ∧ W.cell? ⟨w.heap.size, 1, none⟩ = some (.int .i64 g.root) ∧ W.cell? ⟨w.heap.size + 1, 0, none⟩ = some (.slice hA h.nodes.length hc) ∧ W.cell? ⟨w.heap.size + 1, 1, none⟩ = some (.int .i64 h.root) ∧ W.cell? ⟨tb, 0, none⟩ = some (.slice tA T.nodes.length tc) ∧ W.cell? ⟨tb, 1, none⟩ = some (.int .i64 0)) := fun W hW => by
    obtain ⟨h1, h2, h3, h4⟩ := HC.out W (Below.trans hb18 (Below.mono hW (Below.size hb18)))
    exact ⟨h1, h2, h3, h4, BelC.old hW (hq8.cells.1 0), BelC.old hW (hq8.cells.1 1)⟩
  have K1 := Lib.hid c1
  have K2 := Lib.hid c2
  have K3 := Lib.hid c3
  have K4 := Lib.hid c4
  have K5 := Lib.hid c5
  have K6 := Lib.hid c6
  have K7 := Lib.hid c7
  have K8 := Lib.hid c8
  have KC := Lib.hid hcl
  have KB := Lib.hid (HB1.out.trans (Below.mono hb18 HB1.out.size) : Below w.heap.size w w8)
  have hx8 := hcl w8 (BelC.refl _)
  have hb88 := BelC.refl w8
  clear c1 c2 c3 c4 c5 c6 c7 c8 hcl hb68 hq8 ht8 hz8 hb18 hg8 hh8 hS1 hS2 hSt hTok hTU hTF hTs hTr hTn hb htb x0 x1 x2 x3 HGg HGh HKg HKh HTr3 HC6 HC hbr HB2 HB3 HB4 HB5 HB6 HT7 HB7
  go_region_held3 (fun W => W.cell? ⟨w.heap.size, 0, none⟩ = some (.slice gA g.nodes.length gc) ∧ W.cell? ⟨w.heap.size, 1, none⟩ = some (.int .i64 g.root) ∧ W.cell? ⟨w.heap.size + 1, 0, none⟩ = some (.slice hA h.nodes.length hc) ∧ W.cell? ⟨w.heap.size + 1, 1, none⟩ = some (.int .i64 h.root) ∧ W.cell? ⟨tb, 0, none⟩ = some (.slice tA T.nodes.length tc) ∧ W.cell? ⟨tb, 1, none⟩ = some (.int .i64 0))
    (first | with_reducible exact hx8 | (with_reducible refine KC.out _ ?_; (· repeat (first | with_reducible assumption | with_reducible refine BelC.drew ?_))))
    (first
      | (go_at_call 21; (first | with_reducible refine (K1.out _ ?_).mono ?_ | with_reducible refine (K2.out _ ?_).mono ?_ | with_reducible refine (K3.out _ ?_).mono ?_ | with_reducible refine (K4.out _ ?_).mono ?_ | with_reducible refine (K5.out _ ?_).mono ?_); (· repeat (first | with_reducible assumption | with_reducible refine BelC.drew ?_)); rintro e w9 ⟨rfl, hb9⟩)
      | (go_at_call 11; (with_reducible refine (K6.out _ ?_).mono ?_); (· repeat (first | with_reducible assumption | with_reducible refine BelC.drew ?_)); rintro e wt ⟨A2, k2, rfl, ht9, hb9, _⟩; have HT9 := Lib.hid ht9; have HBt := Lib.hid hb9; clear ht9)
      | (go_at_call 20; (with_reducible refine (K8.out wt _ _ _ _ (fun k hk => hk.2) HT9.out HBt.out ?_).mono ?_); (· repeat (first | with_reducible exact BelC.refl _ | with_reducible refine BelC.drew ?_)); rintro e w9 ⟨rfl, hb9⟩)
      | (go_at_call 16; (with_reducible refine (K7.out _ ?_).mono ?_); (· repeat (first | with_reducible assumption | with_reducible refine BelC.drew ?_)); rintro e w9 ⟨A3, k3, rfl, _, _, _, hb9, _⟩))
  go_wp2
  go_ret
  exact ⟨rfl, KB.out.trans (Below.mono hb9 KB.out.size)⟩

set_option maxRecDepth 100000 in
theorem graphtrims_lifted (os : Os) (started : os.Started) (H : Type) (enc : TypeId × Value → H) :
    ReturnsInHanded {} Try.checked os 5 .any (Rows.graphTrimsSpec.pre6 enc Try.prog Try.f5 Rows.graphTrimsRow.domain false) (Rows.graphTrimsSpec.post enc Try.prog Try.f5 false true false false) := by
  refine returnsInHanded_of_change_sized (C := Try.checked) lawOwn started (by kernel_rfl) Try.func5
    (ChangeSpec.witness6 (enc := enc) (C := Try.checked) false ⟨#[], #[.agg #[.slice none 0 0, .int .i64 0], .agg #[.slice none 0 0, .int .i64 0]], []⟩ 8 (by kernel_rfl) (by kernel_rfl) (by kernel_rfl) (by kernel_rfl)) ?_
  intro W base args ds gs before hval0 hW _ hsz0 _
  have hsz : (DataW.weightsEach Try.prog (Try.f5.params.toList ++ Rows.graphTrimsSpec.plain.varTypes Try.prog) (ds ++ gs)).all (· ≤ reachBytes) = true := hsz0
  clear hsz0
  have hval : ∀ (j : Nat) t v, Try.f5.params[j]? = some t → args[j]? = some v → Value.okWide Try.prog W .any base t v := hval0
  have hW' := hW
  obtain ⟨p, q, hA0, hV, rfl, _, _⟩ := hW
  have hA : DataW.TrodAll enc Try.prog W 0 (fun _ => true) true Try.f5.params.toList args.toList ds p := hA0
  rw [Try.params5] at hA hval hsz
  obtain ⟨v0, v1, d0, d1, p0, p1, rfl, rfl, rfl, h0, h1⟩ := trodAll_two hA
  obtain ⟨rfl, rfl⟩ := trodVars_none hV
  have hsz1 : (DataW.weightsEach Try.prog [24, 24] [d0, d1]).all (· ≤ reachBytes) = true := hsz
  have hwt := fun n hn => of_decide_eq_true (List.all_eq_true.1 hsz1 n hn)
  obtain ⟨g, hg, hF, _⟩ := open_graph (hval 0 24 v0 rfl rfl) h0 (fun n hn => hwt n (DataW.weights_mem_each (j := 0) (t := 24) (d := d0) rfl rfl n hn))
  obtain ⟨h, hh, _⟩ := open_graph (hval 1 24 v1 rfl rfl) h1 (fun n hn => hwt n (DataW.weights_mem_each (j := 1) (t := 24) (d := d1) rfl rfl n hn))
  clear hA0 hval0
  simp only [List.append_nil] at hW'
  have hlt : ∀ x ∈ p0 ++ p1, x.block < W.heap.size := fun x hx => by simpa using hW'.lt x (by simpa using hx)
  refine (lawtrims_any W _ _ g h v0 v1 hF (fun _ h => h) (fun _ h => h) hg hh).mono fun e W' ⟨he, hnx⟩ => ?_
  subst he
  refine ⟨_, rfl, _, _, _, [], p0 ++ p1, [], hW', ?_, ?_, rfl, hnx.frame _, fun h => by cases h⟩
  · exact trodAll_mk1 (shut_bool Try.underlying4 true)
  · exact trodAll_mk2 (Below.trod lawLaid (by kernel_rfl) (of_decide_eq_true (by kernel_rfl)) h0 hnx (fun x hx => hlt x (List.mem_append_left _ hx))) (Below.trod lawLaid (by kernel_rfl) (of_decide_eq_true (by kernel_rfl)) h1 hnx (fun x hx => hlt x (List.mem_append_right _ hx)))

theorem graphtrims_holds : Rows.GraphTrimsSaid :=
  OpenClaim.holds_of_wide 5 Try.f5 rfl rfl rfl rfl rfl rfl rfl ⟨rfl, rfl, rfl, rfl, rfl⟩ rfl rfl rfl rfl rfl (by kernel_rfl) Try.func5 (by kernel_rfl)
    (of_decide_eq_true (by kernel_rfl)) (by unfold Func.isWrapper; first | (rw [if_pos (by decide +kernel)]; kernel_rfl) | (rw [if_neg (by decide +kernel)]; exact ⟨rfl, rfl⟩))
    (fun os started H enc _ => graphtrims_lifted os started H enc)

#print axioms graphtrims_holds
end Go.Proofs.Ytipehahfbcbigaa

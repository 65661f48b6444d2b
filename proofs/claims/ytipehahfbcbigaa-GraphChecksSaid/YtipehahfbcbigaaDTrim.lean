/-
  graph.trim.
-/
import Derived.Test.YtipehahfbcbigaaDRen
import Derived.Test.YtipehahfbcbigaaGTrm
namespace Go.Proofs.Ytipehahfbcbigaa
open Go.RowKit

set_option maxRecDepth 100000 in
set_option maxHeartbeats 2000000 in
theorem dtrim_r (w : World) (S : Nat → Prop) (g : RGr) (gv : Value) (hok : g.ok = true) (hF : g.fits) (hS : ∀ k, S k → k < w.heap.size) (he : GrV w S g gv) :
    Calls Try.prog 23 #[gv] w fun e w' => ∃ v', e = .returned v' ∧ GrV w' (New w.heap.size w') g.trim v' ∧ Below w.heap.size w w' := by
  have hN9 : g.nodes.length ≤ 2000000 := Nat.le_trans (RGr.ok_len hok) (by decide)
  have hrf := reach_facts hok
  obtain ⟨A, cN, hgv, hcN, hcN9, oN⟩ := he
  subst hgv
  have HON := Lib.hid oN
  have HS := Lib.hid hS
  obtain ⟨w1, hw1⟩ : ∃ w1, w1 = (w.alloc (.cells #[.slice A g.nodes.length cN, .int .i64 g.root] 24)).alloc (.cells #[.slice none 0 0, .int .i64 0] 24) := ⟨_, rfl⟩
  have hsz1 : w1.heap.size = w.heap.size + 2 := by rw [hw1]; simp
  have hb1 : Below w.heap.size w w1 := by rw [hw1]; exact ((Below.refl _ _).alloc (Nat.le_refl _) _).alloc (by simp) _
  have hbw : ∀ W, Below w1.heap.size w1 W → Below w.heap.size w W := fun W hW => hb1.trans (hW.mono (by omega))
  have hq0 : Blk w1 w.heap.size (.cells #[.slice A g.nodes.length cN, .int .i64 g.root] 24 (0, 0)) := by rw [hw1]; exact (Blk.new' _ _ _ rfl).alloc _
  have hq1 : Blk w1 (w.heap.size + 1) (.cells #[.slice none 0 0, .int .i64 0] 24 (0, 0)) := by rw [hw1]; exact Blk.new' _ _ _ (by simp)
  have hrow : ∀ W, Below w1.heap.size w1 W → Blk W w.heap.size (.cells #[.slice A g.nodes.length cN, .int .i64 g.root] 24 (0, 0)) ∧ Blk W (w.heap.size + 1) (.cells #[.slice none 0 0, .int .i64 0] 24 (0, 0)) := fun W hW =>
    ⟨(hW.block _ (by omega)).trans hq0, (hW.block _ (by omega)).trans hq1⟩
  have hgr : ∀ W, Below w1.heap.size w1 W → GrV W S g (.agg #[.slice A g.nodes.length cN, .int .i64 g.root]) := fun W hW =>
    ⟨A, cN, rfl, hcN, hcN9, NdsO.keep (fun k hk => ⟨hk, (hbw W hW).block k (HS.out k hk)⟩) _ _ HON.out⟩
  have hlt : ∀ W, Below w1.heap.size w1 W → ∀ k, S k → k < W.heap.size := fun W hW k hk => Nat.lt_of_lt_of_le (HS.out k hk) (hbw W hW).size
  have HRow := Lib.hid hrow
  have HBw := Lib.hid hbw
  have HGr := Lib.hid hgr
  have HLt := Lib.hid hlt
  have HOk := Lib.hid hok
  obtain ⟨R, hR⟩ : ∃ R, R = g.reach := ⟨_, rfl⟩
  have HR := Lib.hid hR
  have hRl : R.length ≤ g.nodes.length := by rw [hR]; exact hrf.2.2.1
  have HRf := Lib.hid hrf
  have hreach := reach_r w1 S g _ hok (hlt w1 (Below.refl _ _)) (hgr w1 (Below.refl _ _))
  rw [← hR] at hreach
  have HReach := Lib.hid hreach
  have hmk := fun W => makeNum W g.nodes.length (by omega)
  unfold maxLen at hcN9
  clear hS oN hrow hbw hgr hlt hb1 hok hrf hR hreach hq0 hq1
  go_enter Try.func23, Try.ntmps23
  go_wp2_with fail
  rw [← hw1]
  clear hw1
  refine HReach.out.mono ?_
  rintro e w2 ⟨A2, c2, rfl, hc2, hc29, hI2, hb2⟩
  have HI2 := Lib.hid hI2
  have HB2 := Lib.hid hb2
  have hz2' := hb2.size
  have q0 := (HRow.out w2 hb2).1.cells.1 0
  unfold maxLen at hc29
  clear hI2 hb2 HReach
  go_wp2_with fail
  have hnum0 : NumAt (w2.alloc (.cells (numCells g.nodes.length fun _ => 0) 3)) w2.heap.size g.nodes.length (g.num 0) := by rw [num_zero]; exact gheap_at _ _ _ rfl
  have HNum0 := Lib.hid hnum0
  clear hnum0 hmk
  go_loopw [5, 6, 18] (fun _ _ i wr => ∃ k : Nat, i = .int .i64 k ∧ k ≤ R.length ∧ Below w2.heap.size w2 wr ∧ NumAt wr w2.heap.size g.nodes.length (g.num k)) (fun _ _ i _ => R.length - (intOf i).toNat)
  case atStart => exact ⟨0, rfl, Nat.zero_le _, (Below.refl _ _).alloc (Nat.le_refl _) _, HNum0.out⟩
  case round =>
    obtain ⟨k, rfl, hk, hb, hnum⟩ := hrel
    have HB := Lib.hid hb
    have HNum := Lib.hid hnum
    have hb1 := HB2.out.trans (hb.mono HB2.out.size)
    have HBa := Lib.hid hb1
    have hz3 := hb.size
    clear hb hnum hb1
    by_cases hlt : k < R.length
    · obtain ⟨b2, o2, rfl, _, hcell⟩ := IntsO.get _ _ (IntsO.keep (S' := fun k => k < w2.heap.size) (fun k hk => ⟨hk.2, HB.out.block k hk.2⟩) _ _ HI2.out) k (by simpa using hlt)
      rw [List.getElem_map] at hcell
      obtain ⟨y, hy⟩ : ∃ y, y = R[k] := ⟨_, rfl⟩
      rw [← hy] at hcell
      have hcell' : wr.cell? ⟨b2, o2 + k, none⟩ = some (.int .i64 y) := hcell
      have hyN : y < g.nodes.length := HRf.out.2.1 y (by rw [hy, ← HR.out]; exact List.getElem_mem hlt)
      obtain ⟨m1, m2⟩ := HNum.out.cell y hyN
      have hst : NumAt (wr.setCell ⟨w2.heap.size, y, none⟩ (.int .i64 (k : Nat))) w2.heap.size g.nodes.length (g.num (k + 1)) := HNum.out.set y k _ (fun i _ => by
        have hRk : k < g.reach.length := by rw [← HR.out]; exact hlt
        rw [num_step HRf.out.1 k hRk i]
        have : y = g.reach[k] := by rw [hy]; simp only [HR.out]
        rw [this])
      have HSt := Lib.hid hst
      clear hcell hy hst
      go_wp2
      go_roundw
      case rel => exact ⟨k + 1, by go_num, by omega, HB.out.setCell (Nat.le_refl _) _, HSt.out⟩
      case measure => simp [intOf]; omega
    · have hk' : k = R.length := by omega
      have hnum : NumAt wr w2.heap.size g.nodes.length (g.num g.reach.length) := by rw [← HR.out, ← hk']; exact HNum.out
      have HNm := Lib.hid hnum
      obtain ⟨wD, hmk, hbD, hzD, hrowD⟩ := makeNodes wr R.length (by omega)
      have HRowD := Lib.hid hrowD
      have HBD := Lib.hid hbD
      clear hk' hnum hrowD hbD HNum
      go_wp2
      obtain ⟨wE, rfl⟩ : ∃ wE, wE = wr := ⟨_, rfl⟩
      obtain ⟨T, hT⟩ : ∃ T, T = g.trim.nodes := ⟨_, rfl⟩
      have hTl : T.length = R.length := by rw [hT, HR.out]; simp [RGr.trim]
      have hTk : ∀ k (h1 : k < T.length) (h2 : k < R.length), T[k] = (g.nd R[k]).cut g.reach := fun k h1 h2 => by
        subst hT
        simp only [RGr.trim, List.getElem_map]
        simp only [HR.out]
      have HTk := Lib.hid hTk
      have HTr := Lib.hid hT
      have hrow0 : RowG srtN 36 wE.heap.size wD (New wD.heap.size wD) (.slice (some ⟨wE.heap.size, 0, none⟩) R.length R.length) (fillN T 0) := by
        rw [fillN_zero, hTl]
        exact HRowD.out.wide (fun _ h => h.elim) (fun k hk => by have := hk.1; have := hk.2.1; omega)
      have HRow0 := Lib.hid hrow0
      have HTl := Lib.hid hTl
      clear hT hTl hTk hrow0 hmk
      go_loopw [8, 9, 33] (fun _ _ i wr => ∃ k : Nat, i = .int .i64 k ∧ k ≤ R.length ∧ Below wE.heap.size wE wr ∧ wD.heap.size ≤ wr.heap.size ∧ RowG srtN 36 wE.heap.size wr (New wD.heap.size wr) (.slice (some ⟨wE.heap.size, 0, none⟩) R.length R.length) (fillN T k)) (fun _ _ i _ => R.length - (intOf i).toNat)
      case atStart => exact ⟨0, rfl, Nat.zero_le _, HBD.out, Nat.le_refl _, HRow0.out⟩
      case round =>
        obtain ⟨k, rfl, hk, hb, hz4, hrw⟩ := hrel
        have HBr := Lib.hid hb
        have hb1 := HBa.out.trans (hb.mono HBa.out.size)
        have HBb := Lib.hid hb1
        have hb2 := HB2.out.trans ((HB.out.trans (hb.mono HB.out.size)).mono HB2.out.size)
        have HBc := Lib.hid hb2
        have HRw := Lib.hid hrw
        have p0 := (HRow.out wr hb2).1.cells.1 0
        have hnumr : NumAt wr w2.heap.size g.nodes.length (g.num g.reach.length) := (hb.block _ (by have := HNm.out.lt; omega)).trans HNm.out
        have HNr := Lib.hid hnumr
        clear hb hb1 hb2 hrw hnumr
        by_cases hlt : k < R.length
        · obtain ⟨b2, o2, rfl, _, hcell⟩ := IntsO.get _ _ (IntsO.keep (S' := fun k => k < w2.heap.size) (fun k hk => ⟨hk.2, (HB.out.trans (HBr.out.mono HB.out.size)).block k hk.2⟩) _ _ HI2.out) k (by simpa using hlt)
          rw [List.getElem_map] at hcell
          have hTkk := HTk.out k (by rw [HTl.out]; exact hlt) hlt
          obtain ⟨y, hy⟩ : ∃ y, y = R[k] := ⟨_, rfl⟩
          rw [← hy] at hcell hTkk
          have hcell' : wr.cell? ⟨b2, o2 + k, none⟩ = some (.int .i64 y) := hcell
          have hyR : y ∈ g.reach := by rw [hy, ← HR.out]; exact List.getElem_mem hlt
          have hyN : y < g.nodes.length := HRf.out.2.1 y hyR
          have hx := NdsO.get _ _ (NdsO.keep (S' := S) (fun k hk => ⟨hk, (HBw.out _ HBc.out).block k (HS.out k hk)⟩) _ _ HON.out) y hyN
          obtain ⟨b, o, rfl, hnp⟩ := hx
          rw [← g.nd_eq y hyN] at hnp
          have hfit := hF (g.nodes[y]) (List.getElem_mem hyN)
          rw [← g.nd_eq y hyN] at hfit
          have hcall := renumbered_r wr S (fun k => k = w2.heap.size) (g.nd y) b (o + y * 5) g.to (some ⟨w2.heap.size, 0, none⟩) g.nodes.length ((g.nd y).cut g.reach).args (HLt.out _ HBc.out) (fun k (hk : k = w2.heap.size) => by rw [hk]; omega) hnp HNr.out.ints (by rw [to_len]; exact Nat.le_refl _) (by unfold maxLen; omega) hfit.1 hfit.2 (by simp [RNd.cut]) (cut_hin HOk.out hyR)
          rw [to_len] at hcall
          have HCall := Lib.hid hcall
          have HTkk := Lib.hid hTkk
          clear hcell hy hnp hfit hcall hTkk
          go_wp2_with (go_at_call 34; refine HCall.out.mono ?_; rintro e w6 ⟨v6, rfl, hv6, hb6⟩; have hrw6 := (HRw.out.keep (F := fun _ => False) (Keeps.of_below0 hb6) (fun _ e _ => e.elim)).wide (S' := New wD.heap.size w6) (fun k hk => hk.of hb6) (fun k hk => ⟨hk.2.1, fun e => by simp [Value.ownBlock] at e; have := hk.1; omega⟩); have hv6' : NdV w6 (New wD.heap.size w6) ((g.nd y).cut g.reach) v6 := (NdV.keep (fun k hk => ⟨hk.mono (by omega), rfl⟩) hv6); have hv7 := hv6'; obtain ⟨aA, cA, aL, cL, hvv, _⟩ := hv7; subst hvv; have HV6 := Lib.hid hv6'; have HRw6 := Lib.hid hrw6; have HB6 := Lib.hid hb6; have hfl : (fillN T k).length = R.length := (by rw [fillN_len T k (by rw [HTl.out]; exact hk), HTl.out]); obtain ⟨⟨x0, hx0⟩, hf0⟩ := hrw6.cellN hfl (k * 5) (by omega); obtain ⟨⟨x1, hx1⟩, hf1⟩ := hrw6.cellN hfl (k * 5 + 1) (by omega); obtain ⟨⟨x2, hx2⟩, hf2⟩ := hrw6.cellN hfl (k * 5 + 2) (by omega); obtain ⟨⟨x3, hx3⟩, hf3⟩ := hrw6.cellN hfl (k * 5 + 3) (by omega); obtain ⟨⟨x4, hx4⟩, hf4⟩ := hrw6.cellN hfl (k * 5 + 4) (by omega); have HFl := Lib.hid hfl; clear hv6 hb6 hrw6 hv6' hfl)
          go_roundw
          case rel =>
            have hkT : k < T.length := by rw [HTl.out]; exact hlt
            have hs := RowG.setN (x := (g.nd y).cut g.reach) HRw6.out HFl.out (i := k) hlt (fun _ h => h) (fun q hq => ⟨hq.2.1, by have := hq.1; omega⟩) HV6.out
            have he : (fillN T k).set k ((g.nd y).cut g.reach) = fillN T (k + 1) := by rw [← HTkk.out]; exact fillN_set T k hkT
            rw [he] at hs
            refine ⟨k + 1, by go_num, by omega, ?_, ?_, hs.wide (fun q hq => ⟨hq.1, by simpa [World.setCell] using hq.2.1, ((((hq.2.2.setCell _ _).setCell _ _).setCell _ _).setCell _ _).setCell _ _⟩) (fun q hq => ⟨hq.2.1, fun e => by simp [Value.ownBlock] at e; have := hq.1; omega⟩)⟩
            · refine Below.trans HBr.out ?_
              have h6 := HB6.out.size
              exact (((((HB6.out.mono (by have := HBr.out.size; omega)).setCell (by simp) _).setCell (by simp) _).setCell (by simp) _).setCell (by simp) _).setCell (by simp) _
            · have h6 := HB6.out.size
              simp [World.setCell]; omega
          case measure => simp [intOf]; omega
        · have hk' : k = T.length := by rw [HTl.out]; omega
          obtain ⟨A9, c9, h90, h91, h92, h93⟩ := HRw.out.ndsT (S' := New w1.heap.size wr) (fun q hq => hq.mono (by omega)) (fun q h1 h2 ht => ⟨by omega, h2, ht⟩)
          rw [hk', fillN_all] at h90 h91 h93
          simp only [Value.slice.injEq] at h90
          obtain ⟨rfl, hx9, rfl⟩ := h90
          clear hx9
          have hbR := (HRow.out wr HBc.out).2
          obtain ⟨g1, g2⟩ := hbR.cells
          have g10 := g1 0
          have g11 := g1 1
          have g20 := g2 0
          have g21 := g2 1
          have hbS := (hbR.set 0 (.slice (some ⟨wE.heap.size, 0, none⟩) R.length R.length)).set 1 (.int .i64 0)
          have hkS : Keeps (fun k => k = w.heap.size + 1) wr ((wr.setCell ⟨w.heap.size + 1, 0, none⟩ (.slice (some ⟨wE.heap.size, 0, none⟩) R.length R.length)).setCell ⟨w.heap.size + 1, 1, none⟩ (.int .i64 0)) :=
            ((Keeps.refl (fun k => k = w.heap.size + 1) wr).setCell (p := ⟨w.heap.size + 1, 0, none⟩) (fun _ => rfl) _).setCell (p := ⟨w.heap.size + 1, 1, none⟩) (fun _ => rfl) _
          have hbW : Below w.heap.size w ((wr.setCell ⟨w.heap.size + 1, 0, none⟩ (.slice (some ⟨wE.heap.size, 0, none⟩) R.length R.length)).setCell ⟨w.heap.size + 1, 1, none⟩ (.int .i64 0)) :=
            ((HBw.out _ HBc.out).setCell (by simp) _).setCell (by simp) _
          have HbS := Lib.hid hbS
          have HkS := Lib.hid hkS
          have HbW := Lib.hid hbW
          have H93 := Lib.hid h93
          have H91 := Lib.hid h91
          clear hbS hkS hbW hbR g1 g2 h93 h91 hk'
          go_wp2
          generalize ((wr.setCell ⟨w.heap.size + 1, 0, none⟩ (.slice (some ⟨wE.heap.size, 0, none⟩) R.length R.length)).setCell ⟨w.heap.size + 1, 1, none⟩ (.int .i64 0)) = W9 at HbS HkS HbW ⊢
          obtain ⟨p1, p2⟩ := HbS.out.cells
          have p10 : W9.cell? ⟨w.heap.size + 1, 0, none⟩ = some (.slice (some ⟨wE.heap.size, 0, none⟩) R.length R.length) := p1 0
          have p11 : W9.cell? ⟨w.heap.size + 1, 1, none⟩ = some (.int .i64 0) := p1 1
          refine bodyPost_ret (v := .agg #[.slice (some ⟨wE.heap.size, 0, none⟩) R.length R.length, .int .i64 0]) (by simp [results, Try.results23, go_sem, p10, p11]) rfl ?_
          refine ⟨_, rfl, ⟨some ⟨wE.heap.size, 0, none⟩, R.length, ?_, ?_, h92, ?_⟩, HbW.out⟩
          · rw [← HTr.out, HTl.out]; rfl
          · rw [← HTr.out]; exact H91.out
          · rw [← HTr.out]
            exact NdsO.keep (fun q hq => ⟨⟨by have := hq.1; omega, Nat.lt_of_lt_of_le hq.2.1 HkS.out.size, hq.2.2.of (HkS.out.block q hq.2.1 (by have := hq.1; omega))⟩, HkS.out.block q hq.2.1 (by have := hq.1; omega)⟩) _ _ H93.out

set_option maxRecDepth 100000 in
set_option maxHeartbeats 2000000 in
theorem dTrim_t (w : World) (S : Nat → Prop) (g : RGr) (gv : Value) (hF : g.fits) (hS : ∀ k, S k → k < w.heap.size) (he : GrV w S g gv) :
    Calls Try.prog 11 #[gv] w fun e w' => ∃ v', e = .returned v' ∧ GrV w' (New w.heap.size w') g.trimU v' ∧ Below w.heap.size w w' := by
  obtain ⟨A, cN, hgv, hcN, hcN9, oN⟩ := he
  subst hgv
  have HON := Lib.hid oN
  have HS := Lib.hid hS
  obtain ⟨L, hL⟩ : ∃ L, L = g.trimU := ⟨_, rfl⟩
  rw [← hL]
  have HL := Lib.hid hL
  obtain ⟨w1, hw1⟩ : ∃ w1, w1 = (w.alloc (.cells #[.slice A g.nodes.length cN, .int .i64 g.root] 24)).alloc (.cells #[.slice none 0 0, .int .i64 0] 24) := ⟨_, rfl⟩
  have hsz1 : w1.heap.size = w.heap.size + 2 := by rw [hw1]; simp
  have hb1 : Below w.heap.size w w1 := by rw [hw1]; exact ((Below.refl _ _).alloc (Nat.le_refl _) _).alloc (by simp) _
  have hbw : ∀ W, Below w1.heap.size w1 W → Below w.heap.size w W := fun W hW => hb1.trans (hW.mono (by omega))
  have hq0 : Blk w1 w.heap.size (.cells #[.slice A g.nodes.length cN, .int .i64 g.root] 24 (0, 0)) := by rw [hw1]; exact (Blk.new' _ _ _ rfl).alloc _
  have hq1 : Blk w1 (w.heap.size + 1) (.cells #[.slice none 0 0, .int .i64 0] 24 (0, 0)) := by rw [hw1]; exact Blk.new' _ _ _ (by simp)
  have hrow : ∀ W, Below w1.heap.size w1 W → Blk W w.heap.size (.cells #[.slice A g.nodes.length cN, .int .i64 g.root] 24 (0, 0)) ∧ Blk W (w.heap.size + 1) (.cells #[.slice none 0 0, .int .i64 0] 24 (0, 0)) := fun W hW =>
    ⟨(hW.block _ (by omega)).trans hq0, (hW.block _ (by omega)).trans hq1⟩
  have hgr : ∀ W, Below w1.heap.size w1 W → GrV W S g (.agg #[.slice A g.nodes.length cN, .int .i64 g.root]) := fun W hW =>
    ⟨A, cN, rfl, hcN, hcN9, NdsO.keep (fun k hk => ⟨hk, (hbw W hW).block k (HS.out k hk)⟩) _ _ HON.out⟩
  have hlt : ∀ W, Below w1.heap.size w1 W → ∀ k, S k → k < W.heap.size := fun W hW k hk => Nat.lt_of_lt_of_le (HS.out k hk) (hbw W hW).size
  have HRow := Lib.hid hrow
  have HBw := Lib.hid hbw
  have HGr := Lib.hid hgr
  have HLt := Lib.hid hlt
  clear hS oN hrow hbw hgr hlt hb1 hq0 hq1 hL
  go_enter Try.func11, Try.ntmps11
  go_wp2_with fail
  rw [← hw1]
  clear hw1
  refine (check_r w1 S g _ (HLt.out _ (Below.refl _ _)) (HGr.out _ (Below.refl _ _))).mono ?_
  rcases hok : g.ok with _ | _
  · have hLe : L = ⟨[], 0⟩ := by rw [HL.out]; unfold RGr.trimU; rw [hok]; rfl
    subst hLe
    rcases RGr.code_no hok with hcd | hcd <;> rw [hcd] <;> clear hcd
    all_goals
     rintro e w2 ⟨rfl, hb2⟩
     have hbR := (HRow.out w2 hb2).2
     obtain ⟨g1, g2⟩ := hbR.cells
     have g10 := g1 0
     have g11 := g1 1
     have g20 := g2 0
     have g21 := g2 1
     have hbS := (hbR.set 0 (.slice none 0 0)).set 1 (.int .i64 0)
     have hbW : Below w.heap.size w ((w2.setCell ⟨w.heap.size + 1, 0, none⟩ (.slice none 0 0)).setCell ⟨w.heap.size + 1, 1, none⟩ (.int .i64 0)) :=
       ((HBw.out _ hb2).setCell (by simp) _).setCell (by simp) _
     have HbS := Lib.hid hbS
     have HbW := Lib.hid hbW
     clear hb2 hbS hbW hbR g1 g2
     go_wp2
     generalize ((w2.setCell ⟨w.heap.size + 1, 0, none⟩ (.slice none 0 0)).setCell ⟨w.heap.size + 1, 1, none⟩ (.int .i64 0)) = W9 at HbS HbW ⊢
     obtain ⟨p1, p2⟩ := HbS.out.cells
     have p10 : W9.cell? ⟨w.heap.size + 1, 0, none⟩ = some (.slice none 0 0) := p1 0
     have p11 : W9.cell? ⟨w.heap.size + 1, 1, none⟩ = some (.int .i64 0) := p1 1
     refine bodyPost_ret (v := .agg #[.slice none 0 0, .int .i64 0]) (by simp [results, Try.results11, go_sem, p10, p11]) rfl ?_
     exact ⟨_, rfl, ⟨none, 0, rfl, Nat.le_refl _, Nat.zero_le _, trivial⟩, HbW.out⟩
  · have hLe : L = g.trim := by rw [HL.out]; unfold RGr.trimU; rw [hok]; rfl
    subst hLe
    rw [RGr.code_ok hok]
    rintro e w2 ⟨rfl, hb2⟩
    have c0 := (HRow.out w2 hb2).1.cells.1 0
    have c1 := (HRow.out w2 hb2).1.cells.1 1
    have hcall := dtrim_r w2 S g _ hok hF (HLt.out _ hb2) (HGr.out _ hb2)
    have HCall := Lib.hid hcall
    have HB2 := Lib.hid hb2
    clear hb2 hcall hok
    go_wp2_with (go_at_call 23; refine HCall.out.mono ?_; rintro e w4 ⟨v4, rfl, hv4, hb4⟩; obtain ⟨A4, c4, hvv, h1, h2, h3⟩ := hv4; subst hvv; have HV4 := Lib.hid h3; have HV41 := Lib.hid h1; have hb14 := HB2.out.trans (hb4.mono HB2.out.size); have hbR := (HRow.out w4 hb14).2; obtain ⟨g1, g2⟩ := hbR.cells; have g10 := g1 0; have g11 := g1 1; have g20 := g2 0; have g21 := g2 1; have HbR := Lib.hid hbR; have HB14 := Lib.hid hb14; have hz4 := hb4.size; have hz2 := HB2.out.size; clear h3 h1 hb4 hb14 hbR g1 g2)
    have hbS := (HbR.out.set 0 (.slice A4 g.trim.nodes.length c4)).set 1 (.int .i64 g.trim.root)
    have hkS : Keeps (fun k => k = w.heap.size + 1) w4 ((w4.setCell ⟨w.heap.size + 1, 0, none⟩ (.slice A4 g.trim.nodes.length c4)).setCell ⟨w.heap.size + 1, 1, none⟩ (.int .i64 g.trim.root)) :=
      ((Keeps.refl (fun k => k = w.heap.size + 1) w4).setCell (p := ⟨w.heap.size + 1, 0, none⟩) (fun _ => rfl) _).setCell (p := ⟨w.heap.size + 1, 1, none⟩) (fun _ => rfl) _
    have hbW : Below w.heap.size w ((w4.setCell ⟨w.heap.size + 1, 0, none⟩ (.slice A4 g.trim.nodes.length c4)).setCell ⟨w.heap.size + 1, 1, none⟩ (.int .i64 g.trim.root)) :=
      ((HBw.out _ HB14.out).setCell (by simp) _).setCell (by simp) _
    have HbS := Lib.hid hbS
    have HkS := Lib.hid hkS
    have HbW := Lib.hid hbW
    clear hbS hkS hbW
    generalize ((w4.setCell ⟨w.heap.size + 1, 0, none⟩ (.slice A4 g.trim.nodes.length c4)).setCell ⟨w.heap.size + 1, 1, none⟩ (.int .i64 g.trim.root)) = W9 at HbS HkS HbW ⊢
    obtain ⟨p1, p2⟩ := HbS.out.cells
    have p10 : W9.cell? ⟨w.heap.size + 1, 0, none⟩ = some (.slice A4 g.trim.nodes.length c4) := p1 0
    have p11 : W9.cell? ⟨w.heap.size + 1, 1, none⟩ = some (.int .i64 g.trim.root) := p1 1
    refine bodyPost_ret (v := .agg #[.slice A4 g.trim.nodes.length c4, .int .i64 g.trim.root]) (by simp [results, Try.results11, go_sem, p10, p11]) rfl ?_
    refine ⟨_, rfl, ⟨A4, c4, rfl, HV41.out, h2, ?_⟩, HbW.out⟩
    exact NdsO.keep (fun q hq => ⟨⟨by have := hq.1; omega, Nat.lt_of_lt_of_le hq.2.1 HkS.out.size, hq.2.2.of (HkS.out.block q hq.2.1 (by have := hq.1; omega))⟩, HkS.out.block q hq.2.1 (by have := hq.1; omega)⟩) _ _ HV4.out
theorem dTrim_u (w : World) (S : Nat → Prop) (g : RGr) (gv : Value) (hF : g.fits) (hS : ∀ k, S k → k < w.heap.size) (he : GrV w S g gv) :
    Calls Try.prog 11 #[gv] w fun e w' => ∃ v', e = .returned v' ∧ GrV w' (fun k => w.heap.size ≤ k ∧ k < w'.heap.size) g.trimU v' ∧ Below w.heap.size w w' :=
  (dTrim_t w S g gv hF hS he).mono fun _ _ ⟨v', h1, h2, h3⟩ => ⟨v', h1, h2.keep (fun _ hk => ⟨⟨hk.1, hk.2.1⟩, rfl⟩), h3⟩
end Go.Proofs.Ytipehahfbcbigaa

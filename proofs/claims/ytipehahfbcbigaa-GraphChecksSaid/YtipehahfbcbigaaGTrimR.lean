/-
  trefoilref06.Trim.
-/
import Derived.Test.YtipehahfbcbigaaGCopy
import Derived.Test.YtipehahfbcbigaaGTrm
namespace Go.Proofs.Ytipehahfbcbigaa
open Go.RowKit

/-- The trimmed graph under way. -/
structure Trm (wE W : World) (s : Value) (es : List RNd) : Prop where
  bel : Below wE.heap.size wE W
  out : Blk W wE.heap.size (.cells #[s, .int .i64 0] 24 (0, 0))
  row : RowG srtN 36 (wE.heap.size + 1) W (fun q => wE.heap.size + 1 ≤ q ∧ q < W.heap.size ∧ s.ownBlock ≠ some q) s es
section
variable {wE W W6 W8 : World} {s s' v : Value} {es : List RNd} {x : RNd} {o : Obj}
theorem Trm.start (wE : World) : Trm wE (wE.alloc (.cells #[.slice none 0 0, .int .i64 0] 24)) (.slice none 0 0) [] :=
  ⟨(Below.refl _ _).alloc (Nat.le_refl _) _, Blk.new' _ _ _ rfl, (RowG.nil _ _ _).wide (fun _ h => h.elim) (fun _ hk => ⟨hk.2.1, hk.2.2⟩)⟩
theorem Trm.row7 (h : Trm wE W s es) (hb : Below W.heap.size W W6) (o : Obj) : RowG srtN 36 (wE.heap.size + 1) (W6.alloc o) (fun q => wE.heap.size + 1 ≤ q ∧ q < W6.heap.size ∧ s.ownBlock ≠ some q) s es :=
  (h.row.keep (F := fun _ => False) ((Keeps.of_below0 hb).alloc o) (fun _ e _ => e.elim)).wide (fun _ hk => ⟨hk.1, Nat.lt_of_lt_of_le hk.2.1 hb.size, hk.2.2⟩) (fun _ hk => ⟨by simp; omega, hk.2.2⟩)
theorem Trm.item7 (h : Trm wE W s es) (hz : wE.heap.size + 1 ≤ W.heap.size) (o : Obj) (hv : NdV W6 (fun q => W.heap.size ≤ q ∧ q < W6.heap.size) x v) : NdV (W6.alloc o) (fun q => wE.heap.size + 1 ≤ q ∧ q < W6.heap.size ∧ s.ownBlock ≠ some q) x v :=
  hv.keep (fun q hq => ⟨⟨by omega, hq.2, fun e => by have := (h.row.block e).2; omega⟩, Below.heap_alloc _ _ _ hq.2⟩)
theorem Trm.out8 (h : Trm wE W s es) (hb : Below W.heap.size W W6) (hk : Keeps (fun k => s.ownBlock = some k) (W6.alloc o) W8) : Blk W8 wE.heap.size (.cells #[s, .int .i64 0] 24 (0, 0)) := by
  have zo := h.out.lt
  have z6 := hb.size
  refine (hk.block _ (by simp; omega) (fun e => by have := (h.row.block e).1; omega)).trans ?_
  exact (Below.heap_alloc _ _ _ (by omega)).trans ((hb.block _ zo).trans h.out)
theorem Trm.step (h : Trm wE W s es) (hb : Below W.heap.size W W6) (hr : RowG srtN 36 (wE.heap.size + 1) W8 (fun q => wE.heap.size + 1 ≤ q ∧ q < W6.heap.size ∧ s.ownBlock ≠ some q) s' (es ++ [x])) (hk : Keeps (fun k => s.ownBlock = some k) (W6.alloc o) W8)
    (hv : s'.ownBlock = s.ownBlock ∨ s'.ownBlock = some (W6.alloc o).heap.size) : Trm wE (W8.setCell ⟨wE.heap.size, 0, none⟩ s') s' (es ++ [x]) := by
  have zo := h.out.lt
  have z6 := hb.size
  have z8 := hk.size
  have zE := h.bel.size
  simp only [World.size_alloc] at z8 hv
  refine ⟨?_, (h.out8 hb hk).set 0 s', ?_⟩
  · refine Below.setCell (h.bel.trans (((hb.mono zE).alloc (by omega) o).trans (hk.below (by simp; omega) (fun i hi e => ?_)))) (Nat.le_refl _) _
    have := (h.row.block e).1
    omega
  · have hn : s'.ownBlock ≠ some wE.heap.size := by
      rcases hv with e | e
      · rw [e]; intro e'; have := (h.row.block e').1; omega
      · rw [e]; intro e'; injection e' with e'; omega
    refine (hr.keep (F := fun k => k = wE.heap.size) ((Keeps.refl (fun k => k = wE.heap.size) W8).setCell (p := ⟨wE.heap.size, 0, none⟩) (fun _ => rfl) _) (fun k e _ => ⟨fun e' => hn (e ▸ e'), fun e' => by omega⟩)).wide (fun q hq => ⟨hq.1, ?_, ?_⟩) (fun q hq => ⟨hq.2.1, hq.2.2⟩)
    · simp only [World.setCell, Array.size_modify]
      omega
    · rcases hv with e | e
      · rw [e]; exact hq.2.2
      · rw [e]; intro e'; injection e' with e'; omega
end

set_option maxRecDepth 100000 in
set_option maxHeartbeats 2000000 in
theorem gtrim_r (w : World) (S : Nat → Prop) (g : RGr) (gv : Value) (hok : g.ok = true) (hF : g.fits) (hS : ∀ k, S k → k < w.heap.size) (he : GrV w S g gv) :
    Calls Try.prog 12 #[gv] w fun e w' => ∃ v', e = .returned v' ∧ GrV w' (fun k => w.heap.size ≤ k ∧ k < w'.heap.size) g.trim v' ∧ Below w.heap.size w w' := by
  have hN9 : g.nodes.length ≤ 2000000 := Nat.le_trans (RGr.ok_len hok) (by decide)
  have hrf := reach_facts hok
  obtain ⟨A, cN, hgv, hcN, hcN9, oN⟩ := he
  subst hgv
  have HON := Lib.hid oN
  have HS := Lib.hid hS
  obtain ⟨w1, hw1⟩ : ∃ w1, w1 = (w.alloc (.cells #[.slice A g.nodes.length cN, .int .i64 g.root] 24)).alloc (.cells #[.slice none 0 0, .int .i64 0] 24) := ⟨_, rfl⟩
  have hsz1 : w1.heap.size = w.heap.size + 2 := by rw [hw1]; simp
  have hb1 : Below w.heap.size w w1 := by rw [hw1]; exact ((Below.refl _ _).alloc (Nat.le_refl _) _).alloc (by simp) _
  have hbw : ∀ W, Below w1.heap.size w1 W → Below w.heap.size w W := fun W hW => hb1.trans (hW.mono (by omega))
  have hq0 : Blk w1 w.heap.size (.cells #[.slice A g.nodes.length cN, .int .i64 g.root] 24 (0, 0)) := by rw [hw1]; exact (Blk.new' _ _ _ rfl).alloc _
  have hq1 : Blk w1 (w.heap.size + 1) (.cells #[.slice none 0 0, .int .i64 0] 24 (0, 0)) := by rw [hw1]; exact Blk.new' _ _ _ (by simp)
  have hrow : ∀ W, Below w1.heap.size w1 W → Blk W w.heap.size (.cells #[.slice A g.nodes.length cN, .int .i64 g.root] 24 (0, 0)) ∧ Blk W (w.heap.size + 1) (.cells #[.slice none 0 0, .int .i64 0] 24 (0, 0)) := fun W hW =>
    ⟨(hW.block _ (by omega)).trans hq0, (hW.block _ (by omega)).trans hq1⟩
  have hgr : ∀ W, Below w1.heap.size w1 W → GrV W S g (.agg #[.slice A g.nodes.length cN, .int .i64 g.root]) := fun W hW =>
    ⟨A, cN, rfl, hcN, hcN9, NdsO.keep (fun k hk => ⟨hk, (hbw W hW).block k (HS.out k hk)⟩) _ _ HON.out⟩
  have hlt : ∀ W, Below w1.heap.size w1 W → ∀ k, S k → k < W.heap.size := fun W hW k hk => Nat.lt_of_lt_of_le (HS.out k hk) (hbw W hW).size
  have HRow := Lib.hid hrow
  have HBw := Lib.hid hbw
  have HGr := Lib.hid hgr
  have HLt := Lib.hid hlt
  have HOk := Lib.hid hok
  obtain ⟨R, hR⟩ : ∃ R, R = g.reach := ⟨_, rfl⟩
  have HR := Lib.hid hR
  have hRl : R.length ≤ g.nodes.length := by rw [hR]; exact hrf.2.2.1
  have HRf := Lib.hid hrf
  have hreach := greach_r w1 S g _ hok (hlt w1 (Below.refl _ _)) (hgr w1 (Below.refl _ _))
  rw [← hR] at hreach
  have HReach := Lib.hid hreach
  have hmk := fun W => makeNum W g.nodes.length (by omega)
  unfold maxLen at hcN9
  clear hS oN hrow hbw hgr hlt hb1 hok hrf hR hreach hq0 hq1
  go_enter Try.func12, Try.ntmps12
  go_wp2_with fail
  rw [← hw1]
  clear hw1
  refine HReach.out.mono ?_
  rintro e w2 ⟨A2, c2, rfl, hc2, hc29, hI2, hb2⟩
  have HI2 := Lib.hid hI2
  have HB2 := Lib.hid hb2
  have hz2' := hb2.size
  have q0 := (HRow.out w2 hb2).1.cells.1 0
  unfold maxLen at hc29
  clear hI2 hb2 HReach
  go_wp2_with fail
  have hnum0 : NumAt (w2.alloc (.cells (numCells g.nodes.length fun _ => 0) 3)) w2.heap.size g.nodes.length (g.num 0) := by rw [num_zero]; exact gheap_at _ _ _ rfl
  have HNum0 := Lib.hid hnum0
  clear hnum0 hmk
  go_loopw [5, 6, 18] (fun _ _ i wr => ∃ k : Nat, i = .int .i64 k ∧ k ≤ R.length ∧ Below w2.heap.size w2 wr ∧ NumAt wr w2.heap.size g.nodes.length (g.num k)) (fun _ _ i _ => R.length - (intOf i).toNat)
  case atStart => exact ⟨0, rfl, Nat.zero_le _, (Below.refl _ _).alloc (Nat.le_refl _) _, HNum0.out⟩
  case round =>
    obtain ⟨k, rfl, hk, hb, hnum⟩ := hrel
    have HB := Lib.hid hb
    have HNum := Lib.hid hnum
    have hb1 := HB2.out.trans (hb.mono HB2.out.size)
    have HBa := Lib.hid hb1
    have hz3 := hb.size
    clear hb hnum hb1
    by_cases hlt : k < R.length
    · obtain ⟨b2, o2, rfl, _, hcell⟩ := IntsO.get _ _ (IntsO.keep (S' := fun k => k < w2.heap.size) (fun k hk => ⟨hk.2, HB.out.block k hk.2⟩) _ _ HI2.out) k (by simpa using hlt)
      rw [List.getElem_map] at hcell
      obtain ⟨y, hy⟩ : ∃ y, y = R[k] := ⟨_, rfl⟩
      rw [← hy] at hcell
      have hcell' : wr.cell? ⟨b2, o2 + k, none⟩ = some (.int .i64 y) := hcell
      have hyN : y < g.nodes.length := HRf.out.2.1 y (by rw [hy, ← HR.out]; exact List.getElem_mem hlt)
      obtain ⟨m1, m2⟩ := HNum.out.cell y hyN
      have hst : NumAt (wr.setCell ⟨w2.heap.size, y, none⟩ (.int .i64 (k : Nat))) w2.heap.size g.nodes.length (g.num (k + 1)) := HNum.out.set y k _ (fun i _ => by
        have hRk : k < g.reach.length := by rw [← HR.out]; exact hlt
        rw [num_step HRf.out.1 k hRk i]
        have : y = g.reach[k] := by rw [hy]; simp only [HR.out]
        rw [this])
      have HSt := Lib.hid hst
      clear hcell hy hst
      go_wp2
      go_roundw
      case rel => exact ⟨k + 1, by go_num, by omega, HB.out.setCell (Nat.le_refl _) _, HSt.out⟩
      case measure => simp [intOf]; omega
    · have hk' : k = R.length := by omega
      have hnum : NumAt wr w2.heap.size g.nodes.length (g.num g.reach.length) := by rw [← HR.out, ← hk']; exact HNum.out
      have HNm := Lib.hid hnum
      clear hk' hnum HNum
      go_wp2
      obtain ⟨wE, rfl⟩ : ∃ wE, wE = wr := ⟨_, rfl⟩
      have HTs := Lib.hid (Trm.start wE)
      obtain ⟨j0, hj, hy0, hy1, hy2⟩ := info_parts infoNode
      go_loopw [9, 30] (fun _ i wr => ∃ (k : Nat) (s : Value), i = .int .i64 k ∧ k ≤ R.length ∧ Trm wE wr s ((R.take k).map fun a => (g.nd a).cut g.reach)) (fun _ i _ => R.length - (intOf i).toNat)
      case atStart => exact ⟨0, _, rfl, Nat.zero_le _, by rw [List.take_zero]; exact HTs.out⟩
      case round =>
        obtain ⟨k, s, rfl, hk, htr⟩ := hrel
        have hes : ((R.take k).map fun a => (g.nd a).cut g.reach).length = k := by rw [List.length_map, List.length_take]; omega
        obtain ⟨sA, sc, hs0, hs1, hs2⟩ := htr.row.form
        rw [hes] at hs0 hs1
        subst hs0
        have HTr := Lib.hid htr
        have HEs := Lib.hid hes
        have hb1 := HBa.out.trans (htr.bel.mono HBa.out.size)
        have HBb := Lib.hid hb1
        have hb2 := HB2.out.trans ((HB.out.trans (htr.bel.mono HB.out.size)).mono HB2.out.size)
        have HBc := Lib.hid hb2
        have p0 := (HRow.out wr hb2).1.cells.1 0
        have o0 := htr.out.cells.1 0
        have hnumr : NumAt wr w2.heap.size g.nodes.length (g.num g.reach.length) := (htr.bel.block _ (by have := HNm.out.lt; omega)).trans HNm.out
        have HNr := Lib.hid hnumr
        have hz5 := htr.out.lt
        clear htr hes hb1 hb2 hnumr
        by_cases hlt : k < R.length
        · obtain ⟨b2, o2, rfl, _, hcell⟩ := IntsO.get _ _ (IntsO.keep (S' := fun k => k < w2.heap.size) (fun k hk => ⟨hk.2, (HB.out.trans (HTr.out.bel.mono HB.out.size)).block k hk.2⟩) _ _ HI2.out) k (by simpa using hlt)
          rw [List.getElem_map] at hcell
          have htk : (R.take (k + 1)).map (fun a => (g.nd a).cut g.reach) = (R.take k).map (fun a => (g.nd a).cut g.reach) ++ [(g.nd R[k]).cut g.reach] := by
            rw [List.take_add_one, List.getElem?_eq_getElem hlt, List.map_append]; rfl
          obtain ⟨y, hy⟩ : ∃ y, y = R[k] := ⟨_, rfl⟩
          rw [← hy] at hcell htk
          have hcell' : wr.cell? ⟨b2, o2 + k, none⟩ = some (.int .i64 y) := hcell
          have hyR : y ∈ g.reach := by rw [hy, ← HR.out]; exact List.getElem_mem hlt
          have hyN : y < g.nodes.length := HRf.out.2.1 y hyR
          have hx := NdsO.get _ _ (NdsO.keep (S' := S) (fun k hk => ⟨hk, (HBw.out _ HBc.out).block k (HS.out k hk)⟩) _ _ HON.out) y hyN
          obtain ⟨b, o, rfl, hnp⟩ := hx
          rw [← g.nd_eq y hyN] at hnp
          have hfit := hF (g.nodes[y]) (List.getElem_mem hyN)
          rw [← g.nd_eq y hyN] at hfit
          obtain ⟨xA, yA, xL, yL, f0, f1, f2, f3, f4, hvv⟩ := hnp.val
          have hV : NdV wr S (g.nd y) (.agg #[.int .i64 (g.nd y).kind, .string (g.nd y).name, .slice xA (g.nd y).args.length yA, .slice xL (g.nd y).labels.length yL, .bool (g.nd y).op]) := ⟨xA, yA, xL, yL, rfl, hvv.1, hvv.2.1, hvv.2.2.1, hvv.2.2.2.1, hvv.2.2.2.2.1, hvv.2.2.2.2.2.1, hvv.2.2.2.2.2.2.1⟩
          have hcall : ∀ W, BelC wr W → Calls Try.prog 24 #[.agg #[.int .i64 (g.nd y).kind, .string (g.nd y).name, .slice xA (g.nd y).args.length yA, .slice xL (g.nd y).labels.length yL, .bool (g.nd y).op], .slice (some ⟨w2.heap.size, 0, none⟩) g.nodes.length g.nodes.length] W fun e w' => ∃ v', e = .returned v' ∧ NdV w' (fun k => W.heap.size ≤ k ∧ k < w'.heap.size) ((g.nd y).cut g.reach) v' ∧ Below W.heap.size W w' := fun W hW => by
            have hkS : ∀ k, k < wr.heap.size → W.heap[k]? = wr.heap[k]? := fun k hk => Below.block hW k hk
            have h := gcopy_r W S (fun k => k = w2.heap.size) (g.nd y) _ g.to (some ⟨w2.heap.size, 0, none⟩) g.nodes.length ((g.nd y).cut g.reach).args (fun k hk => Nat.lt_of_lt_of_le (HLt.out _ HBc.out k hk) (Below.size hW)) (fun k (hk : k = w2.heap.size) => by have h1 := HNr.out.lt; have h2 := Below.size hW; omega) (hV.keep (w := wr) (w' := W) (fun k hk => ⟨hk, hkS k (HLt.out _ HBc.out k hk)⟩)) (IntsO.keep (w := wr) (w' := W) (fun k (hk : k = w2.heap.size) => ⟨hk, hkS k (by rw [hk]; exact HNr.out.lt)⟩) _ _ HNr.out.ints) (by rw [to_len]; exact Nat.le_refl _) (by unfold maxLen; omega) hfit.1 hfit.2 (by simp [RNd.cut]) (cut_hin HOk.out hyR)
            rw [to_len] at h
            exact h
          have HCall := Lib.hid hcall
          have HTk := Lib.hid htk
          have hblt : b < w.heap.size := HS.out b hvv.2.2.2.2.2.2.2
          have hc : ∀ W, Keeps (fun q => (Value.slice sA k sc).ownBlock = some q) wr W → (W.cell? ⟨wE.heap.size, 0, none⟩ = some (.slice sA k sc) ∧ W.cell? ⟨w.heap.size, 0, none⟩ = some (.slice (some ⟨b, o, none⟩) g.nodes.length cN) ∧ W.cell? ⟨b, o + y * 5, none⟩ = some (.int .i64 (g.nd y).kind) ∧ W.cell? ⟨b, o + y * 5 + 1, none⟩ = some (.string (g.nd y).name) ∧ W.cell? ⟨b, o + y * 5 + 2, none⟩ = some (.slice xA (g.nd y).args.length yA) ∧ W.cell? ⟨b, o + y * 5 + 3, none⟩ = some (.slice xL (g.nd y).labels.length yL) ∧ W.cell? ⟨b, o + y * 5 + 4, none⟩ = some (.bool (g.nd y).op)) := fun W hW => by
            have hown : ∀ q, q < wE.heap.size + 1 → ¬ ((Value.slice sA k sc).ownBlock = some q) := fun q hq e => by have := (HTr.out.row.block e).1; omega
            exact ⟨hW.cell (hown _ (by simp)) o0, hW.cell (hown _ (by simp; omega)) p0, hW.cell (hown _ (by simp; omega)) f0, hW.cell (hown _ (by simp; omega)) f1, hW.cell (hown _ (by simp; omega)) f2, hW.cell (hown _ (by simp; omega)) f3, hW.cell (hown _ (by simp; omega)) f4⟩
          have HC := Lib.hid hc
          have hx0 := hc wr (Keeps.refl _ _)
          clear hcell hy hnp hfit hcall htk hV hvv hc o0 p0 f0 f1 f2 f3 f4
          go_wp2
          obtain ⟨o0, p0, f0, f1, f2, f3, f4⟩ := hx0
          go_region_law (first | (go_simp; go_at_call 24; refine (HCall.out _ ?_).mono ?_; (· repeat (first | with_reducible exact BelC.refl _ | with_reducible refine BelC.drew ?_)); rintro e w6 ⟨v6, rfl, hv6, hb6⟩; have hk6 : (Keeps (fun q => (Value.slice sA k sc).ownBlock = some q) wr w6) := (Keeps.refl _ wr).drew.trans (Keeps.of_below0 hb6); have hv7 := hv6; obtain ⟨aA, cA, aL, cL, hvv, _⟩ := hv7; subst hvv; have HV6 := Lib.hid hv6; have hb6' : (Below wr.heap.size wr w6) := (Below.refl _ wr).drew.trans hb6; have hz6 := hb6'.size; have HB6 := Lib.hid hb6'; have r0 := (HC.out w6 hk6).1; have hz7 : wE.heap.size < w6.heap.size := (by omega); clear hv6 hb6 hb6') | (refine step_growB (T := srtN) (base := wE.heap.size + 1) (v := .slice sA k sc) (S := fun q => wE.heap.size + 1 ≤ q ∧ q < w6.heap.size ∧ (Value.slice sA k sc).ownBlock ≠ some q) (es := (R.take k).map (fun a => (g.nd a).cut g.reach)) (ms := [(g.nd y).cut g.reach]) rfl (.tmp 35) (.tmp 43) 22 36 rfl j0 _ 80 Try.underlying22 hj hy0 hy1 hy2 rfl rfl (HTr.out.row7 (W6 := w6) HB6.out _) ⟨w6.heap.size, 0, none⟩ 1 _ rfl (fun j u hj => gcell_new _ _ _ _ rfl j u hj) (Items.one srtN (HTr.out.item7 hz5 _ HV6.out)) ?_ ?_ ?_ (by simp) ?_; (· rw [HEs.out]; simp [maxLen]; omega); (· rw [HEs.out]; simp; omega); (· simp; omega); intro v8 w8 hrow8 hk8 hb8; have hk8' := hk6.alloc (.cells #[.int .i64 ((g.nd y).cut g.reach).kind, .string ((g.nd y).cut g.reach).name, .slice aA ((g.nd y).cut g.reach).args.length cA, .slice aL ((g.nd y).cut g.reach).labels.length cL, .bool ((g.nd y).cut g.reach).op] 36) |>.trans hk8; obtain ⟨sA8, sc8, hs8, _, _⟩ := hrow8.form; obtain ⟨n8, hn8⟩ : (∃ n8, n8 = ((R.take k).map (fun a => (g.nd a).cut g.reach) ++ [(g.nd y).cut g.reach]).length) := ⟨_, rfl⟩; rw [← hn8] at hs8; subst hs8; have ho8 := HTr.out.out8 HB6.out hk8; have hc8 := ho8.cells.1 0; have hf8 := ho8.cells.2 0; have HSt := Lib.hid (HTr.out.step HB6.out hrow8 hk8 hb8); clear hrow8 hk8 hb8 ho8 hn8))
          all_goals go_wp2
          all_goals go_roundw
          all_goals first
            | exact ⟨k + 1, _, by go_num, by omega, by rw [HTk.out]; exact HSt.out⟩
            | (simp [intOf]; omega)
        · have hk' : k = R.length := by omega
          have hes : (R.take k).map (fun a => (g.nd a).cut g.reach) = g.trim.nodes := by rw [hk', List.take_length, HR.out]; rfl
          have hrow := HTr.out.row
          rw [hes] at hrow
          have hnl : k = g.trim.nodes.length := by rw [← hes]; exact HEs.out.symm
          obtain ⟨A9, c9, h90, h91, h92, h93⟩ := hrow.nds (S' := fun q => w1.heap.size ≤ q ∧ q < wr.heap.size) (fun q hq => ⟨by omega, hq.2.1⟩) (fun q h1 h2 => ⟨by omega, h2⟩)
          simp only [Value.slice.injEq] at h90
          obtain ⟨rfl, hx9, rfl⟩ := h90
          have o1 := HTr.out.out.cells.1 1
          have hbR := (HRow.out wr HBc.out).2
          obtain ⟨g1, g2⟩ := hbR.cells
          have g10 := g1 0
          have g11 := g1 1
          have g20 := g2 0
          have g21 := g2 1
          have hbS := (hbR.set 0 (.slice sA k sc)).set 1 (.int .i64 0)
          have hkS : Keeps (fun k => k = w.heap.size + 1) wr ((wr.setCell ⟨w.heap.size + 1, 0, none⟩ (.slice sA k sc)).setCell ⟨w.heap.size + 1, 1, none⟩ (.int .i64 0)) :=
            ((Keeps.refl (fun k => k = w.heap.size + 1) wr).setCell (p := ⟨w.heap.size + 1, 0, none⟩) (fun _ => rfl) _).setCell (p := ⟨w.heap.size + 1, 1, none⟩) (fun _ => rfl) _
          have hbW : Below w.heap.size w ((wr.setCell ⟨w.heap.size + 1, 0, none⟩ (.slice sA k sc)).setCell ⟨w.heap.size + 1, 1, none⟩ (.int .i64 0)) :=
            ((HBw.out _ HBc.out).setCell (by simp) _).setCell (by simp) _
          have HbS := Lib.hid hbS
          have HkS := Lib.hid hkS
          have HbW := Lib.hid hbW
          have H93 := Lib.hid h93
          have H91 := Lib.hid h91
          have HNl := Lib.hid hnl
          clear hbS hkS hbW hbR g1 g2 h93 h91 hk' hx9 hnl hrow hes
          go_wp2
          generalize ((wr.setCell ⟨w.heap.size + 1, 0, none⟩ (.slice sA k sc)).setCell ⟨w.heap.size + 1, 1, none⟩ (.int .i64 0)) = W9 at HbS HkS HbW ⊢
          obtain ⟨p1, p2⟩ := HbS.out.cells
          have p10 : W9.cell? ⟨w.heap.size + 1, 0, none⟩ = some (.slice sA k sc) := p1 0
          have p11 : W9.cell? ⟨w.heap.size + 1, 1, none⟩ = some (.int .i64 0) := p1 1
          refine bodyPost_ret (v := .agg #[.slice sA k sc, .int .i64 0]) (by simp [results, Try.results12, go_sem, p10, p11]) rfl ?_
          refine ⟨_, rfl, ⟨sA, sc, ?_, H91.out, h92, ?_⟩, HbW.out⟩
          · rw [HNl.out]; rfl
          · exact NdsO.keep (fun q hq => ⟨⟨by omega, Nat.lt_of_lt_of_le hq.2 HkS.out.size⟩, HkS.out.block q hq.2 (by omega)⟩) _ _ H93.out

set_option maxRecDepth 100000 in
set_option maxHeartbeats 2000000 in
theorem gtrim_no (w : World) (S : Nat → Prop) (g : RGr) (gv : Value) (hok : g.ok = false) (hb8 : g.nodes.length * 8 ≤ 140737488355328) (hS : ∀ k, S k → k < w.heap.size) (he : GrV w S g gv) :
    Calls Try.prog 12 #[gv] w fun e w' => e = .returned (.agg #[.slice none 0 0, .int .i64 0]) ∧ Below w.heap.size w w' := by
  obtain ⟨A, cN, hgv, hcN, hcN9, oN⟩ := he
  subst hgv
  have HON := Lib.hid oN
  have HS := Lib.hid hS
  obtain ⟨w1, hw1⟩ : ∃ w1, w1 = (w.alloc (.cells #[.slice A g.nodes.length cN, .int .i64 g.root] 24)).alloc (.cells #[.slice none 0 0, .int .i64 0] 24) := ⟨_, rfl⟩
  have hsz1 : w1.heap.size = w.heap.size + 2 := by rw [hw1]; simp
  have hb1 : Below w.heap.size w w1 := by rw [hw1]; exact ((Below.refl _ _).alloc (Nat.le_refl _) _).alloc (by simp) _
  have hbw : ∀ W, Below w1.heap.size w1 W → Below w.heap.size w W := fun W hW => hb1.trans (hW.mono (by omega))
  have hq0 : Blk w1 w.heap.size (.cells #[.slice A g.nodes.length cN, .int .i64 g.root] 24 (0, 0)) := by rw [hw1]; exact (Blk.new' _ _ _ rfl).alloc _
  have hq1 : Blk w1 (w.heap.size + 1) (.cells #[.slice none 0 0, .int .i64 0] 24 (0, 0)) := by rw [hw1]; exact Blk.new' _ _ _ (by simp)
  have hrow : ∀ W, Below w1.heap.size w1 W → Blk W w.heap.size (.cells #[.slice A g.nodes.length cN, .int .i64 g.root] 24 (0, 0)) ∧ Blk W (w.heap.size + 1) (.cells #[.slice none 0 0, .int .i64 0] 24 (0, 0)) := fun W hW =>
    ⟨(hW.block _ (by omega)).trans hq0, (hW.block _ (by omega)).trans hq1⟩
  have hgr : GrV w1 S g (.agg #[.slice A g.nodes.length cN, .int .i64 g.root]) := ⟨A, cN, rfl, hcN, hcN9, NdsO.keep (fun k hk => ⟨hk, hb1.block k (HS.out k hk)⟩) _ _ HON.out⟩
  have hlt : ∀ k, S k → k < w1.heap.size := fun k hk => Nat.lt_of_lt_of_le (HS.out k hk) hb1.size
  have hcall := greach_no w1 S g _ hok hlt hgr
  have HCall := Lib.hid hcall
  have HRow := Lib.hid hrow
  have HBw := Lib.hid hbw
  have hmk := fun W => makeNum W g.nodes.length hb8
  unfold maxLen at hcN9
  clear hS oN hrow hbw hgr hlt hb1 hq0 hq1 hok hcall
  go_enter Try.func12, Try.ntmps12
  go_wp2_with fail
  rw [← hw1]
  clear hw1
  refine HCall.out.mono ?_
  rintro e w2 ⟨rfl, hb2⟩
  have HB2 := Lib.hid hb2
  have q0 := (HRow.out w2 hb2).1.cells.1 0
  clear hb2 HCall
  go_wp2_with fail
  have hb3 : Below w1.heap.size w1 (w2.alloc (.cells (numCells g.nodes.length fun _ => 0) 3)) := HB2.out.alloc HB2.out.size _
  have HB3 := Lib.hid hb3
  clear hb3 hmk
  generalize w2.alloc (.cells (numCells g.nodes.length fun _ => 0) 3) = w3 at HB3 ⊢
  go_loopw [5, 6, 18] (fun _ _ i wr => i = .int .i64 0 ∧ wr = w3) (fun _ _ i _ => 0)
  case atStart => exact ⟨rfl, rfl⟩
  case round =>
    obtain ⟨rfl, hw⟩ := hrel
    obtain rfl : w3 = wr := hw.symm
    go_wp2
    have hb4 : Below w1.heap.size w1 (w3.alloc (.cells #[.slice none 0 0, .int .i64 0] 24)) := HB3.out.alloc HB3.out.size _
    have hq4 : Blk (w3.alloc (.cells #[.slice none 0 0, .int .i64 0] 24)) w3.heap.size (.cells #[.slice none 0 0, .int .i64 0] 24 (0, 0)) := Blk.new' _ _ _ rfl
    have HB4 := Lib.hid hb4
    have HQ4 := Lib.hid hq4
    clear hb4 hq4
    generalize w3.alloc (.cells #[.slice none 0 0, .int .i64 0] 24) = w4 at HB4 HQ4 ⊢
    go_loopw [9, 30] (fun _ i wr => i = .int .i64 0 ∧ wr = w4) (fun _ i _ => 0)
    case atStart => exact ⟨rfl, rfl⟩
    case round =>
      obtain ⟨rfl, hw⟩ := hrel
      obtain rfl : w4 = wr := hw.symm
      have o0 := HQ4.out.cells.1 0
      have o1 := HQ4.out.cells.1 1
      have hbR := (HRow.out w4 HB4.out).2
      obtain ⟨g1, g2⟩ := hbR.cells
      have g10 := g1 0
      have g11 := g1 1
      have g20 := g2 0
      have g21 := g2 1
      have hbS := (hbR.set 0 (.slice none 0 0)).set 1 (.int .i64 0)
      have hbW : Below w.heap.size w ((w4.setCell ⟨w.heap.size + 1, 0, none⟩ (.slice none 0 0)).setCell ⟨w.heap.size + 1, 1, none⟩ (.int .i64 0)) :=
        ((HBw.out _ HB4.out).setCell (by simp) _).setCell (by simp) _
      have HbS := Lib.hid hbS
      have HbW := Lib.hid hbW
      clear hbS hbW hbR g1 g2
      go_wp2
      generalize ((w4.setCell ⟨w.heap.size + 1, 0, none⟩ (.slice none 0 0)).setCell ⟨w.heap.size + 1, 1, none⟩ (.int .i64 0)) = W9 at HbS HbW ⊢
      obtain ⟨p1, p2⟩ := HbS.out.cells
      have p10 : W9.cell? ⟨w.heap.size + 1, 0, none⟩ = some (.slice none 0 0) := p1 0
      have p11 : W9.cell? ⟨w.heap.size + 1, 1, none⟩ = some (.int .i64 0) := p1 1
      refine bodyPost_ret (v := .agg #[.slice none 0 0, .int .i64 0]) (by simp [results, Try.results12, go_sem, p10, p11]) rfl ?_
      exact ⟨rfl, HbW.out⟩

theorem gTrim_u (w : World) (S : Nat → Prop) (g : RGr) (gv : Value) (hF : g.fits) (hb8 : g.nodes.length * 8 ≤ 140737488355328) (hS : ∀ k, S k → k < w.heap.size) (he : GrV w S g gv) :
    Calls Try.prog 12 #[gv] w fun e w' => ∃ v', e = .returned v' ∧ GrV w' (fun k => w.heap.size ≤ k ∧ k < w'.heap.size) g.trimU v' ∧ Below w.heap.size w w' := by
  unfold RGr.trimU
  rcases hok : g.ok with _ | _
  · refine (gtrim_no w S g gv hok hb8 hS he).mono ?_
    rintro e w' ⟨rfl, hb⟩
    exact ⟨_, rfl, ⟨none, 0, rfl, Nat.le_refl _, Nat.zero_le _, trivial⟩, hb⟩
  · exact gtrim_r w S g gv hok hF hS he
end Go.Proofs.Ytipehahfbcbigaa

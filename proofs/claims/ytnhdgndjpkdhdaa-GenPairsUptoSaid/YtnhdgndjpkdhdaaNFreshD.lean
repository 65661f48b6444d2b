/-
  gen.fresh.
-/
import Derived.Test.YtnhdgndjpkdhdaaNFrs
namespace Go.Proofs.Ytnhdgndjpkdhdaa
open Go.RowKit Go.Shelf Go.Sort

set_option maxRecDepth 100000 in
set_option maxHeartbeats 4000000 in
theorem dfresh_r (w : World) (S S2 : Nat → Prop) (g : RGr) (gv : Value) (C : List Nat) (cA : Option Addr) (cc : Nat) (hok : g.ok = true) (hF : g.fits) (hS : ∀ k, S k → k < w.heap.size) (he : GrV w S g gv)
    (hC : C.Nodup) (hCl : ∀ x, x ∈ C → x < g.nodes.length) (hS2 : ∀ k, S2 k → k < w.heap.size) (hI : IntsO w S2 (C.map Int.ofNat) cA) (_hcc : C.length ≤ cc) (hcm : cc ≤ maxLen) :
    Calls Try.prog 34 #[gv, .slice cA C.length cc] w fun e w' => ∃ v', e = .returned v' ∧ GrV w' (New w.heap.size w') (g.freshOf C) v' ∧ Below w.heap.size w w' := by
  have hN := RGr.ok_len hok
  have hCn : C.length ≤ g.nodes.length := G.nodup_len _ hC hCl
  obtain ⟨A, cN, hgv, hcN, hcN9, oN⟩ := he
  subst hgv
  obtain ⟨w1, hw1⟩ : ∃ w1, w1 = ((w.alloc (.cells #[.slice A g.nodes.length cN, .int .i64 g.root] 24)).alloc (.cells #[.slice none 0 0, .int .i64 0] 24)).alloc (.cells (numCells g.nodes.length fun _ => 0) 3) := ⟨_, rfl⟩
  have hsz1 : w1.heap.size = w.heap.size + 3 := by rw [hw1]; simp
  have hb1 : Below w.heap.size w w1 := by rw [hw1]; exact (((Below.refl _ _).alloc (Nat.le_refl _) _).alloc (by simp) _).alloc (by simp; omega) _
  have hq0 : Blk w1 w.heap.size (.cells #[.slice A g.nodes.length cN, .int .i64 g.root] 24 (0, 0)) := by rw [hw1]; exact ((Blk.new' _ _ _ rfl).alloc _).alloc _
  have hq1 : Blk w1 (w.heap.size + 1) (.cells #[.slice none 0 0, .int .i64 0] 24 (0, 0)) := by rw [hw1]; exact (Blk.new' _ _ _ (by simp)).alloc _
  have hn1 : NumAt w1 (w.heap.size + 2) g.nodes.length (fun i => if i < 0 then i else 0) := by
    rw [hw1]
    have : (fun i : Nat => if i < 0 then i else 0) = fun _ => 0 := by funext i; simp
    rw [this]
    exact gheap_at _ _ _ (by simp)
  have HOk := Lib.hid hok
  have HC := Lib.hid hC
  have HCl := Lib.hid hCl
  have HB1 := Lib.hid hb1
  have HQ0 := Lib.hid hq0
  have HQ1 := Lib.hid hq1
  have HN1 := Lib.hid hn1
  have HZ1 := Lib.hid (fun k hk => by have := hS k hk; omega : ∀ k, S k → k < w.heap.size)
  have HZ2 := Lib.hid (fun k hk => by have := hS2 k hk; omega : ∀ k, S2 k → k < w.heap.size)
  have HA := Lib.hid oN
  have HI := Lib.hid hI
  have hmk := fun W => makeNum W g.nodes.length (by omega)
  unfold maxLen at hcN9 hcm
  clear hS hS2 hI oN hok hC hCl hb1 hq0 hq1 hn1
  go_enter Try.func34, Try.ntmps34
  go_wp2
  rw [show w.heap.size + 1 + 1 = w.heap.size + 2 from rfl, ← hw1]
  clear hmk hw1
  go_loopw [19] (fun i wr => ∃ k : Nat, i = .int .i64 k ∧ k ≤ g.nodes.length ∧ NumAt wr (w.heap.size + 2) g.nodes.length (fun i => if i < k then i else 0) ∧ Keeps (fun q => q = w.heap.size + 2) w1 wr) (fun i _ => g.nodes.length - (intOf i).toNat)
  case atStart => exact ⟨0, rfl, Nat.zero_le _, HN1.out, Keeps.refl _ _⟩
  case round =>
    obtain ⟨k, rfl, hk, hnum, hkp⟩ := hrel
    have HKp := Lib.hid hkp
    by_cases hlt : k < g.nodes.length
    · obtain ⟨m1, m2⟩ := hnum.cell k hlt
      have hset := hnum.set k k (fun i => if i < k + 1 then i else 0) (fun i _ => by
        by_cases e : i = k
        · subst e; simp
        · rw [if_neg e]
          by_cases e2 : i < k
          · rw [if_pos (by omega), if_pos e2]
          · rw [if_neg (by omega), if_neg e2])
      have HSet := Lib.hid hset
      clear hnum hkp hset
      go_wp2
      go_roundw
      case rel => exact ⟨k + 1, by go_num, by omega, HSet.out, HKp.out.setCell (p := ⟨w.heap.size + 2, k, none⟩) (fun _ => rfl) _⟩
      case measure => simp [intOf]; omega
    · have hk' : k = g.nodes.length := by omega
      have hnum2 : NumAt wr (w.heap.size + 2) g.nodes.length (fun x => x) := hnum.congrE (fun i hi => by rw [hk', if_pos hi])
      have hzr := hkp.size
      have r0 : Blk wr w.heap.size (.cells #[.slice A g.nodes.length cN, .int .i64 g.root] 24 (0, 0)) := (hkp.block _ (by omega) (by omega)).trans HQ0.out
      have r1 : Blk wr (w.heap.size + 1) (.cells #[.slice none 0 0, .int .i64 0] 24 (0, 0)) := (hkp.block _ (by omega) (by omega)).trans HQ1.out
      have c0 := r0.cells.1 0
      have hmk := makeRow0 wr (g.nodes.length + C.length) (by omega)
      rw [show ((g.nodes.length + C.length : Nat) : Int) = (g.nodes.length : Int) + (C.length : Int) from by omega] at hmk
      obtain ⟨w4, hw4⟩ : ∃ w4, w4 = wr.alloc (.cells (madeCells (Value.agg #[.int .i64 0, .string ⟨#[]⟩, .slice none 0 0, .slice none 0 0, .bool false]).cells ((g.nodes.length + C.length) * 5)) 37) := ⟨_, rfl⟩
      rw [← hw4] at hmk
      have hz4 : w4.heap.size = wr.heap.size + 1 := by rw [hw4]; simp
      have hb4 : Below w.heap.size w w4 := by rw [hw4]; exact (HB1.out.trans (hkp.below (by omega) (fun i hi e => by omega))).alloc (by omega) _
      have r04 : Blk w4 w.heap.size (.cells #[.slice A g.nodes.length cN, .int .i64 g.root] 24 (0, 0)) := by rw [hw4]; exact r0.alloc _
      have r14 : Blk w4 (w.heap.size + 1) (.cells #[.slice none 0 0, .int .i64 0] 24 (0, 0)) := by rw [hw4]; exact r1.alloc _
      have n4 : NumAt w4 (w.heap.size + 2) g.nodes.length (fun x => x) := by rw [hw4]; exact (Below.heap_alloc _ _ _ hnum2.lt).trans hnum2
      obtain ⟨bR, hbR⟩ : ∃ bR, bR = wr.heap.size := ⟨_, rfl⟩
      have hlt4 : w.heap.size + 2 < bR := by have := hnum2.lt; omega
      have f4 : Frs (w.heap.size + 2) bR w4 w4 (.slice (some ⟨bR, 0, none⟩) 0 (g.nodes.length + C.length)) (g.nodes.take 0) := by
        refine ⟨Keeps.refl _ _, hlt4, by omega, ?_⟩
        rw [hbR, hw4, List.take_zero]
        exact (row0 wr _ (by omega)).wide (fun _ h => h.elim) (fun q hq => ⟨hq.1.2.1, hq.2⟩)
      have c04 := r04.cells.1 0
      have HR04 := Lib.hid r04
      have HR14 := Lib.hid r14
      have HN4 := Lib.hid n4
      have HF4 := Lib.hid f4
      have HB4 := Lib.hid hb4
      rw [← hbR] at hmk hz4
      clear hnum hnum2 hkp r0 r1 hk' r04 r14 n4 f4 hb4 hw4
      go_wp2
      rw [show wr.heap.size = bR from hbR.symm]
      clear hmk c0 c04 hbR HKp
      obtain ⟨j0, hjI, hy0, hy1, hy2⟩ := info_parts infoNode
      have hcl4 : ∀ s es W, Frs (w.heap.size + 2) bR w4 W s es → W.cell? ⟨w.heap.size, 0, none⟩ = some (.slice A g.nodes.length cN) ∧ W.cell? ⟨w.heap.size, 1, none⟩ = some (.int .i64 g.root) ∧ Below w.heap.size w W := fun s es W h => by
        have hb : W.heap[w.heap.size]? = w4.heap[w.heap.size]? := h.kp.block w.heap.size (by omega) (by omega)
        refine ⟨(World.cell?_of_block (a := ⟨w.heap.size, 0, none⟩) hb).trans (HR04.out.cells.1 0), (World.cell?_of_block (a := ⟨w.heap.size, 1, none⟩) hb).trans (HR04.out.cells.1 1), HB4.out.trans (h.kp.below (by omega) (fun i hi e => by omega))⟩
      have HCl4 := Lib.hid hcl4
      clear hcl4
      go_loopw [7, 37] (fun s i wr => ∃ k : Nat, i = .int .i64 k ∧ k ≤ g.nodes.length ∧ Frs (w.heap.size + 2) bR w4 wr s (g.nodes.take k) ∧ NumAt wr (w.heap.size + 2) g.nodes.length (fun x => x)) (fun _ i _ => g.nodes.length - (intOf i).toNat)
      case atStart => exact ⟨0, rfl, Nat.zero_le _, HF4.out, HN4.out⟩
      case round =>
        obtain ⟨k, rfl, hk, hfr, hnum⟩ := hrel
        obtain ⟨sA, sc, hs0, hs1, hs2⟩ := hfr.row.form
        have hes : (g.nodes.take k).length = k := by rw [List.length_take]; omega
        rw [hes] at hs0 hs1
        subst hs0
        obtain ⟨c0, c1, hbW⟩ := HCl4.out _ _ _ hfr
        have HEs := Lib.hid hes
        have HFr := Lib.hid hfr
        have HNr := Lib.hid hnum
        have HBW := Lib.hid hbW
        have hzn := hnum.lt
        clear hes hfr hnum hbW
        by_cases hlt : k < g.nodes.length
        · obtain ⟨b, o, hAe, hnp⟩ := NdsO.get _ _ (NdsO.keep (S' := S) (fun q hq => ⟨hq, HBW.out.block q (HZ1.out q hq)⟩) _ _ HA.out) k hlt
          rw [← g.nd_eq k hlt] at hnp
          have hfit := hF (g.nodes[k]) (List.getElem_mem hlt)
          rw [← g.nd_eq k hlt] at hfit
          have hcall := renumbered_r wr S (fun q => q = w.heap.size + 2) (g.nd k) b (o + k * 5) ((List.range g.nodes.length).map fun i => (((fun x => x) i : Nat) : Int)) (some ⟨w.heap.size + 2, 0, none⟩) g.nodes.length ((g.nd k).ren fun x => x).args (fun q hq => Nat.lt_of_lt_of_le (HZ1.out q hq) HBW.out.size) (fun q (hq : q = w.heap.size + 2) => by omega) hnp HNr.out.ints (by simp) (by unfold maxLen; omega) hfit.1 hfit.2 (by simp [RNd.ren]) (ren_hin HOk.out k hlt _)
          rw [show ((List.range g.nodes.length).map fun i => (((fun x => x) i : Nat) : Int)).length = g.nodes.length from by simp] at hcall
          have HCall := Lib.hid hcall
          have hts : g.nodes.take (k + 1) = g.nodes.take k ++ [(g.nd k).ren fun x => x] := by
            rw [List.take_add_one, List.getElem?_eq_getElem hlt, ren_id HOk.out k hlt, g.nd_eq k hlt]
            rfl
          have HTs := Lib.hid hts
          subst hAe
          clear hnp hfit hcall hts
          go_wp2_with (first | (go_at_call 51; refine HCall.out.mono ?_; rintro e w6 ⟨v6, rfl, hv6, hb6⟩; have hv7 := hv6; obtain ⟨aA, cA6, aL, cL, hvv, _⟩ := hv7; subst hvv; have HV6 := Lib.hid hv6; have HB6 := Lib.hid hb6; have hz6 := hb6.size; clear hv6 hb6) | (at_builtin; (refine wpList_growB (T := srtN) (ms := [(g.nd k).ren fun x => x]) rfl (.tmp 40) (.tmp 47) 22 37 rfl j0 _ 80 Try.underlying22 hjI hy0 hy1 hy2 rfl rfl (HFr.out.row7 (W6 := w6) HB6.out _) ⟨w6.heap.size, 0, none⟩ 1 _ rfl (fun j u hj => gcell_new _ _ _ _ rfl j u hj) (Items.one srtN (HFr.out.item7 _ HV6.out)) ?_ ?_ ?_ (by simp) ?_; (· rw [HEs.out]; simp [maxLen]; omega); (· rw [HEs.out]; simp; omega); (· have := HFr.out.sz; simp; omega)); intro v8 w8 hrow8 hk8 hb8; have HSt := Lib.hid (HFr.out.step HB6.out hrow8 hk8 hb8); have HNst := Lib.hid (HFr.out.num HB6.out hk8 HNr.out); clear hrow8 hk8 hb8))
          go_roundw
          case rel => exact ⟨k + 1, by go_num, by omega, by rw [HTs.out]; exact HSt.out, HNst.out⟩
          case measure => simp [intOf]; omega
        · have hk' : k = g.nodes.length := by omega
          have hfr3 := HFr.out
          have hes3 : g.nodes.take k = g.nodes := by rw [hk', List.take_length]
          rw [hes3] at hfr3
          have HFr3 := Lib.hid hfr3
          have HN3 : Hid (NumAt wr (w.heap.size + 2) g.nodes.length (toK g.nodes.length C 0)) := Lib.hid (by rw [toK_zero]; exact HNr.out)
          have HI3 := Lib.hid (IntsO.keep (fun q hq => ⟨hq, HBW.out.block q (HZ2.out q hq)⟩) _ _ HI.out : IntsO wr S2 (C.map Int.ofNat) cA)
          clear hk' hfr3 hes3 HFr HNr HEs
          go_wp2
          go_loopw [52] (fun i wr => ∃ j : Nat, i = .int .i64 j ∧ j ≤ C.length ∧ Frs (w.heap.size + 2) bR w4 wr (.slice sA k sc) g.nodes ∧ NumAt wr (w.heap.size + 2) g.nodes.length (toK g.nodes.length C j)) (fun i _ => C.length - (intOf i).toNat)
          case atStart => exact ⟨0, rfl, Nat.zero_le _, HFr3.out, HN3.out⟩
          case round =>
            obtain ⟨j, rfl, hj, hfr, hnum⟩ := hrel
            obtain ⟨d0, d1, hbW⟩ := HCl4.out _ _ _ hfr
            have HFr := Lib.hid hfr
            have HNr := Lib.hid hnum
            have HBW2 := Lib.hid hbW
            have hzn2 := hnum.lt
            by_cases hlt3 : j < C.length
            · obtain ⟨b5, o5, rfl, _, e1⟩ := IntsO.get _ _ (IntsO.keep (S' := S2) (fun q hq => ⟨hq, hbW.block q (HZ2.out q hq)⟩) _ _ HI.out) j (by simpa using hlt3)
              rw [List.getElem_map] at e1
              obtain ⟨x, hx⟩ : ∃ x, x = C[j] := ⟨_, rfl⟩
              rw [← hx] at e1
              have e1' : wr.cell? ⟨b5, o5 + j, none⟩ = some (.int .i64 x) := e1
              have hxN : x < g.nodes.length := HCl.out x (by rw [hx]; exact List.getElem_mem hlt3)
              obtain ⟨m1, m2⟩ := hnum.cell x hxN
              have hset := hnum.set x (g.nodes.length + j) (toK g.nodes.length C (j + 1)) (fun i _ => by rw [toK_step HC.out j hlt3, hx])
              rw [Int.natCast_add] at hset
              have HSet := Lib.hid hset
              clear e1 hx hset hfr hnum hbW
              go_wp2
              go_roundw
              case rel => exact ⟨j + 1, by go_num, by omega, HFr.out.poke _ _, HSet.out⟩
              case measure => simp [intOf]; omega
            · have hj' : j = C.length := by omega
              have hfr4 : Frs (w.heap.size + 2) bR w4 wr (.slice sA k sc) (g.nodes ++ (C.take 0).map fun a => (g.nd a).ren (toK g.nodes.length C C.length)) := by simpa using hfr
              have hn4 : NumAt wr (w.heap.size + 2) g.nodes.length (toK g.nodes.length C C.length) := by rw [← hj']; exact hnum
              have HFr4 := Lib.hid hfr4
              have HN4' := Lib.hid hn4
              clear hj' hfr4 hn4 hfr hnum hbW HFr HNr
              go_wp2
              go_loopw [7, 68] (fun s i wr => ∃ j : Nat, i = .int .i64 j ∧ j ≤ C.length ∧ Frs (w.heap.size + 2) bR w4 wr s (g.nodes ++ (C.take j).map fun a => (g.nd a).ren (toK g.nodes.length C C.length)) ∧ NumAt wr (w.heap.size + 2) g.nodes.length (toK g.nodes.length C C.length)) (fun _ i _ => C.length - (intOf i).toNat)
              case atStart => exact ⟨0, rfl, Nat.zero_le _, HFr4.out, HN4'.out⟩
              case round =>
                obtain ⟨j, rfl, hj, hfr, hnum⟩ := hrel
                obtain ⟨sA, sc, hs0, hs1, hs2⟩ := hfr.row.form
                have hes : (g.nodes ++ (C.take j).map fun a => (g.nd a).ren (toK g.nodes.length C C.length)).length = g.nodes.length + j := by rw [List.length_append, List.length_map, List.length_take]; omega
                rw [hes] at hs0 hs1
                subst hs0
                obtain ⟨c0, c1, hbW⟩ := HCl4.out _ _ _ hfr
                have HEs := Lib.hid hes
                have HFr := Lib.hid hfr
                have HNr := Lib.hid hnum
                have HBW := Lib.hid hbW
                have hzn := hnum.lt
                clear hes hfr hnum hbW
                by_cases hlt4' : j < C.length
                · obtain ⟨b5, o5, rfl, _, e1⟩ := IntsO.get _ _ (IntsO.keep (S' := S2) (fun q hq => ⟨hq, HBW.out.block q (HZ2.out q hq)⟩) _ _ HI.out) j (by simpa using hlt4')
                  rw [List.getElem_map] at e1
                  have hts : (C.take (j + 1)).map (fun a => (g.nd a).ren (toK g.nodes.length C C.length)) = (C.take j).map (fun a => (g.nd a).ren (toK g.nodes.length C C.length)) ++ [(g.nd C[j]).ren (toK g.nodes.length C C.length)] := by
                    rw [List.take_add_one, List.getElem?_eq_getElem hlt4', List.map_append]; rfl
                  obtain ⟨y, hye⟩ : ∃ y, y = C[j] := ⟨_, rfl⟩
                  have hyN : y < g.nodes.length := HCl.out y (by rw [hye]; exact List.getElem_mem hlt4')
                  rw [← hye] at e1 hts
                  have e1' : wr.cell? ⟨b5, o5 + j, none⟩ = some (.int .i64 y) := e1
                  obtain ⟨b, o, hAe, hnp⟩ := NdsO.get _ _ (NdsO.keep (S' := S) (fun q hq => ⟨hq, HBW.out.block q (HZ1.out q hq)⟩) _ _ HA.out) y hyN
                  rw [← g.nd_eq y hyN] at hnp
                  have hfit := hF (g.nodes[y]) (List.getElem_mem hyN)
                  rw [← g.nd_eq y hyN] at hfit
                  have hcall := renumbered_r wr S (fun q => q = w.heap.size + 2) (g.nd y) b (o + y * 5) ((List.range g.nodes.length).map fun i => ((toK g.nodes.length C C.length i : Nat) : Int)) (some ⟨w.heap.size + 2, 0, none⟩) g.nodes.length ((g.nd y).ren (toK g.nodes.length C C.length)).args (fun q hq => Nat.lt_of_lt_of_le (HZ1.out q hq) HBW.out.size) (fun q (hq : q = w.heap.size + 2) => by omega) hnp HNr.out.ints (by simp) (by unfold maxLen; omega) hfit.1 hfit.2 (by simp [RNd.ren]) (ren_hin HOk.out y hyN _)
                  rw [show ((List.range g.nodes.length).map fun i => ((toK g.nodes.length C C.length i : Nat) : Int)).length = g.nodes.length from by simp] at hcall
                  have HCall := Lib.hid hcall
                  have HTs := Lib.hid hts
                  subst hAe
                  clear hnp hfit hcall hts e1 hye
                  go_wp2_with (first | (go_at_call 51; refine HCall.out.mono ?_; rintro e w6 ⟨v6, rfl, hv6, hb6⟩; have hv7 := hv6; obtain ⟨aA, cA6, aL, cL, hvv, _⟩ := hv7; subst hvv; have HV6 := Lib.hid hv6; have HB6 := Lib.hid hb6; have hz6 := hb6.size; clear hv6 hb6) | (at_builtin; (refine wpList_growB (T := srtN) (ms := [(g.nd y).ren (toK g.nodes.length C C.length)]) rfl (.tmp 72) (.tmp 79) 22 37 rfl j0 _ 80 Try.underlying22 hjI hy0 hy1 hy2 rfl rfl (HFr.out.row7 (W6 := w6) HB6.out _) ⟨w6.heap.size, 0, none⟩ 1 _ rfl (fun j u hj => gcell_new _ _ _ _ rfl j u hj) (Items.one srtN (HFr.out.item7 _ HV6.out)) ?_ ?_ ?_ (by simp) ?_; (· rw [HEs.out]; simp [maxLen]; omega); (· rw [HEs.out]; simp; omega); (· have := HFr.out.sz; simp; omega)); intro v8 w8 hrow8 hk8 hb8; have HSt := Lib.hid (HFr.out.step HB6.out hrow8 hk8 hb8); have HNst := Lib.hid (HFr.out.num HB6.out hk8 HNr.out); clear hrow8 hk8 hb8))
                  go_roundw
                  case rel => exact ⟨j + 1, by go_num, by omega, by rw [HTs.out, ← List.append_assoc]; exact HSt.out, HNst.out⟩
                  case measure => simp [intOf]; omega
                · have hj' : j = C.length := by omega
                  have hfr5 := HFr.out
                  rw [hj', List.take_length] at hfr5
                  have hroot : 0 ≤ g.root ∧ g.root < g.nodes.length := by
                    have h := HOk.out
                    simp only [RGr.ok, Bool.and_eq_true, decide_eq_true_eq] at h
                    exact h.2.1
                  obtain ⟨rt, hrt⟩ : ∃ rt : Nat, g.root = (rt : Int) := ⟨g.root.toNat, by omega⟩
                  have hrtN : rt < g.nodes.length := by omega
                  obtain ⟨m1, m2⟩ := HNr.out.cell rt hrtN
                  rw [hrt] at c1
                  obtain ⟨A9, c9, h90, h91, h92, h93⟩ := hfr5.row.ndsT (S' := New w.heap.size wr) (fun q hq => hq.1.mono (by omega)) (fun q h1 h2 ht => ⟨by omega, h2, ht⟩)
                  have hb1 : wr.heap[w.heap.size + 1]? = w4.heap[w.heap.size + 1]? := hfr5.kp.block (w.heap.size + 1) (by omega) (by omega)
                  have hbR1 : Blk wr (w.heap.size + 1) (.cells #[.slice none 0 0, .int .i64 0] 24 (0, 0)) := hb1.trans HR14.out
                  obtain ⟨n, hn⟩ : ∃ n, n = (g.freshOf C).nodes.length := ⟨_, rfl⟩
                  have hnn : g.nodes.length + j = n := by rw [hn, ← HEs.out, hj', List.take_length]; rfl
                  obtain ⟨R9, hR9⟩ : ∃ R9, R9 = toK g.nodes.length C C.length rt := ⟨_, rfl⟩
                  have hroot9 : (g.freshOf C).root = (R9 : Nat) := by rw [hR9]; show ((toK g.nodes.length C C.length g.root.toNat : Nat) : Int) = _; rw [hrt, Int.toNat_natCast]
                  rw [← hR9] at m1
                  rw [hnn] at hs1 ⊢
                  have h9e : A9 = sA ∧ c9 = sc := by
                    simp only [Value.slice.injEq] at h90
                    exact ⟨h90.1.symm, h90.2.2.symm⟩
                  rw [h9e.1] at h93
                  have HH9 := Lib.hid (h93 : NdsO wr (New w.heap.size wr) (g.freshOf C).nodes sA)
                  obtain ⟨g1, g2⟩ := hbR1.cells
                  have g10 := g1 0
                  have g11 := g1 1
                  have g20 := g2 0
                  have g21 := g2 1
                  have hbS := (hbR1.set 0 (.slice sA n sc)).set 1 (.int .i64 (R9 : Nat))
                  have hkS : Keeps (fun k => k = w.heap.size + 1) wr ((wr.setCell ⟨w.heap.size + 1, 0, none⟩ (.slice sA n sc)).setCell ⟨w.heap.size + 1, 1, none⟩ (.int .i64 (R9 : Nat))) :=
                    ((Keeps.refl (fun k => k = w.heap.size + 1) wr).setCell (p := ⟨w.heap.size + 1, 0, none⟩) (fun _ => rfl) _).setCell (p := ⟨w.heap.size + 1, 1, none⟩) (fun _ => rfl) _
                  have hbW : Below w.heap.size w ((wr.setCell ⟨w.heap.size + 1, 0, none⟩ (.slice sA n sc)).setCell ⟨w.heap.size + 1, 1, none⟩ (.int .i64 (R9 : Nat))) :=
                    (HBW.out.setCell (by simp) _).setCell (by simp) _
                  have hth : ∀ q, New w.heap.size wr q → Thaw ((wr.setCell ⟨w.heap.size + 1, 0, none⟩ (.slice sA n sc)).setCell ⟨w.heap.size + 1, 1, none⟩ (.int .i64 (R9 : Nat))) q := fun q hq => (hq.2.2.setCell _ _).setCell _ _
                  have hne9 : ∀ q, New bR wr q → q ≠ w.heap.size + 1 := fun q hq => by have := hq.1; omega
                  obtain ⟨A8, c8, h80, _, _, h83⟩ := hfr5.row.ndsT (S' := New bR wr) (fun q hq => hq.1) (fun q h1 h2 ht => ⟨h1, h2, ht⟩)
                  have h8e : A8 = sA := by
                    simp only [Value.slice.injEq] at h80
                    exact h80.1.symm
                  rw [h8e] at h83
                  have HH8 := Lib.hid (h83 : NdsO wr (New bR wr) (g.freshOf C).nodes sA)
                  have HbS := Lib.hid hbS
                  have HkS := Lib.hid hkS
                  have HbW := Lib.hid hbW
                  have HTh := Lib.hid hth
                  have HRt9 := Lib.hid hroot9
                  have HNn := Lib.hid hn
                  have hs2' := hs2
                  unfold maxLen at hs2'
                  clear hj' hfr5 hrt h90 h91 h92 h93 hb1 hbR1 hn hnn hR9 hroot9 h9e g1 g2 hbS hkS hbW hth hne9 h80 h83 h8e hroot HFr HEs HH9
                  go_wp2
                  generalize ((wr.setCell ⟨w.heap.size + 1, 0, none⟩ (.slice sA n sc)).setCell ⟨w.heap.size + 1, 1, none⟩ (.int .i64 (R9 : Nat))) = W9 at HbS HkS HbW HTh ⊢
                  obtain ⟨p1, p2⟩ := HbS.out.cells
                  have p10 : W9.cell? ⟨w.heap.size + 1, 0, none⟩ = some (.slice sA n sc) := p1 0
                  have p11 : W9.cell? ⟨w.heap.size + 1, 1, none⟩ = some (.int .i64 (R9 : Nat)) := p1 1
                  refine bodyPost_ret (v := .agg #[.slice sA n sc, .int .i64 (R9 : Nat)]) (by simp [results, Try.results34, go_sem, p10, p11]) rfl ?_
                  refine ⟨_, rfl, ⟨sA, sc, ?_, ?_, hs2, ?_⟩, HbW.out⟩
                  · rw [HNn.out, HRt9.out]
                  · rw [← HNn.out]; exact hs1
                  · exact NdsO.keep (fun q hq => ⟨⟨by have := hq.1; omega, Nat.lt_of_lt_of_le hq.2.1 HkS.out.size, HTh.out q (hq.mono (by omega))⟩, HkS.out.block q hq.2.1 (by have := hq.1; omega)⟩) _ _ HH8.out
end Go.Proofs.Ytnhdgndjpkdhdaa

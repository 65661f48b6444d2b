/-
  gen.fresh.
-/
/-
  gen.Fresh: what it answers.
-/
import Derived.Test.YtnhdgndjpkdhdaaNFrs
namespace Go.Proofs.Ytnhdgndjpkdhdaa
open Go.RowKit Go.Shelf Go.Sort

set_option maxRecDepth 100000 in
set_option maxHeartbeats 4000000 in
theorem dfresh_r (w : World) (S S2 : Nat → Prop) (g : RGr) (gv : Value) (C : List Nat) (cA : Option Addr) (cc : Nat) (hok : g.ok = true) (hF : g.fits) (hS : ∀ k, S k → k < w.heap.size) (he : GrV w S g gv)
    (hC : C.Nodup) (hCl : ∀ x, x ∈ C → x < g.nodes.length) (hS2 : ∀ k, S2 k → k < w.heap.size) (hI : IntsO w S2 (C.map Int.ofNat) cA) (_hcc : C.length ≤ cc) (hcm : cc ≤ maxLen) :
    Calls Try.prog 34 #[gv, .slice cA C.length cc] w fun e w' => ∃ v', e = .returned v' ∧ GrV w' (New w.heap.size w') (g.freshOf C) v' ∧ Below w.heap.size w w' := by
  have hN := RGr.ok_len hok
  have hCn : C.length ≤ g.nodes.length := G.nodup_len _ hC hCl
  obtain ⟨A, cN, hgv, hcN, hcN9, oN⟩ := he
  subst hgv
  obtain ⟨w1, hw1⟩ : ∃ w1, w1 = ((w.alloc (.cells #[.slice A g.nodes.length cN, .int .i64 g.root] 24)).alloc (.cells #[.slice none 0 0, .int .i64 0] 24)).alloc (.cells (numCells g.nodes.length fun _ => 0) 3) := ⟨_, rfl⟩
  have hsz1 : w1.heap.size = w.heap.size + 3 := by rw [hw1]; simp
  have hb1 : Below w.heap.size w w1 := by rw [hw1]; exact (((Below.refl _ _).alloc (Nat.le_refl _) _).alloc (by simp) _).alloc (by simp; omega) _
  have hq0 : Blk w1 w.heap.size (.cells #[.slice A g.nodes.length cN, .int .i64 g.root] 24 (0, 0)) := by rw [hw1]; exact ((Blk.new' _ _ _ rfl).alloc _).alloc _
  have hq1 : Blk w1 (w.heap.size + 1) (.cells #[.slice none 0 0, .int .i64 0] 24 (0, 0)) := by rw [hw1]; exact (Blk.new' _ _ _ (by simp)).alloc _
  have hn1 : NumAt w1 (w.heap.size + 2) g.nodes.length (fun i => if i < 0 then i else 0) := by
    rw [hw1]
    have : (fun i : Nat => if i < 0 then i else 0) = fun _ => 0 := by funext i; simp
    rw [this]
    exact gheap_at _ _ _ (by simp)
  have HOk := Lib.hid hok
  have HC := Lib.hid hC
  have HCl := Lib.hid hCl
  have HB1 := Lib.hid hb1
  have HQ0 := Lib.hid hq0
  have HQ1 := Lib.hid hq1
  have HN1 := Lib.hid hn1
  have HZ1 := Lib.hid (fun k hk => by have := hS k hk; omega : ∀ k, S k → k < w.heap.size)
  have HZ2 := Lib.hid (fun k hk => by have := hS2 k hk; omega : ∀ k, S2 k → k < w.heap.size)
  have HA := Lib.hid oN
  have HI := Lib.hid hI
  have hmk := fun W => makeNum W g.nodes.length (by omega)
  unfold maxLen at hcN9 hcm
  clear hS hS2 hI oN hok hC hCl hb1 hq0 hq1 hn1
  go_enter Try.func34, Try.ntmps34
  go_wp2
  rw [show w.heap.size + 1 + 1 = w.heap.size + 2 from rfl, ← hw1]
  clear hmk hw1
  go_loopw [19] (fun i wr => ∃ k : Nat, i = .int .i64 k ∧ k ≤ g.nodes.length ∧ NumAt wr (w.heap.size + 2) g.nodes.length (fun i => if i < k then i else 0) ∧ Keeps (fun q => q = w.heap.size + 2) w1 wr) (fun i _ => g.nodes.length - (intOf i).toNat)
  case atStart => exact ⟨0, rfl, Nat.zero_le _, HN1.out, Keeps.refl _ _⟩
  case round =>
    obtain ⟨k, rfl, hk, hnum, hkp⟩ := hrel
    have HKp := Lib.hid hkp
    by_cases hlt : k < g.nodes.length
    · obtain ⟨m1, m2⟩ := hnum.cell k hlt
      have hset := hnum.set k k (fun i => if i < k + 1 then i else 0) (fun i _ => by
        by_cases e : i = k
        · subst e; simp
        · rw [if_neg e]
          by_cases e2 : i < k
          · rw [if_pos (by omega), if_pos e2]
          · rw [if_neg (by omega), if_neg e2])
      have HSet := Lib.hid hset
      clear hnum hkp hset
      go_wp2
      go_roundw
      case rel => exact ⟨k + 1, by go_num, by omega, HSet.out, HKp.out.setCell (p := ⟨w.heap.size + 2, k, none⟩) (fun _ => rfl) _⟩
      case measure => simp [intOf]; omega
    · have hk' : k = g.nodes.length := by omega
      have hnum2 : NumAt wr (w.heap.size + 2) g.nodes.length (fun x => x) := hnum.congrE (fun i hi => by rw [hk', if_pos hi])
      have hzr := hkp.size
      have r0 : Blk wr w.heap.size (.cells #[.slice A g.nodes.length cN, .int .i64 g.root] 24 (0, 0)) := (hkp.block _ (by omega) (by omega)).trans HQ0.out
      have r1 : Blk wr (w.heap.size + 1) (.cells #[.slice none 0 0, .int .i64 0] 24 (0, 0)) := (hkp.block _ (by omega) (by omega)).trans HQ1.out
      have c0 := r0.cells.1 0
      have hmk := makeRow0 wr (g.nodes.length + C.length) (by omega)
      rw [show ((g.nodes.length + C.length : Nat) : Int) = (g.nodes.length : Int) + (C.length : Int) from by omega] at hmk
      obtain ⟨w4, hw4⟩ : ∃ w4, w4 = wr.alloc (.cells (madeCells (Value.agg #[.int .i64 0, .string ⟨#[]⟩, .slice none 0 0, .slice none 0 0, .bool false]).cells ((g.nodes.length + C.length) * 5)) 37) := ⟨_, rfl⟩
      rw [← hw4] at hmk
      have hz4 : w4.heap.size = wr.heap.size + 1 := by rw [hw4]; simp
      have hb4 : Below w.heap.size w w4 := by rw [hw4]; exact (HB1.out.trans (hkp.below (by omega) (fun i hi e => by omega))).alloc (by omega) _
      have r04 : Blk w4 w.heap.size (.cells #[.slice A g.nodes.length cN, .int .i64 g.root] 24 (0, 0)) := by rw [hw4]; exact r0.alloc _
      have r14 : Blk w4 (w.heap.size + 1) (.cells #[.slice none 0 0, .int .i64 0] 24 (0, 0)) := by rw [hw4]; exact r1.alloc _
      have n4 : NumAt w4 (w.heap.size + 2) g.nodes.length (fun x => x) := by rw [hw4]; exact (Below.heap_alloc _ _ _ hnum2.lt).trans hnum2
      obtain ⟨bR, hbR⟩ : ∃ bR, bR = wr.heap.size := ⟨_, rfl⟩
      have hlt4 : w.heap.size + 2 < bR := by have := hnum2.lt; omega
      have f4 : Frs (w.heap.size + 2) bR w4 w4 (.slice (some ⟨bR, 0, none⟩) 0 (g.nodes.length + C.length)) (g.nodes.take 0) := by
        refine ⟨Keeps.refl _ _, hlt4, by omega, ?_⟩
        rw [hbR, hw4, List.take_zero]
        exact (row0 wr _ (by omega)).wide (fun _ h => h.elim) (fun q hq => ⟨hq.1.2.1, hq.2⟩)
      have c04 := r04.cells.1 0
      have HR04 := Lib.hid r04
      have HR14 := Lib.hid r14
      have HN4 := Lib.hid n4
      have HF4 := Lib.hid f4
      have HB4 := Lib.hid hb4
      rw [← hbR] at hmk hz4
      clear hnum hnum2 hkp r0 r1 hk' r04 r14 n4 f4 hb4 hw4
      go_wp2
      rw [show wr.heap.size = bR from hbR.symm]
      clear hmk c0 c04 hbR HKp
      obtain ⟨j0, hjI, hy0, hy1, hy2⟩ := info_parts infoNode
      have hcl4 : ∀ s es W, Frs (w.heap.size + 2) bR w4 W s es → W.cell? ⟨w.heap.size, 0, none⟩ = some (.slice A g.nodes.length cN) ∧ W.cell? ⟨w.heap.size, 1, none⟩ = some (.int .i64 g.root) ∧ Below w.heap.size w W := fun s es W h => by
        have hb : W.heap[w.heap.size]? = w4.heap[w.heap.size]? := h.kp.block w.heap.size (by omega) (by omega)
        refine ⟨(World.cell?_of_block (a := ⟨w.heap.size, 0, none⟩) hb).trans (HR04.out.cells.1 0), (World.cell?_of_block (a := ⟨w.heap.size, 1, none⟩) hb).trans (HR04.out.cells.1 1), HB4.out.trans (h.kp.below (by omega) (fun i hi e => by omega))⟩
      have HCl4 := Lib.hid hcl4
      clear hcl4
      go_loopw [7, 37] (fun s i wr => ∃ k : Nat, i = .int .i64 k ∧ k ≤ g.nodes.length ∧ Frs (w.heap.size + 2) bR w4 wr s (g.nodes.take k) ∧ NumAt wr (w.heap.size + 2) g.nodes.length (fun x => x)) (fun _ i _ => g.nodes.length - (intOf i).toNat)
      case atStart => exact ⟨0, rfl, Nat.zero_le _, HF4.out, HN4.out⟩
      case round =>
        obtain ⟨k, rfl, hk, hfr, hnum⟩ := hrel
        obtain ⟨sA, sc, hs0, hs1, hs2⟩ := hfr.row.form
        have hes : (g.nodes.take k).length = k := by rw [List.length_take]; omega
        rw [hes] at hs0 hs1
        subst hs0
        obtain ⟨c0, c1, hbW⟩ := HCl4.out _ _ _ hfr
        have HEs := Lib.hid hes
        have HFr := Lib.hid hfr
        have HNr := Lib.hid hnum
        have HBW := Lib.hid hbW
        have hzn := hnum.lt
        clear hes hfr hnum hbW
        by_cases hlt : k < g.nodes.length
        · obtain ⟨b, o, hAe, hnp⟩ := NdsO.get _ _ (NdsO.keep (S' := S) (fun q hq => ⟨hq, HBW.out.block q (HZ1.out q hq)⟩) _ _ HA.out) k hlt
          rw [← g.nd_eq k hlt] at hnp
          have hfit := hF (g.nodes[k]) (List.getElem_mem hlt)
          rw [← g.nd_eq k hlt] at hfit
          have hcall := renumbered_r wr S (fun q => q = w.heap.size + 2) (g.nd k) b (o + k * 5) ((List.range g.nodes.length).map fun i => (((fun x => x) i : Nat) : Int)) (some ⟨w.heap.size + 2, 0, none⟩) g.nodes.length ((g.nd k).ren fun x => x).args (fun q hq => Nat.lt_of_lt_of_le (HZ1.out q hq) HBW.out.size) (fun q (hq : q = w.heap.size + 2) => by omega) hnp HNr.out.ints (by simp) (by unfold maxLen; omega) hfit.1 hfit.2 (by simp [RNd.ren]) (ren_hin HOk.out k hlt _)
          rw [show ((List.range g.nodes.length).map fun i => (((fun x => x) i : Nat) : Int)).length = g.nodes.length from by simp] at hcall
          have HCall := Lib.hid hcall
          have hts : g.nodes.take (k + 1) = g.nodes.take k ++ [(g.nd k).ren fun x => x] := by
            rw [List.take_add_one, List.getElem?_eq_getElem hlt, ren_id HOk.out k hlt, g.nd_eq k hlt]
            rfl
          have HTs := Lib.hid hts
          subst hAe
          clear hnp hfit hcall hts
          go_wp2_with (first | (go_at_call 51; refine HCall.out.mono ?_; rintro e w6 ⟨v6, rfl, hv6, hb6⟩; have hv7 := hv6; obtain ⟨aA, cA6, aL, cL, hvv, _⟩ := hv7; subst hvv; have HV6 := Lib.hid hv6; have HB6 := Lib.hid hb6; have hz6 := hb6.size; clear hv6 hb6) | (at_builtin; (refine wpList_growB (T := srtN) (ms := [(g.nd k).ren fun x => x]) rfl (.tmp 40) (.tmp 47) 22 37 rfl j0 _ 80 Try.underlying22 hjI hy0 hy1 hy2 rfl rfl (HFr.out.row7 (W6 := w6) HB6.out _) ⟨w6.heap.size, 0, none⟩ 1 _ rfl (fun j u hj => gcell_new _ _ _ _ rfl j u hj) (Items.one srtN (HFr.out.item7 _ HV6.out)) ?_ ?_ ?_ (by simp) ?_; (· rw [HEs.out]; simp [maxLen]; omega); (· rw [HEs.out]; simp; omega); (· have := HFr.out.sz; simp; omega)); intro v8 w8 hrow8 hk8 hb8; have HSt := Lib.hid (HFr.out.step HB6.out hrow8 hk8 hb8); have HNst := Lib.hid (HFr.out.num HB6.out hk8 HNr.out); clear hrow8 hk8 hb8))
          go_roundw
          case rel => exact ⟨k + 1, by go_num, by omega, by rw [HTs.out]; exact HSt.out, HNst.out⟩
          case measure => simp [intOf]; omega
        · have hk' : k = g.nodes.length := by omega
          have hfr3 := HFr.out
          have hes3 : g.nodes.take k = g.nodes := by rw [hk', List.take_length]
          rw [hes3] at hfr3
          have HFr3 := Lib.hid hfr3
          have HN3 : Hid (NumAt wr (w.heap.size + 2) g.nodes.length (toK g.nodes.length C 0)) := Lib.hid (by rw [toK_zero]; exact HNr.out)
          have HI3 := Lib.hid (IntsO.keep (fun q hq => ⟨hq, HBW.out.block q (HZ2.out q hq)⟩) _ _ HI.out : IntsO wr S2 (C.map Int.ofNat) cA)
          clear hk' hfr3 hes3 HFr HNr HEs
          go_wp2
          go_loopw [52] (fun i wr => ∃ j : Nat, i = .int .i64 j ∧ j ≤ C.length ∧ Frs (w.heap.size + 2) bR w4 wr (.slice sA k sc) g.nodes ∧ NumAt wr (w.heap.size + 2) g.nodes.length (toK g.nodes.length C j)) (fun i _ => C.length - (intOf i).toNat)
          case atStart => exact ⟨0, rfl, Nat.zero_le _, HFr3.out, HN3.out⟩
          case round =>
            obtain ⟨j, rfl, hj, hfr, hnum⟩ := hrel
            obtain ⟨d0, d1, hbW⟩ := HCl4.out _ _ _ hfr
            have HFr := Lib.hid hfr
            have HNr := Lib.hid hnum
            have HBW2 := Lib.hid hbW
            have hzn2 := hnum.lt
            by_cases hlt3 : j < C.length
            · obtain ⟨b5, o5, rfl, _, e1⟩ := IntsO.get _ _ (IntsO.keep (S' := S2) (fun q hq => ⟨hq, hbW.block q (HZ2.out q hq)⟩) _ _ HI.out) j (by simpa using hlt3)
              rw [List.getElem_map] at e1
              obtain ⟨x, hx⟩ : ∃ x, x = C[j] := ⟨_, rfl⟩
              rw [← hx] at e1
              have e1' : wr.cell? ⟨b5, o5 + j, none⟩ = some (.int .i64 x) := e1
              have hxN : x < g.nodes.length := HCl.out x (by rw [hx]; exact List.getElem_mem hlt3)
              obtain ⟨m1, m2⟩ := hnum.cell x hxN
              have hset := hnum.set x (g.nodes.length + j) (toK g.nodes.length C (j + 1)) (fun i _ => by rw [toK_step HC.out j hlt3, hx])
              rw [Int.natCast_add] at hset
              have HSet := Lib.hid hset
              clear e1 hx hset hfr hnum hbW
              go_wp2
              go_roundw
              case rel => exact ⟨j + 1, by go_num, by omega, HFr.out.poke _ _, HSet.out⟩
              case measure => simp [intOf]; omega
            · have hj' : j = C.length := by omega
              have hfr4 : Frs (w.heap.size + 2) bR w4 wr (.slice sA k sc) (g.nodes ++ (C.take 0).map fun a => (g.nd a).ren (toK g.nodes.length C C.length)) := by simpa using hfr
              have hn4 : NumAt wr (w.heap.size + 2) g.nodes.length (toK g.nodes.length C C.length) := by rw [← hj']; exact hnum
              have HFr4 := Lib.hid hfr4
              have HN4' := Lib.hid hn4
              clear hj' hfr4 hn4 hfr hnum hbW HFr HNr
              go_wp2
              go_loopw [7, 68] (fun s i wr => ∃ j : Nat, i = .int .i64 j ∧ j ≤ C.length ∧ Frs (w.heap.size + 2) bR w4 wr s (g.nodes ++ (C.take j).map fun a => (g.nd a).ren (toK g.nodes.length C C.length)) ∧ NumAt wr (w.heap.size + 2) g.nodes.length (toK g.nodes.length C C.length)) (fun _ i _ => C.length - (intOf i).toNat)
              case atStart => exact ⟨0, rfl, Nat.zero_le _, HFr4.out, HN4'.out⟩
              case round =>
                obtain ⟨j, rfl, hj, hfr, hnum⟩ := hrel
                obtain ⟨sA, sc, hs0, hs1, hs2⟩ := hfr.row.form
                have hes : (g.nodes ++ (C.take j).map fun a => (g.nd a).ren (toK g.nodes.length C C.length)).length = g.nodes.length + j := by rw [List.length_append, List.length_map, List.length_take]; omega
                rw [hes] at hs0 hs1
                subst hs0
                obtain ⟨c0, c1, hbW⟩ := HCl4.out _ _ _ hfr
                have HEs := Lib.hid hes
                have HFr := Lib.hid hfr
                have HNr := Lib.hid hnum
                have HBW := Lib.hid hbW
                have hzn := hnum.lt
                clear hes hfr hnum hbW
                by_cases hlt4' : j < C.length
                · obtain ⟨b5, o5, rfl, _, e1⟩ := IntsO.get _ _ (IntsO.keep (S' := S2) (fun q hq => ⟨hq, HBW.out.block q (HZ2.out q hq)⟩) _ _ HI.out) j (by simpa using hlt4')
                  rw [List.getElem_map] at e1
                  have hts : (C.take (j + 1)).map (fun a => (g.nd a).ren (toK g.nodes.length C C.length)) = (C.take j).map (fun a => (g.nd a).ren (toK g.nodes.length C C.length)) ++ [(g.nd C[j]).ren (toK g.nodes.length C C.length)] := by
                    rw [List.take_add_one, List.getElem?_eq_getElem hlt4', List.map_append]; rfl
                  obtain ⟨y, hye⟩ : ∃ y, y = C[j] := ⟨_, rfl⟩
                  have hyN : y < g.nodes.length := HCl.out y (by rw [hye]; exact List.getElem_mem hlt4')
                  rw [← hye] at e1 hts
                  have e1' : wr.cell? ⟨b5, o5 + j, none⟩ = some (.int .i64 y) := e1
                  obtain ⟨b, o, hAe, hnp⟩ := NdsO.get _ _ (NdsO.keep (S' := S) (fun q hq => ⟨hq, HBW.out.block q (HZ1.out q hq)⟩) _ _ HA.out) y hyN
                  rw [← g.nd_eq y hyN] at hnp
                  have hfit := hF (g.nodes[y]) (List.getElem_mem hyN)
                  rw [← g.nd_eq y hyN] at hfit
                  have hcall := renumbered_r wr S (fun q => q = w.heap.size + 2) (g.nd y) b (o + y * 5) ((List.range g.nodes.length).map fun i => ((toK g.nodes.length C C.length i : Nat) : Int)) (some ⟨w.heap.size + 2, 0, none⟩) g.nodes.length ((g.nd y).ren (toK g.nodes.length C C.length)).args (fun q hq => Nat.lt_of_lt_of_le (HZ1.out q hq) HBW.out.size) (fun q (hq : q = w.heap.size + 2) => by omega) hnp HNr.out.ints (by simp) (by unfold maxLen; omega) hfit.1 hfit.2 (by simp [RNd.ren]) (ren_hin HOk.out y hyN _)
                  rw [show ((List.range g.nodes.length).map fun i => ((toK g.nodes.length C C.length i : Nat) : Int)).length = g.nodes.length from by simp] at hcall
                  have HCall := Lib.hid hcall
                  have HTs := Lib.hid hts
                  subst hAe
                  clear hnp hfit hcall hts e1 hye
                  go_wp2_with (first | (go_at_call 51; refine HCall.out.mono ?_; rintro e w6 ⟨v6, rfl, hv6, hb6⟩; have hv7 := hv6; obtain ⟨aA, cA6, aL, cL, hvv, _⟩ := hv7; subst hvv; have HV6 := Lib.hid hv6; have HB6 := Lib.hid hb6; have hz6 := hb6.size; clear hv6 hb6) | (at_builtin; (refine wpList_growB (T := srtN) (ms := [(g.nd y).ren (toK g.nodes.length C C.length)]) rfl (.tmp 72) (.tmp 79) 22 37 rfl j0 _ 80 Try.underlying22 hjI hy0 hy1 hy2 rfl rfl (HFr.out.row7 (W6 := w6) HB6.out _) ⟨w6.heap.size, 0, none⟩ 1 _ rfl (fun j u hj => gcell_new _ _ _ _ rfl j u hj) (Items.one srtN (HFr.out.item7 _ HV6.out)) ?_ ?_ ?_ (by simp) ?_; (· rw [HEs.out]; simp [maxLen]; omega); (· rw [HEs.out]; simp; omega); (· have := HFr.out.sz; simp; omega)); intro v8 w8 hrow8 hk8 hb8; have HSt := Lib.hid (HFr.out.step HB6.out hrow8 hk8 hb8); have HNst := Lib.hid (HFr.out.num HB6.out hk8 HNr.out); clear hrow8 hk8 hb8))
                  go_roundw
                  case rel => exact ⟨j + 1, by go_num, by omega, by rw [HTs.out, ← List.append_assoc]; exact HSt.out, HNst.out⟩
                  case measure => simp [intOf]; omega
                · have hj' : j = C.length := by omega
                  have hfr5 := HFr.out
                  rw [hj', List.take_length] at hfr5
                  have hroot : 0 ≤ g.root ∧ g.root < g.nodes.length := by
                    have h := HOk.out
                    simp only [RGr.ok, Bool.and_eq_true, decide_eq_true_eq] at h
                    exact h.2.1
                  obtain ⟨rt, hrt⟩ : ∃ rt : Nat, g.root = (rt : Int) := ⟨g.root.toNat, by omega⟩
                  have hrtN : rt < g.nodes.length := by omega
                  obtain ⟨m1, m2⟩ := HNr.out.cell rt hrtN
                  rw [hrt] at c1
                  obtain ⟨A9, c9, h90, h91, h92, h93⟩ := hfr5.row.ndsT (S' := New w.heap.size wr) (fun q hq => hq.1.mono (by omega)) (fun q h1 h2 ht => ⟨by omega, h2, ht⟩)
                  have hb1 : wr.heap[w.heap.size + 1]? = w4.heap[w.heap.size + 1]? := hfr5.kp.block (w.heap.size + 1) (by omega) (by omega)
                  have hbR1 : Blk wr (w.heap.size + 1) (.cells #[.slice none 0 0, .int .i64 0] 24 (0, 0)) := hb1.trans HR14.out
                  obtain ⟨n, hn⟩ : ∃ n, n = (g.freshOf C).nodes.length := ⟨_, rfl⟩
                  have hnn : g.nodes.length + j = n := by rw [hn, ← HEs.out, hj', List.take_length]; rfl
                  obtain ⟨R9, hR9⟩ : ∃ R9, R9 = toK g.nodes.length C C.length rt := ⟨_, rfl⟩
                  have hroot9 : (g.freshOf C).root = (R9 : Nat) := by rw [hR9]; show ((toK g.nodes.length C C.length g.root.toNat : Nat) : Int) = _; rw [hrt, Int.toNat_natCast]
                  rw [← hR9] at m1
                  rw [hnn] at hs1 ⊢
                  have h9e : A9 = sA ∧ c9 = sc := by
                    simp only [Value.slice.injEq] at h90
                    exact ⟨h90.1.symm, h90.2.2.symm⟩
                  rw [h9e.1] at h93
                  have HH9 := Lib.hid (h93 : NdsO wr (New w.heap.size wr) (g.freshOf C).nodes sA)
                  obtain ⟨g1, g2⟩ := hbR1.cells
                  have g10 := g1 0
                  have g11 := g1 1
                  have g20 := g2 0
                  have g21 := g2 1
                  have hbS := (hbR1.set 0 (.slice sA n sc)).set 1 (.int .i64 (R9 : Nat))
                  have hkS : Keeps (fun k => k = w.heap.size + 1) wr ((wr.setCell ⟨w.heap.size + 1, 0, none⟩ (.slice sA n sc)).setCell ⟨w.heap.size + 1, 1, none⟩ (.int .i64 (R9 : Nat))) :=
                    ((Keeps.refl (fun k => k = w.heap.size + 1) wr).setCell (p := ⟨w.heap.size + 1, 0, none⟩) (fun _ => rfl) _).setCell (p := ⟨w.heap.size + 1, 1, none⟩) (fun _ => rfl) _
                  have hbW : Below w.heap.size w ((wr.setCell ⟨w.heap.size + 1, 0, none⟩ (.slice sA n sc)).setCell ⟨w.heap.size + 1, 1, none⟩ (.int .i64 (R9 : Nat))) :=
                    (HBW.out.setCell (by simp) _).setCell (by simp) _
                  have hth : ∀ q, New w.heap.size wr q → Thaw ((wr.setCell ⟨w.heap.size + 1, 0, none⟩ (.slice sA n sc)).setCell ⟨w.heap.size + 1, 1, none⟩ (.int .i64 (R9 : Nat))) q := fun q hq => (hq.2.2.setCell _ _).setCell _ _
                  have hne9 : ∀ q, New bR wr q → q ≠ w.heap.size + 1 := fun q hq => by have := hq.1; omega
                  obtain ⟨A8, c8, h80, _, _, h83⟩ := hfr5.row.ndsT (S' := New bR wr) (fun q hq => hq.1) (fun q h1 h2 ht => ⟨h1, h2, ht⟩)
                  have h8e : A8 = sA := by
                    simp only [Value.slice.injEq] at h80
                    exact h80.1.symm
                  rw [h8e] at h83
                  have HH8 := Lib.hid (h83 : NdsO wr (New bR wr) (g.freshOf C).nodes sA)
                  have HbS := Lib.hid hbS
                  have HkS := Lib.hid hkS
                  have HbW := Lib.hid hbW
                  have HTh := Lib.hid hth
                  have HRt9 := Lib.hid hroot9
                  have HNn := Lib.hid hn
                  have hs2' := hs2
                  unfold maxLen at hs2'
                  clear hj' hfr5 hrt h90 h91 h92 h93 hb1 hbR1 hn hnn hR9 hroot9 h9e g1 g2 hbS hkS hbW hth hne9 h80 h83 h8e hroot HFr HEs HH9
                  go_wp2
                  generalize ((wr.setCell ⟨w.heap.size + 1, 0, none⟩ (.slice sA n sc)).setCell ⟨w.heap.size + 1, 1, none⟩ (.int .i64 (R9 : Nat))) = W9 at HbS HkS HbW HTh ⊢
                  obtain ⟨p1, p2⟩ := HbS.out.cells
                  have p10 : W9.cell? ⟨w.heap.size + 1, 0, none⟩ = some (.slice sA n sc) := p1 0
                  have p11 : W9.cell? ⟨w.heap.size + 1, 1, none⟩ = some (.int .i64 (R9 : Nat)) := p1 1
                  refine bodyPost_ret (v := .agg #[.slice sA n sc, .int .i64 (R9 : Nat)]) (by simp [results, Try.results34, go_sem, p10, p11]) rfl ?_
                  refine ⟨_, rfl, ⟨sA, sc, ?_, ?_, hs2, ?_⟩, HbW.out⟩
                  · rw [HNn.out, HRt9.out]
                  · rw [← HNn.out]; exact hs1
                  · exact NdsO.keep (fun q hq => ⟨⟨by have := hq.1; omega, Nat.lt_of_lt_of_le hq.2.1 HkS.out.size, HTh.out q (hq.mono (by omega))⟩, HkS.out.block q hq.2.1 (by have := hq.1; omega)⟩) _ _ HH8.out
end Go.Proofs.Ytnhdgndjpkdhdaa
namespace Go.Proofs.Ytnhdgndjpkdhdaa
open Go.RowKit Go.Shelf Go.Sort

/-- A node is general. -/
def RGr.genrl (g : RGr) (M : List Nat) (x : Nat) : Bool := (G.visit g.fa (g.nodes.length + 1) x []).any fun y => decide (y ∈ g.genL M)
theorem genrl_way {g : RGr} (h : g.ok = true) {M : List Nat} {x : Nat} (hx : x < g.nodes.length) : g.genrl M x = true ↔ ∃ m, m ∈ g.genL M ∧ G.Way g.fa x m := by
  unfold RGr.genrl
  rw [List.any_eq_true]
  constructor
  · rintro ⟨y, hy, hd⟩
    exact ⟨y, by simpa using hd, (G.mem_visit (fa_lt h) hx y).1 hy⟩
  · rintro ⟨y, hy, hw⟩
    exact ⟨y, (G.mem_visit (fa_lt h) hx y).2 hw, by simpa using hy⟩
def RGr.copL (g : RGr) (M : List Nat) : List Nat := g.reach.filter (g.genrl M)
theorem copL_nodup {g : RGr} (h : g.ok = true) (M : List Nat) : (g.copL M).Nodup := (reach_facts h).1.filter _
theorem copL_lt {g : RGr} (h : g.ok = true) (M : List Nat) : ∀ x, x ∈ g.copL M → x < g.nodes.length := fun x hx => (reach_facts h).2.1 x (List.mem_filter.1 hx).1
theorem copL_len {g : RGr} (h : g.ok = true) (M : List Nat) : (g.copL M).length ≤ g.nodes.length := G.nodup_len _ (copL_nodup h M) (copL_lt h M)
/-- What Fresh answers: the graph, and the error. -/
def RGr.fcode (g : RGr) (M : List Int) : Int := if g.mcode M = 0 then (if g.nodes.length + (g.copL (M.map Int.toNat)).length ≤ 1048576 then 0 else 3) else g.mcode M
def RGr.freshU (g : RGr) (M : List Int) : RGr := if g.fcode M = 0 then g.freshOf (g.copL (M.map Int.toNat)) else ⟨[], 0⟩

set_option maxRecDepth 100000 in
theorem fresh1_r (W : World) (B Bx N x : Nat) (out : List Nat) (_hN : N ≤ 2000000) (hx : x < N) (hm : MetAt W B N out) (hb : W.cell? ⟨Bx, 0, none⟩ = some (.slice (some ⟨B, 0, none⟩) N N)) :
    Calls Try.prog 33 #[.int .i64 (x : Nat), .pointer (some ⟨Bx, 0, none⟩)] W fun e w' => e = .returned (.bool (!decide (x ∈ out))) ∧ ∃ q, w' = W.drewN q := by
  obtain ⟨m1, m2⟩ := hm.cell x hx
  obtain ⟨d, hd⟩ : ∃ d, d = decide (x ∈ out) := ⟨_, rfl⟩
  rw [← hd] at m1 ⊢
  clear hm hd
  go_enter Try.func33, Try.ntmps33
  go_wp2
  go_ret
  exact ⟨rfl, 0, rfl⟩
theorem cop_of {g : RGr} (h : g.ok = true) {M : List Nat} {out : List Nat} (ho : ∀ x, x < g.nodes.length → (x ∈ out ↔ ∃ m, m ∈ g.genL M ∧ G.Way g.fa x m)) : (g.reach.filter fun x => !(!decide (x ∈ out))) = g.copL M := by
  unfold RGr.copL
  apply List.filter_congr
  intro x hx
  have hxN := (reach_facts h).2.1 x hx
  rw [Bool.not_not, Bool.eq_iff_iff, decide_eq_true_eq, ho x hxN, genrl_way h hxN]

set_option maxRecDepth 100000 in
set_option maxHeartbeats 4000000 in
theorem dFresh_r (w : World) (S S2 : Nat → Prop) (g : RGr) (gv : Value) (M : List Int) (mA : Option Addr) (mc : Nat) (hF : g.fits) (hE : g.ok = true → g.es.length ≤ 4000000) (hS : ∀ k, S k → k < w.heap.size) (he : GrV w S g gv)
    (hS2 : ∀ k, S2 k → k < w.heap.size) (hI : IntsO w S2 M mA) (hmc : M.length ≤ mc) (hmm : mc ≤ maxLen) :
    Calls Try.prog 13 #[gv, .slice mA M.length mc] w fun e w' => ∃ v', e = .returned (.tuple #[v', .int .i64 (g.fcode M)]) ∧ GrV w' (New w.heap.size w') (g.freshU M) v' ∧ Below w.heap.size w w' := by
  obtain ⟨A, cN, hgv, hcN, hcN9, oN⟩ := he
  subst hgv
  obtain ⟨w1, hw1⟩ : ∃ w1, w1 = (w.alloc (.cells #[.slice A g.nodes.length cN, .int .i64 g.root] 24)).alloc (.cells #[.slice none 0 0, .int .i64 0] 24) := ⟨_, rfl⟩
  have hsz1 : w1.heap.size = w.heap.size + 2 := by rw [hw1]; simp
  have hb1 : Below w.heap.size w w1 := by rw [hw1]; exact ((Below.refl _ _).alloc (Nat.le_refl _) _).alloc (by simp) _
  have hq1 : Blk w1 w.heap.size (.cells #[.slice A g.nodes.length cN, .int .i64 g.root] 24 (0, 0)) := by rw [hw1]; exact (Blk.new' _ _ _ rfl).alloc _
  have hq2 : Blk w1 (w.heap.size + 1) (.cells #[.slice none 0 0, .int .i64 0] 24 (0, 0)) := by rw [hw1]; exact Blk.new' _ _ _ (by simp)
  have hz1 : ∀ k, S k → k < w1.heap.size := fun k hk => by have := hS k hk; omega
  have hz2 : ∀ k, S2 k → k < w1.heap.size := fun k hk => by have := hS2 k hk; omega
  have hA1 : NdsO w1 S g.nodes A := NdsO.keep (fun k hk => ⟨hk, hb1.block k (hS k hk)⟩) _ _ oN
  have hI1 : IntsO w1 S2 M mA := IntsO.keep (fun k hk => ⟨hk, hb1.block k (hS2 k hk)⟩) _ _ hI
  have hck := mcheck_r w1 S S2 g _ M mA mc hz1 ⟨A, cN, rfl, hcN, hcN9, hA1⟩ hz2 hI1 hmc hmm
  have hblk : ∀ W, Below w1.heap.size w1 W → Blk W w.heap.size (.cells #[.slice A g.nodes.length cN, .int .i64 g.root] 24 (0, 0)) ∧ Blk W (w.heap.size + 1) (.cells #[.slice none 0 0, .int .i64 0] 24 (0, 0)) := fun W hW =>
    ⟨(hW.block _ (by omega)).trans hq1, (hW.block _ (by omega)).trans hq2⟩
  have HCk := Lib.hid hck
  have HBlk := Lib.hid hblk
  have HB1 := Lib.hid hb1
  have HA1 := Lib.hid hA1
  have HI1 := Lib.hid hI1
  have HZ1 := Lib.hid hz1
  have HZ2 := Lib.hid hz2
  obtain ⟨c00, c01⟩ := (⟨hq1.cells.1 0, hq1.cells.1 1⟩ : w1.cell? ⟨w.heap.size, 0, none⟩ = some (.slice A g.nodes.length cN) ∧ w1.cell? ⟨w.heap.size, 1, none⟩ = some (.int .i64 g.root))
  clear hS hS2 hI oN hA1 hI1 hck hblk hb1 hq1 hq2 hz1 hz2
  by_cases hcd : g.mcode M = 0
  · obtain ⟨hok, hmo⟩ := mcode_ok hcd
    obtain ⟨hMe, hMl⟩ := mono_nat hmo
    have hN := RGr.ok_len hok
    obtain ⟨Mn, hMn⟩ : ∃ Mn, Mn = M.map Int.toNat := ⟨_, rfl⟩
    have hU2 : g.fcode M = if g.nodes.length + (g.copL Mn).length ≤ 1048576 then 0 else 3 := by unfold RGr.fcode; rw [if_pos hcd, hMn]
    have hU : g.freshU M = if g.fcode M = 0 then g.freshOf (g.copL Mn) else ⟨[], 0⟩ := by unfold RGr.freshU; rw [hMn]
    rw [hcd] at HCk
    rw [← hMn] at hMl hMe
    have hlen : M.length = Mn.length := by rw [hMn, List.length_map]
    have hge : ∀ W, Below w1.heap.size w1 W → Calls Try.prog 29 #[.agg #[.slice A g.nodes.length cN, .int .i64 g.root], .slice mA M.length mc] W fun e w' => ∃ A c, e = .returned (.slice A (g.genL Mn).length c) ∧ (g.genL Mn).length ≤ c ∧ c ≤ maxLen ∧ IntsO w' (fun k => W.heap.size ≤ k ∧ k < w'.heap.size) ((g.genL Mn).map Int.ofNat) A ∧ Below W.heap.size W w' := fun W hW => by
      rw [hlen]
      exact generic_r W S S2 g _ Mn mA mc hok (fun k hk => Nat.lt_of_lt_of_le (HZ1.out k hk) hW.size) ⟨A, cN, rfl, hcN, hcN9, NdsO.keep (fun k hk => ⟨hk, hW.block k (HZ1.out k hk)⟩) _ _ HA1.out⟩ hMl (fun k hk => Nat.lt_of_lt_of_le (HZ2.out k hk) hW.size) (by rw [← hMe]; exact IntsO.keep (fun k hk => ⟨hk, hW.block k (HZ2.out k hk)⟩) _ _ HI1.out) (by omega) hmm
    have hle : ∀ W A' c' (S' : Nat → Prop), Below w1.heap.size w1 W → (∀ k, S' k → k < W.heap.size) → IntsO W S' ((g.genL Mn).map Int.ofNat) A' → (g.genL Mn).length ≤ c' → c' ≤ maxLen → Calls Try.prog 30 #[.slice A g.nodes.length cN, .slice A' (g.genL Mn).length c'] W fun e w' => ∃ B out, e = .returned (.slice (some ⟨B, 0, none⟩) g.nodes.length g.nodes.length) ∧ W.heap.size ≤ B ∧ MetAt w' B g.nodes.length out ∧ (∀ x, x < g.nodes.length → (x ∈ out ↔ ∃ m, m ∈ g.genL Mn ∧ G.Way g.fa x m)) ∧ Below W.heap.size W w' := fun W A' c' S' hW hS' hI' h1 h2 =>
      leading_r W S S' g A cN (g.genL Mn) A' c' hok (hE hok) (fun k hk => Nat.lt_of_lt_of_le (HZ1.out k hk) hW.size) (NdsO.keep (fun k hk => ⟨hk, hW.block k (HZ1.out k hk)⟩) _ _ HA1.out) hcN hcN9 genL_lt hS' hI' h1 h2
    have HGe := Lib.hid hge
    have HLe := Lib.hid hle
    have HOk := Lib.hid hok
    have HU := Lib.hid hU
    have HU2 := Lib.hid hU2
    unfold maxLen at hcN9 hmm
    clear hge hle hok hmo hMl hMe hMn hU hU2 hcd hlen hE
    go_enter Try.func13, Try.ntmps13
    go_wp2_with fail
    rw [← hw1]
    clear hw1
    with_reducible refine HCk.out.mono ?_
    rintro e w2 ⟨rfl, hb2⟩
    obtain ⟨r0, r1⟩ := HBlk.out w2 hb2
    have c20 := r0.cells.1 0
    have c21 := r0.cells.1 1
    have HB2 := Lib.hid hb2
    clear hb2 r0 r1 c00 c01 HCk
    go_wp2_with fail
    have hz12 := HB2.out.size
    have hge2 : ∀ W, BelC w2 W → Calls Try.prog 29 #[.agg #[.slice A g.nodes.length cN, .int .i64 g.root], .slice mA M.length mc] W fun e w' => ∃ A c, e = .returned (.slice A (g.genL Mn).length c) ∧ (g.genL Mn).length ≤ c ∧ c ≤ maxLen ∧ IntsO w' (fun k => W.heap.size ≤ k ∧ k < w'.heap.size) ((g.genL Mn).map Int.ofNat) A ∧ Below W.heap.size W w' := fun W hW => HGe.out W (HB2.out.trans (Below.mono hW hz12))
    have hle2 : ∀ (w6 : World) (A6 : Option Addr) (c6 n : Nat), IntsO w6 (fun k => n ≤ k ∧ k < w6.heap.size) ((g.genL Mn).map Int.ofNat) A6 → BelC w2 w6 → (g.genL Mn).length ≤ c6 → c6 ≤ maxLen → ∀ W, BelC w6 W → Calls Try.prog 30 #[.slice A g.nodes.length cN, .slice A6 (g.genL Mn).length c6] W fun e w' => ∃ B out, e = .returned (.slice (some ⟨B, 0, none⟩) g.nodes.length g.nodes.length) ∧ W.heap.size ≤ B ∧ MetAt w' B g.nodes.length out ∧ (∀ x, x < g.nodes.length → (x ∈ out ↔ ∃ m, m ∈ g.genL Mn ∧ G.Way g.fa x m)) ∧ Below W.heap.size W w' := fun w6 A6 c6 n h1 h2 h3 h4 W hW =>
      HLe.out W A6 c6 (fun k => k < w6.heap.size) (HB2.out.trans (Below.mono (Below.trans h2 (Below.mono hW (Below.size h2))) hz12)) (fun k hk => Nat.lt_of_lt_of_le hk (Below.size hW)) (IntsO.keep (fun k hk => ⟨hk.2, Below.block hW k hk.2⟩) _ _ h1) h3 h4
    have HGe2 := Lib.hid hge2
    have HLe2 := Lib.hid hle2
    have hcell : ∀ W, BelC w2 W → W.cell? ⟨w.heap.size, 0, none⟩ = some (.slice A g.nodes.length cN) ∧ W.cell? ⟨w.heap.size, 1, none⟩ = some (.int .i64 g.root) := fun W hW => ⟨BelC.old hW c20, BelC.old hW c21⟩
    have HC := Lib.hid hcell
    have hx0 := hcell w2 (BelC.refl _)
    clear hge2 hle2 hcell c20 c21 HGe HLe
    rename_i Q' K hKi
    have hK : ∀ (bx B : Nat) (out : List Nat) (A6 : Option Addr) (c6 : Nat) (W : World), BelC w2 W → w2.heap.size ≤ bx → Blk W bx (.cells #[.slice (some ⟨B, 0, none⟩) g.nodes.length g.nodes.length] 45 (0, 0)) → w2.heap.size ≤ B → MetAt W B g.nodes.length out → (∀ x, x < g.nodes.length → (x ∈ out ↔ ∃ m, m ∈ g.genL Mn ∧ G.Way g.fa x m)) → Exit.then K Q' Exit.normal { defers := [], tmps := #[.agg #[.slice A g.nodes.length cN, .int .i64 g.root], .slice mA M.length mc, .pointer (some ⟨w.heap.size, 0, none⟩), undef, .pointer (some ⟨w.heap.size + 1, 0, none⟩), .int .i64 0, .int .i64 0, .pointer (some ⟨bx, 0, none⟩), undef, .agg #[.slice A g.nodes.length cN, .int .i64 g.root], .slice mA M.length mc, .int .i64 0, .int .i64 0, .bool false, undef, undef,
        .pointer (some ⟨w.heap.size, 0, none⟩), .slice A g.nodes.length cN, .agg #[.slice A g.nodes.length cN, .int .i64 g.root], .slice mA M.length mc, .slice A6 (g.genL Mn).length c6, .slice (some ⟨B, 0, none⟩) g.nodes.length g.nodes.length, undef, undef, undef, undef, undef, undef, undef, undef, undef, undef, undef, undef, undef, undef, undef] } W := by
      intro bx B out A6 c6 W hW hbx hX hB hm hway
      have hcop := cop_of HOk.out hway
      have hb1W := HB2.out.trans (Below.mono hW hz12)
      have hzW := Below.size hW
      obtain ⟨c0, c1⟩ := HC.out W hW
      have hzS : ∀ k, S k → k < W.heap.size := fun k hk => Nat.lt_of_lt_of_le (HZ1.out k hk) hb1W.size
      have hAW : NdsO W S g.nodes A := NdsO.keep (fun k hk => ⟨hk, hb1W.block k (HZ1.out k hk)⟩) _ _ HA1.out
      have hreach := dreach_o W S g (.agg #[.slice A g.nodes.length cN, .int .i64 g.root]) hzS ⟨A, cN, rfl, hcN, by unfold maxLen; exact hcN9, hAW⟩
      have HReach := Lib.hid hreach
      have HCop := Lib.hid hcop
      have HX := Lib.hid hX
      have HM := Lib.hid hm
      have HZS := Lib.hid hzS
      have HAW := Lib.hid hAW
      have HB1W := Lib.hid hb1W
      have hXlt := hX.lt
      have hBlt : B < W.heap.size := (Array.getElem?_eq_some_iff.1 hm).1
      clear hcop hb1W hzS hAW hreach hX hm hway hx0
      go_wp2_with fail
      with_reducible refine HReach.out.mono ?_
      rintro e w5 ⟨s, rfl, q1, q2⟩
      have hz5 := q2.size
      rcases q1.intsH with ⟨_, hL⟩ | ⟨gb, gc, rfl, r1, r2, r3, r4, r5⟩
      · rw [reachU_eq HOk.out] at hL
        have hr := (RGr.ok_fit HOk.out).reach_went.2
        have hL' : g.gr.reach = [] := hL
        rw [hL'] at hr
        cases hr
      · have hpw : ∀ W', Keeps (fun k => k = gb) w5 W' → ∀ x, x < g.nodes.length → Calls Try.prog 33 (#[.int .i64 (x : Nat)] ++ #[.pointer (some ⟨bx, 0, none⟩)]) W' fun e w' => e = .returned (.bool (!decide (x ∈ out))) ∧ ∃ q, w' = W'.drewN q := fun W' hW' x hx => by
          show Calls Try.prog 33 #[.int .i64 (x : Nat), .pointer (some ⟨bx, 0, none⟩)] W' _
          refine fresh1_r W' B bx g.nodes.length x out (by omega) hx ?_ ?_
          · exact (hW'.block B (by omega) (by omega)).trans ((q2.block B (by omega)).trans HM.out)
          · have hb : W'.heap[bx]? = W.heap[bx]? := (hW'.block bx (by omega) (by omega)).trans (q2.block bx (by omega))
            exact (World.cell?_of_block (a := ⟨bx, 0, none⟩) hb).trans (HX.out.cells.1 0)
        have eg : ∀ args w, (callFunc 33 args).run Try.prog w = .ok (.enter 33 args) w := enters_of Try.func33 (by kernel_rfl) rfl
        rw [reachU_eq HOk.out] at r3 r5 ⊢
        have hdel := del_row w5 33 #[.pointer (some ⟨bx, 0, none⟩)] eg (fun x => !decide (x ∈ out)) g.nodes.length (ok_pos HOk.out) g.reach (reach_facts HOk.out).2.1 gb gc r5 r3 (by have := (reach_facts HOk.out).2.2.1; omega) hpw
        rw [HCop.out] at hdel
        have hcl := copL_len HOk.out Mn
        have hcell5 : ∀ W', Keeps (fun k => k = gb) w5 W' → W'.cell? ⟨w.heap.size, 0, none⟩ = some (.slice A g.nodes.length cN) ∧ W'.cell? ⟨w.heap.size, 1, none⟩ = some (.int .i64 g.root) ∧ Blk W' (w.heap.size + 1) (.cells #[.slice none 0 0, .int .i64 0] 24 (0, 0)) ∧ Below w1.heap.size w1 W' := fun W' hW' => by
          have h1 : Below w1.heap.size w1 W' := (HB1W.out.trans (q2.mono (by omega))).trans (hW'.below (by omega) (fun i hi e => by omega))
          obtain ⟨b0, b1⟩ := HBlk.out W' h1
          exact ⟨b0.cells.1 0, b0.cells.1 1, b1, h1⟩
        have HDel := Lib.hid hdel
        have HC5 := Lib.hid hcell5
        have HQ2 := Lib.hid q2
        obtain ⟨C, hC⟩ : ∃ C, C = g.copL Mn := ⟨_, rfl⟩
        rw [← hC] at HDel hcl
        have HCe := Lib.hid hC
        have hr3 : g.reach.length ≤ 1048576 := by have := (reach_facts HOk.out).2.2.1; omega
        unfold maxLen at r4
        clear q1 q2 r5 hpw eg hdel hcell5 hC HCop HReach
        by_cases hlong : g.nodes.length + C.length ≤ 1048576
        · have hfrs : ∀ w6, Keeps (fun k => k = gb) w5 w6 → IntsH w6 gb C → Calls Try.prog 34 #[.agg #[.slice A g.nodes.length cN, .int .i64 g.root], .slice (some ⟨gb, 0, none⟩) C.length gc] w6 fun e w' => ∃ v', e = .returned v' ∧ GrV w' (New w6.heap.size w') (g.freshOf C) v' ∧ Below w6.heap.size w6 w' := fun w6 h1 h2 => by
            obtain ⟨_, _, _, h3⟩ := HC5.out w6 h1
            exact dfresh_r w6 S (fun k => k = gb) g _ C (some ⟨gb, 0, none⟩) gc HOk.out hF (fun k hk => Nat.lt_of_lt_of_le (HZ1.out k hk) h3.size) ⟨A, cN, rfl, hcN, by unfold maxLen; exact hcN9, NdsO.keep (fun k hk => ⟨hk, h3.block k (HZ1.out k hk)⟩) _ _ HA1.out⟩ (by rw [HCe.out]; exact copL_nodup HOk.out Mn) (by rw [HCe.out]; exact copL_lt HOk.out Mn) (fun k hk => by rw [hk]; exact Nat.lt_of_lt_of_le r2 h1.size) h2.ints (Nat.le_trans (by rw [HCe.out]; exact List.length_filter_le _ _) r3) (by unfold maxLen; exact r4)
          have HFrs := Lib.hid hfrs
          have hfc : g.fcode M = 0 := by rw [HU2.out, ← HCe.out, if_pos hlong]
          have hfu : g.freshU M = g.freshOf C := by rw [HU.out, if_pos hfc, ← HCe.out]
          have HFc := Lib.hid hfc
          have HFu := Lib.hid hfu
          clear hfrs hfc hfu
          go_wp2_with (first | (go_at_call 31; (with_reducible refine HDel.out.mono ?_); rintro e w6 ⟨rfl, t1, t2⟩; have T1 := Lib.hid t1; have T2 := Lib.hid t2; obtain ⟨c60, c61, c62, c63⟩ := HC5.out w6 t1; have C63 := Lib.hid c63; have hz16 := c63.size; clear t1 t2 c62 c63) | (go_at_call 34; (with_reducible refine (HFrs.out w6 T1.out T2.out).mono ?_); rintro e w7 ⟨v7, rfl, hv7, hb7⟩; obtain ⟨A7, c7, hvv, u1, u2, u3⟩ := hv7; subst hvv; have U3 := Lib.hid u3; have U1 := Lib.hid u1; have hb17 := C63.out.trans (hb7.mono hz16); have hbR := (HBlk.out w7 hb17).2; obtain ⟨g1, g2⟩ := hbR.cells; have g10 := g1 0; have g11 := g1 1; have g20 := g2 0; have g21 := g2 1; have HbR := Lib.hid hbR; have HB17 := Lib.hid hb17; have hz67 := hb7.size; clear u3 u1 hb7 hb17 hbR g1 g2))
          have hbS := (HbR.out.set 0 (.slice A7 (g.freshOf C).nodes.length c7)).set 1 (.int .i64 (g.freshOf C).root)
          have hkS : Keeps (fun k => k = w.heap.size + 1) w7 ((w7.setCell ⟨w.heap.size + 1, 0, none⟩ (.slice A7 (g.freshOf C).nodes.length c7)).setCell ⟨w.heap.size + 1, 1, none⟩ (.int .i64 (g.freshOf C).root)) :=
            ((Keeps.refl (fun k => k = w.heap.size + 1) w7).setCell (p := ⟨w.heap.size + 1, 0, none⟩) (fun _ => rfl) _).setCell (p := ⟨w.heap.size + 1, 1, none⟩) (fun _ => rfl) _
          have hbW : Below w.heap.size w ((w7.setCell ⟨w.heap.size + 1, 0, none⟩ (.slice A7 (g.freshOf C).nodes.length c7)).setCell ⟨w.heap.size + 1, 1, none⟩ (.int .i64 (g.freshOf C).root)) :=
            ((HB1.out.trans (HB17.out.mono (by omega))).setCell (by simp) _).setCell (by simp) _
          have hth : ∀ q, Thaw w7 q → Thaw ((w7.setCell ⟨w.heap.size + 1, 0, none⟩ (.slice A7 (g.freshOf C).nodes.length c7)).setCell ⟨w.heap.size + 1, 1, none⟩ (.int .i64 (g.freshOf C).root)) q := fun q hq => (hq.setCell _ _).setCell _ _
          have HbS := Lib.hid hbS
          have HkS := Lib.hid hkS
          have HbW := Lib.hid hbW
          have HTh := Lib.hid hth
          clear hbS hkS hbW hth
          generalize ((w7.setCell ⟨w.heap.size + 1, 0, none⟩ (.slice A7 (g.freshOf C).nodes.length c7)).setCell ⟨w.heap.size + 1, 1, none⟩ (.int .i64 (g.freshOf C).root)) = W9 at HbS HkS HbW HTh ⊢
          obtain ⟨p1, p2⟩ := HbS.out.cells
          have p10 : W9.cell? ⟨w.heap.size + 1, 0, none⟩ = some (.slice A7 (g.freshOf C).nodes.length c7) := p1 0
          have p11 : W9.cell? ⟨w.heap.size + 1, 1, none⟩ = some (.int .i64 (g.freshOf C).root) := p1 1
          refine bodyPost_ret (v := .tuple #[.agg #[.slice A7 (g.freshOf C).nodes.length c7, .int .i64 (g.freshOf C).root], .int .i64 0]) (by simp [results, Try.results13, go_sem, p10, p11]) rfl ?_
          rw [HFc.out, HFu.out]
          refine ⟨_, rfl, ⟨A7, c7, rfl, U1.out, u2, ?_⟩, HbW.out⟩
          exact NdsO.keep (fun q hq => ⟨⟨by have := hq.1; omega, Nat.lt_of_lt_of_le hq.2.1 HkS.out.size, HTh.out q hq.2.2⟩, HkS.out.block q hq.2.1 (by have := hq.1; omega)⟩) _ _ U3.out
        · have hfc : g.fcode M = 3 := by rw [HU2.out, ← HCe.out, if_neg hlong]
          have hfu : g.freshU M = ⟨[], 0⟩ := by rw [HU.out, hfc, if_neg (by decide)]
          have HFc := Lib.hid hfc
          have HFu := Lib.hid hfu
          clear hfc hfu
          go_wp2_with (go_at_call 31; (with_reducible refine HDel.out.mono ?_); rintro e w6 ⟨rfl, t1, t2⟩; have T1 := Lib.hid t1; have T2 := Lib.hid t2; obtain ⟨c60, c61, hbR, c63⟩ := HC5.out w6 t1; have C63 := Lib.hid c63; have hz16 := c63.size; obtain ⟨g1, g2⟩ := hbR.cells; have g10 := g1 0; have g11 := g1 1; have g20 := g2 0; have g21 := g2 1; have HbR := Lib.hid hbR; clear t1 t2 hbR c63 g1 g2)
          have hbS := (HbR.out.set 0 (.slice none 0 0)).set 1 (.int .i64 0)
          have hbW : Below w.heap.size w ((w6.setCell ⟨w.heap.size + 1, 0, none⟩ (.slice none 0 0)).setCell ⟨w.heap.size + 1, 1, none⟩ (.int .i64 0)) :=
            ((HB1.out.trans (C63.out.mono (by omega))).setCell (by simp) _).setCell (by simp) _
          have HbS := Lib.hid hbS
          have HbW := Lib.hid hbW
          clear hbS hbW
          generalize ((w6.setCell ⟨w.heap.size + 1, 0, none⟩ (.slice none 0 0)).setCell ⟨w.heap.size + 1, 1, none⟩ (.int .i64 0)) = W9 at HbS HbW ⊢
          obtain ⟨p1, p2⟩ := HbS.out.cells
          have p10 : W9.cell? ⟨w.heap.size + 1, 0, none⟩ = some (.slice none 0 0) := p1 0
          have p11 : W9.cell? ⟨w.heap.size + 1, 1, none⟩ = some (.int .i64 0) := p1 1
          refine bodyPost_ret (v := .tuple #[.agg #[.slice none 0 0, .int .i64 0], .int .i64 3]) (by simp [results, Try.results13, go_sem, p10, p11]) rfl ?_
          rw [HFc.out, HFu.out]
          exact ⟨_, rfl, ⟨none, 0, rfl, Nat.le_refl _, Nat.zero_le _, trivial⟩, HbW.out⟩
    have HK := Lib.hid hK
    clear hK hKi
    go_region_held3 (fun W => W.cell? ⟨w.heap.size, 0, none⟩ = some (.slice A g.nodes.length cN) ∧ W.cell? ⟨w.heap.size, 1, none⟩ = some (.int .i64 g.root))
      (first | with_reducible exact hx0 | (with_reducible refine HC.out _ ?_; (· repeat (first | with_reducible assumption | with_reducible exact BelC.refl _ | with_reducible refine BelC.alloc ?_ _ | with_reducible refine BelC.drew ?_ | (with_reducible refine BelC.setCell ?_ ?_ _; rotate_left; (· first | omega | (simp <;> omega)))))))
      (first | (go_at_call 29; refine (HGe2.out _ ?_).mono ?_; (· repeat (first | with_reducible assumption | with_reducible exact BelC.refl _ | with_reducible refine BelC.alloc ?_ _ | with_reducible refine BelC.drew ?_)); rintro e w6 ⟨A6, c6, rfl, q1, q2, q3, q4⟩; refine cut_ (P := BelC w2 w6) (Below.trans ?_ (Below.mono q4 ?_)) (fun hbc6 => ?_); (· show BelC w2 _; repeat (first | with_reducible assumption | with_reducible exact BelC.refl _ | with_reducible refine BelC.alloc ?_ _ | with_reducible refine BelC.drew ?_)); (· first | omega | (simp <;> omega)); (first | (refine cut_ (P := Blk w6 w2.heap.size (.cells #[.slice none 0 0] 45)) ((Below.block q4 _ ?_).trans ?_) (fun hq6 => ?_); (· first | omega | (simp <;> omega)); (· show Blk _ _ _; (· repeat (first | (with_reducible refine Blk.new' _ _ _ ?_; (· first | omega | (simp <;> omega))) | with_reducible refine Blk.alloc ?_ _ | with_reducible refine Blk.drew ?_)))) | skip)) | (go_at_call 30; refine (HLe2.out w6 A6 c6 _ q3 hbc6 q1 q2 _ ?_).mono ?_; (· repeat (first | with_reducible assumption | with_reducible exact BelC.refl _ | with_reducible refine BelC.alloc ?_ _ | with_reducible refine BelC.drew ?_)); rintro e w7 ⟨B, out, rfl, t1, t2, t3, t4⟩; refine cut_ (P := BelC w6 w7) (Below.trans ?_ (Below.mono t4 ?_)) (fun hbc7 => ?_); (· show BelC w6 _; repeat (first | with_reducible assumption | with_reducible exact BelC.refl _ | with_reducible refine BelC.alloc ?_ _ | with_reducible refine BelC.drew ?_)); (· first | omega | (simp <;> omega)); have hz26 := Below.size hbc6; have hz67 := Below.size hbc7; refine cut_ (P := BelC w2 w7) (Below.trans hbc6 (Below.mono hbc7 hz26)) (fun hbc27 => ?_); (first | (refine cut_ (P := Blk w7 w2.heap.size (.cells #[.slice none 0 0] 45)) ((Below.block hbc7 _ hq6.lt).trans hq6) (fun hq7 => ?_); obtain ⟨hcq, hfq⟩ := hq7.cells) | (refine cut_ (P := Blk w7 w6.heap.size (.cells #[.slice none 0 0] 45)) ((Below.block t4 _ ?_).trans ?_) (fun hq7 => ?_); (· first | omega | (simp <;> omega)); (· show Blk _ _ _; (· repeat (first | (with_reducible refine Blk.new' _ _ _ ?_; (· first | omega | (simp <;> omega))) | with_reducible refine Blk.alloc ?_ _ | with_reducible refine Blk.drew ?_))); obtain ⟨hcq, hfq⟩ := hq7.cells) | skip)))
    all_goals with_reducible refine HK.out _ _ out _ _ _ ?_ ?_ ?_ ?_ ?_ ?_
    all_goals clear HK HGe2 HLe2 HC HBlk HA1 HI1 HZ1 HZ2 HU HU2
    · exact hbc27.alloc _
    · omega
    · exact Blk.new' _ _ _ rfl
    · first | omega | (simp at t1; omega)
    · exact (Below.heap_alloc _ _ _ (Array.getElem?_eq_some_iff.1 t2).1).trans t2
    · exact t3
    · exact BelC.setCell hbc27 (by simp only; omega) _
    · omega
    · exact hq7.set 0 _
    · first | omega | (simp at t1; omega)
    · exact (Below.heap_setCell _ _ _ _ (by first | (simp only; omega) | (simp at t1 ⊢; omega))).trans t2
    · exact t3
    · exact BelC.setCell hbc27 (by simp only; omega) _
    · omega
    · exact hq7.set 0 _
    · first | omega | (simp at t1; omega)
    · have h6 := hq6.lt
      exact (Below.heap_setCell _ _ _ _ (by first | (simp only; omega) | (simp at t1 ⊢; omega))).trans t2
    · exact t3
  · have hU : g.freshU M = ⟨[], 0⟩ := by unfold RGr.freshU RGr.fcode; rw [if_neg hcd, if_neg hcd]
    have hU2 : g.fcode M = g.mcode M := by unfold RGr.fcode; rw [if_neg hcd]
    rw [hU, hU2]
    obtain ⟨cd, hcde⟩ : ∃ cd, cd = g.mcode M := ⟨_, rfl⟩
    rw [← hcde] at hcd HCk ⊢
    unfold maxLen at hcN9 hmm
    clear hcde hU hU2
    go_enter Try.func13, Try.ntmps13
    go_wp2_with fail
    rw [← hw1]
    clear hw1
    with_reducible refine HCk.out.mono ?_
    rintro e w2 ⟨rfl, hb2⟩
    have hbR := (HBlk.out w2 hb2).2
    obtain ⟨g1, g2⟩ := hbR.cells
    have g10 := g1 0
    have g11 := g1 1
    have g20 := g2 0
    have g21 := g2 1
    have hbS := (hbR.set 0 (.slice none 0 0)).set 1 (.int .i64 0)
    have hbW : Below w.heap.size w ((w2.setCell ⟨w.heap.size + 1, 0, none⟩ (.slice none 0 0)).setCell ⟨w.heap.size + 1, 1, none⟩ (.int .i64 0)) :=
      ((HB1.out.trans (hb2.mono (by omega))).setCell (by simp) _).setCell (by simp) _
    have HbS := Lib.hid hbS
    have HbW := Lib.hid hbW
    clear hb2 hbS hbW hbR g1 g2 c00 c01
    go_wp2
    generalize ((w2.setCell ⟨w.heap.size + 1, 0, none⟩ (.slice none 0 0)).setCell ⟨w.heap.size + 1, 1, none⟩ (.int .i64 0)) = W9 at HbS HbW ⊢
    obtain ⟨p1, p2⟩ := HbS.out.cells
    have p10 : W9.cell? ⟨w.heap.size + 1, 0, none⟩ = some (.slice none 0 0) := p1 0
    have p11 : W9.cell? ⟨w.heap.size + 1, 1, none⟩ = some (.int .i64 0) := p1 1
    refine bodyPost_ret (v := .tuple #[.agg #[.slice none 0 0, .int .i64 0], .int .i64 cd]) (by simp [results, Try.results13, go_sem, p10, p11]) rfl ?_
    exact ⟨_, rfl, ⟨none, 0, rfl, Nat.le_refl _, Nat.zero_le _, trivial⟩, HbW.out⟩
end Go.Proofs.Ytnhdgndjpkdhdaa

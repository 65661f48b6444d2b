/-
  trefoilref13.from: which nodes some reach.
-/
/-
  trefoilref13.Fixed.
-/
/-
  trefoilref13.Generic.
-/
import Derived.Test.YtnhdgndjpkdhdaaNGenr
namespace Go.Proofs.Ytnhdgndjpkdhdaa
open Go.RowKit Go.Shelf

/-- The same nodes, with another root. -/
def RGr.at (g : RGr) (m : Nat) : RGr := ⟨g.nodes, (m : Int)⟩
theorem RGr.at_ok {g : RGr} (h : g.ok = true) {m : Nat} (hm : m < g.nodes.length) : (g.at m).ok = true := by
  unfold RGr.ok RGr.at at *
  simp only [Bool.and_eq_true, decide_eq_true_eq] at h ⊢
  exact ⟨h.1, ⟨⟨by omega, by omega⟩, h.2.2⟩⟩
theorem RGr.at_reach (g : RGr) (m : Nat) : (g.at m).reach = G.visit g.fa (g.nodes.length + 1) m [] := by
  rw [reach_eq]
  rfl
theorem held_step (g : RGr) (L : List Nat) (k : Nat) (hk : k < L.length) : g.held (L.take (k + 1)) = g.held (L.take k) ++ (g.at L[k]).reach := by
  unfold RGr.held G.heldL
  rw [List.take_add_one, List.getElem?_eq_getElem hk, List.flatMap_append, RGr.at_reach]
  simp

set_option maxRecDepth 100000 in
set_option maxHeartbeats 1000000 in
theorem from_r (w : World) (S S2 : Nat → Prop) (g : RGr) (gv : Value) (L : List Nat) (lA : Option Addr) (lc : Nat) (hok : g.ok = true) (hL : ∀ m, m ∈ L → m < g.nodes.length) (hS : ∀ k, S k → k < w.heap.size) (he : GrV w S g gv) (hS2 : ∀ k, S2 k → k < w.heap.size) (hI : IntsO w S2 (L.map Int.ofNat) lA) (_hlc : L.length ≤ lc) (hlm : lc ≤ maxLen) :
    Calls Try.prog 27 #[gv, .slice lA L.length lc] w fun e w' => ∃ B, e = .returned (.slice (some ⟨B, 0, none⟩) g.nodes.length g.nodes.length) ∧ w.heap.size ≤ B ∧ MetAt w' B g.nodes.length (g.held L) ∧ Below w.heap.size w w' := by
  obtain ⟨A, cN, rfl, hcN, hcN9, oN⟩ := he
  have hN := RGr.ok_len hok
  obtain ⟨w1, hw1⟩ : ∃ w1, w1 = w.alloc (.cells #[.slice A g.nodes.length cN, .int .i64 g.root] 24) := ⟨_, rfl⟩
  have hsz1 : w1.heap.size = w.heap.size + 1 := by rw [hw1]; simp
  have hb1 : Below w.heap.size w w1 := by rw [hw1]; exact (Below.refl _ _).alloc (Nat.le_refl _) _
  have hq1 : Blk w1 w.heap.size (.cells #[.slice A g.nodes.length cN, .int .i64 g.root] 24 (0, 0)) := by rw [hw1]; exact Blk.new' _ _ _ rfl
  obtain ⟨w2, hw2⟩ : ∃ w2, w2 = w1.alloc (.cells (metCells g.nodes.length []) 4) := ⟨_, rfl⟩
  have hsz2 : w2.heap.size = w.heap.size + 2 := by rw [hw2]; simp [hsz1]
  have hb2 : Below w.heap.size w w2 := by rw [hw2]; exact hb1.alloc (by omega) _
  have hq2 : Blk w2 w.heap.size (.cells #[.slice A g.nodes.length cN, .int .i64 g.root] 24 (0, 0)) := by rw [hw2]; exact hq1.alloc _
  have hm2 : MetAt w2 (w.heap.size + 1) g.nodes.length [] := by
    rw [hw2, ← hsz1]
    exact Blk.new' _ _ _ rfl
  have hmk := makeMet w1 g.nodes.length (by omega)
  rw [hsz1, ← hw2] at hmk
  have HB2 := Lib.hid hb2
  have HQ2 := Lib.hid hq2
  have HM2 := Lib.hid hm2
  have HL := Lib.hid hL
  have HI := Lib.hid hI
  have HS := Lib.hid hS
  have HS2 := Lib.hid hS2
  have HON := Lib.hid oN
  have HOk := Lib.hid hok
  have c0 := hq1.cells.1 0
  unfold maxLen at hcN9 hlm
  clear hb1 hb2 hq1 hq2 hm2 hL hI hS hS2 oN hok
  go_enter Try.func27, Try.ntmps27
  go_wp2_with fail
  rw [← hw1]
  clear hw1 hw2
  go_wp2_with fail
  rw [hmk]
  go_wp2_with fail
  clear hmk c0
  go_loopw [16] (fun v16 wr => ∃ k : Nat, v16 = .int .i64 k ∧ k ≤ L.length ∧ MetAt wr (w.heap.size + 1) g.nodes.length (g.held (L.take k)) ∧ Keeps (fun i => i = w.heap.size + 1) w2 wr) (fun v16 _ => L.length - (intOf v16).toNat)
  case atStart => exact ⟨0, rfl, Nat.zero_le _, HM2.out, Keeps.refl _ _⟩
  case round =>
    obtain ⟨k, rfl, hk, hm, hkp⟩ := hrel
    have hbel : Below w.heap.size w wr := HB2.out.trans (hkp.below (by omega) (fun i hi e => by omega))
    have HM := Lib.hid hm
    have HBel := Lib.hid hbel
    have HKp := Lib.hid hkp
    by_cases hlt : k < L.length
    · obtain ⟨b2, o2, rfl, _, d1⟩ := IntsO.get _ _ (IntsO.keep (S' := S2) (fun i hi => ⟨hi, hbel.block i (HS2.out i hi)⟩) _ _ HI.out) k (by simpa using hlt)
      rw [List.getElem_map] at d1
      have hxN := HL.out _ (List.getElem_mem hlt)
      have hst := held_step g L k hlt
      obtain ⟨x, hx⟩ : ∃ x, x = L[k] := ⟨_, rfl⟩
      rw [← hx] at d1 hxN hst
      have d1' : wr.cell? ⟨b2, o2 + k, none⟩ = some (.int .i64 (x : Int)) := d1
      have hq : Blk wr w.heap.size (.cells #[.slice A g.nodes.length cN, .int .i64 g.root] 24 (0, 0)) := (hkp.block w.heap.size (by omega) (by omega)).trans HQ2.out
      have c0 := hq.cells.1 0
      have hzr := hkp.size
      have hre := greach_r wr S (g.at x) (.agg #[.slice A (g.at x).nodes.length cN, .int .i64 (g.at x).root]) (RGr.at_ok HOk.out hxN) (fun i hi => by have := HS.out i hi; omega) ⟨A, cN, rfl, hcN, by unfold maxLen; omega, NdsO.keep (fun i hi => ⟨hi, hbel.block i (HS.out i hi)⟩) _ _ HON.out⟩
      have hRl : ∀ y, y ∈ (g.at x).reach → y < g.nodes.length := (reach_facts (RGr.at_ok HOk.out hxN)).2.1
      obtain ⟨R, hR⟩ : ∃ R, R = (g.at x).reach := ⟨_, rfl⟩
      rw [← hR] at hre hRl hst
      have hre' : Calls Try.prog 35 #[.agg #[.slice A g.nodes.length cN, .int .i64 (x : Int)]] wr _ := hre
      have HRe := Lib.hid hre'
      have HRl := Lib.hid hRl
      have HSt := Lib.hid hst
      clear hre hre' hRl hst hm hkp hbel d1 hx hR hq
      go_wp2_with fail
      (with_reducible refine HRe.out.mono ?_)
      rintro e w5 ⟨RA, rc, rfl, r1, r2, r3, hb5⟩
      have hz5 := hb5.size
      have hm5 : MetAt w5 (w.heap.size + 1) g.nodes.length (g.held (L.take k)) := (hb5.block _ (by omega)).trans HM.out
      have HM5 := Lib.hid hm5
      have HB5 := Lib.hid (HBel.out.trans (hb5.mono (by have := HBel.out.size; omega)))
      have hk5 : Keeps (fun _ => False) wr w5 := Keeps.of_below0 hb5
      have HK5 := Lib.hid (HKp.out.trans (hk5.mono (fun _ _ e => e.elim)))
      obtain ⟨n5, hn5⟩ : ∃ n, n = wr.heap.size := ⟨_, rfl⟩
      rw [← hn5] at hz5 hzr r3
      have HR3 := Lib.hid r3
      unfold maxLen at r2
      clear r3 hb5 hm5 hk5 hn5 c0 d1'
      go_wp2_with fail
      go_loopw [26] (fun v26 wm => ∃ j : Nat, v26 = .int .i64 j ∧ j ≤ R.length ∧ MetAt wm (w.heap.size + 1) g.nodes.length (g.held (L.take k) ++ R.take j) ∧ Keeps (fun i => i = w.heap.size + 1) w5 wm) (fun v26 _ => R.length - (intOf v26).toNat)
      case atStart => exact ⟨0, rfl, Nat.zero_le _, by simpa using HM5.out, Keeps.refl _ _⟩
      case round =>
        obtain ⟨j, rfl, hj, hm, hkp⟩ := hrel
        by_cases hlt2 : j < R.length
        · obtain ⟨b3, o3, rfl, _, d2⟩ := IntsO.get _ _ (IntsO.keep (S' := fun i => n5 ≤ i ∧ i < w5.heap.size) (fun i hi => ⟨hi, hkp.block i hi.2 (by omega)⟩) _ _ HR3.out) j (by simpa using hlt2)
          rw [List.getElem_map] at d2
          have hyN := HRl.out _ (List.getElem_mem hlt2)
          have htk : R.take (j + 1) = R.take j ++ [R[j]] := by rw [List.take_add_one, List.getElem?_eq_getElem hlt2]; rfl
          obtain ⟨y, hy⟩ : ∃ y, y = R[j] := ⟨_, rfl⟩
          rw [← hy] at d2 hyN htk
          have d2' : wr.cell? ⟨b3, o3 + j, none⟩ = some (.int .i64 (y : Int)) := d2
          obtain ⟨m1, m2⟩ := hm.cell y hyN
          have hset := hm.set y
          rw [List.append_assoc, ← htk] at hset
          have hk6 : Keeps (fun i => i = w.heap.size + 1) w5 (wr.setCell ⟨w.heap.size + 1, y, none⟩ (.bool true)) := hkp.setCell (p := ⟨w.heap.size + 1, y, none⟩) (fun _ => rfl) _
          have HSet := Lib.hid hset
          have HK6 := Lib.hid hk6
          obtain ⟨bb, hbb⟩ : ∃ bb, bb = decide (y ∈ g.held (List.take k L) ++ R.take j) := ⟨_, rfl⟩
          rw [← hbb] at m1
          clear hm hset hk6 hkp d2 htk hbb hy
          go_wp2
          go_roundw
          case rel => exact ⟨j + 1, by go_num, by omega, HSet.out, HK6.out⟩
          case measure => simp [intOf]; omega
        · have hj' : j = R.length := by omega
          have hm' : MetAt wr (w.heap.size + 1) g.nodes.length (g.held (L.take (k + 1))) := by rw [HSt.out, ← List.take_length (l := R), ← hj']; exact hm
          have HM' := Lib.hid hm'
          have HK' := Lib.hid (HK5.out.trans hkp)
          clear hm hm' hj' hkp
          go_wp2
          go_roundw
          case rel => exact ⟨k + 1, by go_num, by omega, HM'.out, HK'.out⟩
          case measure => simp [intOf]; omega
    · have hk' : k = L.length := by omega
      have hq : g.held (L.take k) = g.held L := by rw [hk', List.take_length]
      rw [hq] at hm
      have HM := Lib.hid hm
      clear hm hkp hbel hk' hq
      go_wp2
      go_ret
      exact ⟨w.heap.size + 1, rfl, by omega, HM.out, HBel.out⟩
end Go.Proofs.Ytnhdgndjpkdhdaa
namespace Go.Proofs.Ytnhdgndjpkdhdaa
open Go.RowKit Go.Shelf

set_option maxRecDepth 100000 in
set_option maxHeartbeats 2000000 in
theorem rfixed_r (w : World) (S S2 : Nat → Prop) (g : RGr) (gv : Value) (M : List Int) (mA : Option Addr) (mc : Nat) (hS : ∀ k, S k → k < w.heap.size) (he : GrV w S g gv)
    (hS2 : ∀ k, S2 k → k < w.heap.size) (hI : IntsO w S2 M mA) (hmc : M.length ≤ mc) (hmm : mc ≤ maxLen) :
    Calls Try.prog 10 #[gv, .slice mA M.length mc] w fun e w' => ∃ A c, e = .returned (.tuple #[.slice A (g.fixU M).length c, .int .i64 (g.mcode M)]) ∧ (g.fixU M).length ≤ c ∧ c ≤ maxLen ∧ IntsO w' (fun k => w.heap.size ≤ k ∧ k < w'.heap.size) ((g.fixU M).map Int.ofNat) A ∧ Below w.heap.size w w' := by
  obtain ⟨A, cN, hgv, hcN, hcN9, oN⟩ := he
  subst hgv
  obtain ⟨w1, hw1⟩ : ∃ w1, w1 = w.alloc (.cells #[.slice A g.nodes.length cN, .int .i64 g.root] 24) := ⟨_, rfl⟩
  have hsz1 : w1.heap.size = w.heap.size + 1 := by rw [hw1]; simp
  have hb1 : Below w.heap.size w w1 := by rw [hw1]; exact (Below.refl _ _).alloc (Nat.le_refl _) _
  have hq1 : Blk w1 w.heap.size (.cells #[.slice A g.nodes.length cN, .int .i64 g.root] 24 (0, 0)) := by rw [hw1]; exact Blk.new' _ _ _ rfl
  have hz1 : ∀ k, S k → k < w1.heap.size := fun k hk => by have := hS k hk; omega
  have hz2 : ∀ k, S2 k → k < w1.heap.size := fun k hk => by have := hS2 k hk; omega
  have hA1 : NdsO w1 S g.nodes A := NdsO.keep (fun k hk => ⟨hk, hb1.block k (hS k hk)⟩) _ _ oN
  have hI1 : IntsO w1 S2 M mA := IntsO.keep (fun k hk => ⟨hk, hb1.block k (hS2 k hk)⟩) _ _ hI
  have hck := rmcheck_r w1 S S2 g _ M mA mc hz1 ⟨A, cN, rfl, hcN, hcN9, hA1⟩ hz2 hI1 hmc hmm
  have hcell : ∀ W, Below w1.heap.size w1 W → W.cell? ⟨w.heap.size, 0, none⟩ = some (.slice A g.nodes.length cN) ∧ W.cell? ⟨w.heap.size, 1, none⟩ = some (.int .i64 g.root) := fun W hW =>
    ⟨(hW.cell (p := ⟨w.heap.size, 0, none⟩) (by simp only; omega)).trans (hq1.cells.1 0), (hW.cell (p := ⟨w.heap.size, 1, none⟩) (by simp only; omega)).trans (hq1.cells.1 1)⟩
  have HCk := Lib.hid hck
  have HC := Lib.hid hcell
  have HB1 := Lib.hid hb1
  have HA1 := Lib.hid hA1
  have HI1 := Lib.hid hI1
  have HZ1 := Lib.hid hz1
  have HZ2 := Lib.hid hz2
  obtain ⟨c00, c01⟩ := (⟨hq1.cells.1 0, hq1.cells.1 1⟩ : w1.cell? ⟨w.heap.size, 0, none⟩ = some (.slice A g.nodes.length cN) ∧ w1.cell? ⟨w.heap.size, 1, none⟩ = some (.int .i64 g.root))
  clear hS hS2 hI oN hA1 hI1 hck hcell hb1 hq1 hz1 hz2
  by_cases hcd : g.mcode M = 0
  · obtain ⟨hok, hmo⟩ := mcode_ok hcd
    obtain ⟨hMe, hMl⟩ := mono_nat hmo
    have hN := RGr.ok_len hok
    have hU : g.fixU M = g.fixL (M.map Int.toNat) := by unfold RGr.fixU; rw [if_pos hcd]
    rw [hcd, hU]
    rw [hcd] at HCk
    obtain ⟨Mn, hMn⟩ : ∃ Mn, Mn = M.map Int.toNat := ⟨_, rfl⟩
    rw [← hMn] at hMl hMe ⊢
    have hlen : M.length = Mn.length := by rw [hMn, List.length_map]
    have hre : ∀ W, Below w1.heap.size w1 W → Calls Try.prog 27 #[.agg #[.slice A g.nodes.length cN, .int .i64 g.root], .slice mA M.length mc] W fun e w' => ∃ B, e = .returned (.slice (some ⟨B, 0, none⟩) g.nodes.length g.nodes.length) ∧ W.heap.size ≤ B ∧ MetAt w' B g.nodes.length (g.held Mn) ∧ Below W.heap.size W w' := fun W hW => by
      rw [hlen]
      exact from_r W S S2 g _ Mn mA mc hok hMl (fun k hk => Nat.lt_of_lt_of_le (HZ1.out k hk) hW.size) ⟨A, cN, rfl, hcN, hcN9, NdsO.keep (fun k hk => ⟨hk, hW.block k (HZ1.out k hk)⟩) _ _ HA1.out⟩ (fun k hk => Nat.lt_of_lt_of_le (HZ2.out k hk) hW.size) (by rw [← hMe]; exact IntsO.keep (fun k hk => ⟨hk, hW.block k (HZ2.out k hk)⟩) _ _ HI1.out) (by omega) hmm
    have HRe := Lib.hid hre
    have HOk := Lib.hid hok
    have hgl := fixL_len (g := g) (M := Mn)
    obtain ⟨i0, hi, hz0, hz1, hz2⟩ := info_parts infoInt
    unfold maxLen at hcN9 hmm
    clear hre hok hmo hMl hMe hMn hU hcd hlen
    go_enter Try.func10, Try.ntmps10
    go_wp2_with fail
    rw [← hw1]
    clear hw1
    with_reducible refine HCk.out.mono ?_
    rintro e w2 ⟨rfl, hb2⟩
    obtain ⟨c2, c21⟩ := HC.out w2 hb2
    have hre2 := HRe.out w2 hb2
    have HRe2 := Lib.hid hre2
    have HB2 := Lib.hid hb2
    have hz12 := hb2.size
    clear hb2 hre2 c00 c01 HRe HCk
    go_wp2_with fail
    with_reducible refine HRe2.out.mono ?_
    rintro e w3 ⟨B, rfl, g1, g2, g4⟩
    have HM3 := Lib.hid g2
    have hz23 := g4.size
    have hb13 := HB2.out.trans (g4.mono hz12)
    have HB13 := Lib.hid hb13
    have hBz : B < w3.heap.size := (Array.getElem?_eq_some_iff.1 g2).1
    clear g2 g4 HRe2 hb13 c2 c21
    go_wp2_with fail
    go_loopw [7, 20] (fun s i wr => ∃ (k : Nat) (es : List Nat), i = .int .i64 k ∧ k ≤ g.nodes.length ∧ es ++ ((List.range g.nodes.length).drop k).filter (fun x => g.isHeld Mn x && g.fr x) = g.fixL Mn ∧ RowG srtI 3 w3.heap.size wr (fun _ => False) s (es.map Int.ofNat) ∧ Below w3.heap.size w3 wr) (fun _ i _ => g.nodes.length - (intOf i).toNat)
    case atStart => exact ⟨0, [], rfl, Nat.zero_le _, by rw [List.drop_zero, List.nil_append]; rfl, RowG.nil _ _ _, Below.refl _ _⟩
    case round =>
      obtain ⟨k, es, rfl, hk, hq, hrw, hb⟩ := hrel
      have HQ := Lib.hid hq
      have HR := Lib.hid hrw
      have HB := Lib.hid hb
      have hb1 := HB13.out.trans (hb.mono HB13.out.size)
      have HBa := Lib.hid hb1
      obtain ⟨cw, cw1⟩ := HC.out wr hb1
      have hzw := hb.size
      have hm3 : MetAt wr B g.nodes.length (g.held Mn) := (hb.block _ hBz).trans HM3.out
      have HMw := Lib.hid hm3
      clear hq hrw hb hb1
      by_cases hlt : k < g.nodes.length
      · obtain ⟨m1, m2⟩ := hm3.cell k hlt
        rw [show decide (k ∈ g.held Mn) = g.isHeld Mn k from rfl] at m1
        have hd : ((List.range g.nodes.length).drop k).filter (fun x => g.isHeld Mn x && g.fr x) = (if (g.isHeld Mn k && g.fr k) = true then [k] else []) ++ ((List.range g.nodes.length).drop (k + 1)).filter (fun x => g.isHeld Mn x && g.fr x) := by
          rw [range_drop hlt, List.filter_cons]
          split <;> rfl
        have hfr := g.fr_eq k hlt
        obtain ⟨b, o, hAe, hnp⟩ := NdsO.get _ _ (NdsO.keep (S' := S) (fun k hk => ⟨hk, HBa.out.block k (HZ1.out k hk)⟩) _ _ HA1.out) k hlt
        obtain ⟨x, hx⟩ : ∃ x, x = g.nodes[k] := ⟨_, rfl⟩
        rw [← hx] at hnp hfr
        obtain ⟨xA, yA, xL, yL, f0, f1, f2, f3, f4, hvv⟩ := hnp.val
        have hq := HQ.out
        rw [hd, hfr] at hq
        subst hAe
        clear hd hx hnp hm3 hvv
        obtain ⟨hh, hhe⟩ : ∃ hh, hh = g.isHeld Mn k := ⟨_, rfl⟩
        obtain ⟨ff, hfe⟩ : ∃ ff, ff = x.free := ⟨_, rfl⟩
        rw [← hhe] at m1
        rw [← hhe, ← hfe] at hq
        have HFX := Lib.hid hfe
        clear hhe hfe hfr
        rcases hh with _ | _
        · have HQ' := Lib.hid (by simpa using hq : es ++ ((List.range g.nodes.length).drop (k + 1)).filter (fun x => g.isHeld Mn x && g.fr x) = g.fixL Mn)
          clear hq
          go_wp2
          go_roundw
          case rel => exact ⟨k + 1, es, by go_num, by omega, HQ'.out, HR.out, HB.out⟩
          case measure => simp [intOf]; omega
        · rcases ff with _ | _
          · have HQ' := Lib.hid (by simpa using hq : es ++ ((List.range g.nodes.length).drop (k + 1)).filter (fun x => g.isHeld Mn x && g.fr x) = g.fixL Mn)
            clear hq
            go_wp2_with (go_at_call 28; refine (isFree_r _ x xA xL _ _ _ _).mono ?_; rw [← HFX.out]; rintro e w5 ⟨rfl, hb5⟩; have HB5 := Lib.hid hb5; clear hb5)
            go_roundw
            case rel => exact ⟨k + 1, es, by go_num, by omega, HQ'.out, HR.out.keep (F := fun _ => False) (Keeps.of_below0 HB5.out) (fun _ e _ => e.elim), HB.out.trans (HB5.out.mono HB.out.size)⟩
            case measure => simp [intOf]; omega
          · have hq' : (es ++ [k]) ++ ((List.range g.nodes.length).drop (k + 1)).filter (fun x => g.isHeld Mn x && g.fr x) = g.fixL Mn := by rw [← hq]; simp
            have hel : (es.map Int.ofNat).length + [(k : Int)].length ≤ 2000000 := by
              have h1 := congrArg List.length hq'
              simp only [List.length_append, List.length_singleton] at h1
              simp only [List.length_map, List.length_singleton]
              omega
            have HEl := Lib.hid hel
            have HQ' := Lib.hid hq'
            clear hq hq' hel
            go_wp2_with (first | (go_at_call 28; refine (isFree_r _ x xA xL _ _ _ _).mono ?_; rw [← HFX.out]; rintro e w5 ⟨rfl, hb5⟩; have HB5 := Lib.hid hb5; have HRow5 := Lib.hid (HR.out.keep (F := fun _ => False) ((Keeps.of_below0 hb5).alloc (.cells #[.int .i64 k] 3)) (fun _ e _ => e.elim)); have hz5 : w3.heap.size ≤ w5.heap.size := Nat.le_trans HB.out.size hb5.size; clear hb5) | (at_builtin; go_loud (refine wpList_growB (T := srtI) (ms := [(k : Int)]) rfl (.tmp 34) (.tmp 36) 25 3 rfl i0 _ 8 Try.underlying25 hi hz0 hz1 hz2 rfl rfl HRow5.out ⟨w5.heap.size, 0, none⟩ 1 [.int .i64 k] rfl (fun j u hj => gcell_new _ _ _ _ rfl j u hj) (Items.one srtI rfl) ?_ ?_ ?_ (by simp) ?_; (· have := HEl.out; simp [maxLen] at this ⊢; omega); (· have := HEl.out; simp at this ⊢; omega); (· simp; omega)); intro v6 w6 hrow6 hk6 hb6; have HRow6 := Lib.hid hrow6; have HB6 := Lib.hid ((HB.out.trans ((HB5.out.alloc (Nat.le_trans (Nat.le_refl _) HB5.out.size) (.cells #[.int .i64 k] 3)).mono HB.out.size)).trans (hk6.below (by simp; omega) (fun i hi e => by have := (HRow5.out.block e).1; omega))); clear hrow6 hk6 hb6))
            go_roundw
            case rel => exact ⟨k + 1, es ++ [k], by go_num, by omega, HQ'.out, by have h := HRow6.out; rw [List.map_append]; exact h, HB6.out⟩
            case measure => simp [intOf]; omega
      · have hk' : k = g.nodes.length := by omega
        have hes : es = g.fixL Mn := by have h := HQ.out; rw [hk', List.drop_of_length_le (by simp)] at h; simpa using h
        clear hk' hm3
        obtain ⟨A9, c9, rfl, h1, h2, h3⟩ := HR.out.ints (S' := fun k => w.heap.size ≤ k ∧ k < wr.heap.size) (fun _ e => e.elim) (fun k h1 h2 => ⟨by omega, h2⟩)
        rw [List.length_map, hes] at h1
        rw [hes] at h3
        rw [List.length_map, hes]
        have H3 := Lib.hid h3
        clear h3
        go_wp2
        go_ret2
        exact ⟨A9, c9, rfl, h1, h2, H3.out, HB1.out.trans (HBa.out.mono (by omega))⟩
  · have hU : g.fixU M = [] := by unfold RGr.fixU; rw [if_neg hcd]
    rw [hU]
    obtain ⟨cd, hcde⟩ : ∃ cd, cd = g.mcode M := ⟨_, rfl⟩
    rw [← hcde] at hcd HCk ⊢
    unfold maxLen at hcN9 hmm
    clear hcde hU
    go_enter Try.func10, Try.ntmps10
    go_wp2_with fail
    rw [← hw1]
    clear hw1
    with_reducible refine HCk.out.mono ?_
    rintro e w2 ⟨rfl, hb2⟩
    have HB2 := Lib.hid hb2
    clear hb2
    go_wp2
    go_ret2
    exact ⟨none, 0, rfl, Nat.le_refl _, Nat.zero_le _, trivial, HB1.out.trans (HB2.out.mono (by omega))⟩
end Go.Proofs.Ytnhdgndjpkdhdaa
namespace Go.Proofs.Ytnhdgndjpkdhdaa
open Go.RowKit Go.Shelf

set_option maxRecDepth 100000 in
set_option maxHeartbeats 2000000 in
theorem rgeneric_r (w : World) (S S2 : Nat → Prop) (g : RGr) (gv : Value) (M : List Int) (mA : Option Addr) (mc : Nat) (hS : ∀ k, S k → k < w.heap.size) (he : GrV w S g gv)
    (hS2 : ∀ k, S2 k → k < w.heap.size) (hI : IntsO w S2 M mA) (hmc : M.length ≤ mc) (hmm : mc ≤ maxLen) :
    Calls Try.prog 12 #[gv, .slice mA M.length mc] w fun e w' => ∃ A c, e = .returned (.tuple #[.slice A (g.genU M).length c, .int .i64 (g.mcode M)]) ∧ (g.genU M).length ≤ c ∧ c ≤ maxLen ∧ IntsO w' (fun k => w.heap.size ≤ k ∧ k < w'.heap.size) ((g.genU M).map Int.ofNat) A ∧ Below w.heap.size w w' := by
  obtain ⟨A, cN, hgv, hcN, hcN9, oN⟩ := he
  subst hgv
  obtain ⟨w1, hw1⟩ : ∃ w1, w1 = w.alloc (.cells #[.slice A g.nodes.length cN, .int .i64 g.root] 24) := ⟨_, rfl⟩
  have hsz1 : w1.heap.size = w.heap.size + 1 := by rw [hw1]; simp
  have hb1 : Below w.heap.size w w1 := by rw [hw1]; exact (Below.refl _ _).alloc (Nat.le_refl _) _
  have hq1 : Blk w1 w.heap.size (.cells #[.slice A g.nodes.length cN, .int .i64 g.root] 24 (0, 0)) := by rw [hw1]; exact Blk.new' _ _ _ rfl
  have hz1 : ∀ k, S k → k < w1.heap.size := fun k hk => by have := hS k hk; omega
  have hz2 : ∀ k, S2 k → k < w1.heap.size := fun k hk => by have := hS2 k hk; omega
  have hA1 : NdsO w1 S g.nodes A := NdsO.keep (fun k hk => ⟨hk, hb1.block k (hS k hk)⟩) _ _ oN
  have hI1 : IntsO w1 S2 M mA := IntsO.keep (fun k hk => ⟨hk, hb1.block k (hS2 k hk)⟩) _ _ hI
  have hck := rmcheck_r w1 S S2 g _ M mA mc hz1 ⟨A, cN, rfl, hcN, hcN9, hA1⟩ hz2 hI1 hmc hmm
  have hcell : ∀ W, Below w1.heap.size w1 W → W.cell? ⟨w.heap.size, 0, none⟩ = some (.slice A g.nodes.length cN) ∧ W.cell? ⟨w.heap.size, 1, none⟩ = some (.int .i64 g.root) := fun W hW =>
    ⟨(hW.cell (p := ⟨w.heap.size, 0, none⟩) (by simp only; omega)).trans (hq1.cells.1 0), (hW.cell (p := ⟨w.heap.size, 1, none⟩) (by simp only; omega)).trans (hq1.cells.1 1)⟩
  have HCk := Lib.hid hck
  have HC := Lib.hid hcell
  have HB1 := Lib.hid hb1
  have HA1 := Lib.hid hA1
  have HI1 := Lib.hid hI1
  have HZ1 := Lib.hid hz1
  have HZ2 := Lib.hid hz2
  obtain ⟨c00, c01⟩ := (⟨hq1.cells.1 0, hq1.cells.1 1⟩ : w1.cell? ⟨w.heap.size, 0, none⟩ = some (.slice A g.nodes.length cN) ∧ w1.cell? ⟨w.heap.size, 1, none⟩ = some (.int .i64 g.root))
  clear hS hS2 hI oN hA1 hI1 hck hcell hb1 hq1 hz1 hz2
  by_cases hcd : g.mcode M = 0
  · obtain ⟨hok, hmo⟩ := mcode_ok hcd
    obtain ⟨hMe, hMl⟩ := mono_nat hmo
    have hN := RGr.ok_len hok
    have hU : g.genU M = g.genL (M.map Int.toNat) := by unfold RGr.genU; rw [if_pos hcd]
    rw [hcd, hU]
    rw [hcd] at HCk
    obtain ⟨Mn, hMn⟩ : ∃ Mn, Mn = M.map Int.toNat := ⟨_, rfl⟩
    rw [← hMn] at hMl hMe ⊢
    have hlen : M.length = Mn.length := by rw [hMn, List.length_map]
    have hre : ∀ W, Below w1.heap.size w1 W → Calls Try.prog 27 #[.agg #[.slice A g.nodes.length cN, .int .i64 g.root], .slice mA M.length mc] W fun e w' => ∃ B, e = .returned (.slice (some ⟨B, 0, none⟩) g.nodes.length g.nodes.length) ∧ W.heap.size ≤ B ∧ MetAt w' B g.nodes.length (g.held Mn) ∧ Below W.heap.size W w' := fun W hW => by
      rw [hlen]
      exact from_r W S S2 g _ Mn mA mc hok hMl (fun k hk => Nat.lt_of_lt_of_le (HZ1.out k hk) hW.size) ⟨A, cN, rfl, hcN, hcN9, NdsO.keep (fun k hk => ⟨hk, hW.block k (HZ1.out k hk)⟩) _ _ HA1.out⟩ (fun k hk => Nat.lt_of_lt_of_le (HZ2.out k hk) hW.size) (by rw [← hMe]; exact IntsO.keep (fun k hk => ⟨hk, hW.block k (HZ2.out k hk)⟩) _ _ HI1.out) (by omega) hmm
    obtain ⟨r, hr, hrN⟩ : ∃ r : Nat, g.root = (r : Int) ∧ r < g.nodes.length := ⟨g.root.toNat, by have h := hok; simp only [RGr.ok, Bool.and_eq_true, decide_eq_true_eq] at h; omega, by have h := hok; simp only [RGr.ok, Bool.and_eq_true, decide_eq_true_eq] at h; omega⟩
    have hrr : g.held [r] = g.reach := by
      unfold RGr.held G.heldL
      rw [reach_eq, hr]
      simp
      rfl
    have hfr1 : ∀ W b, Below w1.heap.size w1 W → W.cell? ⟨b, 0, none⟩ = some (.int .i64 g.root) → b < W.heap.size → Calls Try.prog 27 #[.agg #[.slice A g.nodes.length cN, .int .i64 g.root], .slice (some ⟨b, 0, none⟩) 1 1] W fun e w' => ∃ B, e = .returned (.slice (some ⟨B, 0, none⟩) g.nodes.length g.nodes.length) ∧ W.heap.size ≤ B ∧ MetAt w' B g.nodes.length g.reach ∧ Below W.heap.size W w' := fun W b hW hcb hbW => by
      have hcb' : W.cell? ⟨b, 0, none⟩ = some (.int .i64 (r : Int)) := by rw [← hr]; exact hcb
      rw [← hrr]
      exact from_r W S (fun k => k = b) g _ [r] (some ⟨b, 0, none⟩) 1 hok (fun m hm => by rw [List.mem_singleton.1 hm]; exact hrN) (fun k hk => Nat.lt_of_lt_of_le (HZ1.out k hk) hW.size) ⟨A, cN, rfl, hcN, hcN9, NdsO.keep (fun k hk => ⟨hk, hW.block k (HZ1.out k hk)⟩) _ _ HA1.out⟩ (fun k hk => by rw [hk]; exact hbW) ⟨b, 0, rfl, rfl, hcb', trivial⟩ (Nat.le_refl _) (by unfold maxLen; omega)
    have HFr := Lib.hid hfr1
    have HRe := Lib.hid hre
    have HOk := Lib.hid hok
    have hgl := genL_len (g := g) (M := Mn)
    obtain ⟨i0, hi, hz0, hz1, hz2⟩ := info_parts infoInt
    unfold maxLen at hcN9 hmm
    clear hre hfr1 hrr hr hrN hok hmo hMl hMe hMn hU hcd hlen
    go_enter Try.func12, Try.ntmps12
    go_wp2_with fail
    rw [← hw1]
    clear hw1
    with_reducible refine HCk.out.mono ?_
    rintro e w2 ⟨rfl, hb2⟩
    obtain ⟨c2, c21⟩ := HC.out w2 hb2
    have hre2 := HRe.out w2 hb2
    have HRe2 := Lib.hid hre2
    have HB2 := Lib.hid hb2
    have hz12 := hb2.size
    clear hb2 hre2 c00 c01 HRe HCk
    go_wp2_with fail
    with_reducible refine HRe2.out.mono ?_
    rintro e w3 ⟨B, rfl, g1, g2, g4⟩
    have HM3 := Lib.hid g2
    have hz23 := g4.size
    have hb13 := HB2.out.trans (g4.mono hz12)
    have HB13 := Lib.hid hb13
    have hBz : B < w3.heap.size := (Array.getElem?_eq_some_iff.1 g2).1
    obtain ⟨c3, c31⟩ := HC.out w3 hb13
    clear g2 g4 HRe2 hb13 c2 c21
    go_wp2_with (first | (go_at_call 27; (with_reducible refine (HFr.out (w3.alloc (.cells #[.int .i64 g.root] 3)) w3.heap.size (HB13.out.alloc (by omega) _) ?_ (by simp)).mono ?_); (· exact gcell_new _ _ _ _ rfl 0 _ rfl); rintro e w4 ⟨B2, rfl, e1, e2, e4⟩; have HM4 := Lib.hid e2; have hz34 := e4.size; have HB4 := Lib.hid ((HB13.out.alloc (by omega) (.cells #[.int .i64 g.root] 3)).trans (e4.mono (by simp; omega))); have hBz2 : B2 < w4.heap.size := (Array.getElem?_eq_some_iff.1 e2).1; have HM34 := Lib.hid ((e4.block B (by simp; omega)).trans ((Below.heap_alloc w3 _ _ hBz).trans HM3.out) : MetAt w4 B g.nodes.length (g.held Mn)); clear e2 e4 c3 c31))
    go_loopw [8, 26] (fun s i wr => ∃ (k : Nat) (es : List Nat), i = .int .i64 k ∧ k ≤ g.nodes.length ∧ es ++ ((List.range g.nodes.length).drop k).filter (fun x => decide (x ∈ g.reach) && (!g.isHeld Mn x && g.fr x)) = g.genL Mn ∧ RowG srtI 3 w4.heap.size wr (fun _ => False) s (es.map Int.ofNat) ∧ Below w4.heap.size w4 wr) (fun _ i _ => g.nodes.length - (intOf i).toNat)
    case atStart => exact ⟨0, [], rfl, Nat.zero_le _, by rw [List.drop_zero, List.nil_append]; rfl, RowG.nil _ _ _, Below.refl _ _⟩
    case round =>
      obtain ⟨k, es, rfl, hk, hq, hrw, hb⟩ := hrel
      have HQ := Lib.hid hq
      have HR := Lib.hid hrw
      have HB := Lib.hid hb
      have hb1 := HB4.out.trans (hb.mono HB4.out.size)
      have HBa := Lib.hid hb1
      obtain ⟨cw, cw1⟩ := HC.out wr hb1
      have hzw := hb.size
      have hm3 : MetAt wr B g.nodes.length (g.held Mn) := (hb.block _ (by simp at hz34; omega)).trans HM34.out
      have hm4 : MetAt wr B2 g.nodes.length g.reach := (hb.block _ hBz2).trans HM4.out
      have HMw := Lib.hid hm3
      clear hq hrw hb hb1
      by_cases hlt : k < g.nodes.length
      · obtain ⟨m1, m2⟩ := hm3.cell k hlt
        obtain ⟨n1, n2⟩ := hm4.cell k hlt
        rw [show decide (k ∈ g.held Mn) = g.isHeld Mn k from rfl] at m1
        have hd : ((List.range g.nodes.length).drop k).filter (fun x => decide (x ∈ g.reach) && (!g.isHeld Mn x && g.fr x)) = (if (decide (k ∈ g.reach) && (!g.isHeld Mn k && g.fr k)) = true then [k] else []) ++ ((List.range g.nodes.length).drop (k + 1)).filter (fun x => decide (x ∈ g.reach) && (!g.isHeld Mn x && g.fr x)) := by
          rw [range_drop hlt, List.filter_cons]
          split <;> rfl
        have hfr := g.fr_eq k hlt
        obtain ⟨b, o, hAe, hnp⟩ := NdsO.get _ _ (NdsO.keep (S' := S) (fun k hk => ⟨hk, HBa.out.block k (HZ1.out k hk)⟩) _ _ HA1.out) k hlt
        obtain ⟨x, hx⟩ : ∃ x, x = g.nodes[k] := ⟨_, rfl⟩
        rw [← hx] at hnp hfr
        obtain ⟨xA, yA, xL, yL, f0, f1, f2, f3, f4, hvv⟩ := hnp.val
        have hq := HQ.out
        rw [hd, hfr] at hq
        subst hAe
        clear hd hx hnp hm3 hm4 hvv
        obtain ⟨hh, hhe⟩ : ∃ hh, hh = g.isHeld Mn k := ⟨_, rfl⟩
        obtain ⟨ff, hfe⟩ : ∃ ff, ff = x.free := ⟨_, rfl⟩
        obtain ⟨rr, hre⟩ : ∃ rr, rr = decide (k ∈ g.reach) := ⟨_, rfl⟩
        rw [← hhe] at m1
        rw [← hre] at n1
        rw [← hhe, ← hfe, ← hre] at hq
        have HFX := Lib.hid hfe
        clear hhe hfe hfr hre
        rcases rr with _ | _
        · have HQ' := Lib.hid (by simpa using hq : es ++ ((List.range g.nodes.length).drop (k + 1)).filter (fun x => decide (x ∈ g.reach) && (!g.isHeld Mn x && g.fr x)) = g.genL Mn)
          clear hq
          go_wp2
          go_roundw
          case rel => exact ⟨k + 1, es, by go_num, by omega, HQ'.out, HR.out, HB.out⟩
          case measure => simp [intOf]; omega
        rcases hh with _ | _
        rotate_left
        · have HQ' := Lib.hid (by simpa using hq : es ++ ((List.range g.nodes.length).drop (k + 1)).filter (fun x => decide (x ∈ g.reach) && (!g.isHeld Mn x && g.fr x)) = g.genL Mn)
          clear hq
          go_wp2
          go_roundw
          case rel => exact ⟨k + 1, es, by go_num, by omega, HQ'.out, HR.out, HB.out⟩
          case measure => simp [intOf]; omega
        · rcases ff with _ | _
          · have HQ' := Lib.hid (by simpa using hq : es ++ ((List.range g.nodes.length).drop (k + 1)).filter (fun x => decide (x ∈ g.reach) && (!g.isHeld Mn x && g.fr x)) = g.genL Mn)
            clear hq
            go_wp2_with (go_at_call 28; refine (isFree_r _ x xA xL _ _ _ _).mono ?_; rw [← HFX.out]; rintro e w5 ⟨rfl, hb5⟩; have HB5 := Lib.hid hb5; clear hb5)
            go_roundw
            case rel => exact ⟨k + 1, es, by go_num, by omega, HQ'.out, HR.out.keep (F := fun _ => False) (Keeps.of_below0 HB5.out) (fun _ e _ => e.elim), HB.out.trans (HB5.out.mono HB.out.size)⟩
            case measure => simp [intOf]; omega
          · have hq' : (es ++ [k]) ++ ((List.range g.nodes.length).drop (k + 1)).filter (fun x => decide (x ∈ g.reach) && (!g.isHeld Mn x && g.fr x)) = g.genL Mn := by rw [← hq]; simp
            have hel : (es.map Int.ofNat).length + [(k : Int)].length ≤ 2000000 := by
              have h1 := congrArg List.length hq'
              simp only [List.length_append, List.length_singleton] at h1
              simp only [List.length_map, List.length_singleton]
              omega
            have HEl := Lib.hid hel
            have HQ' := Lib.hid hq'
            clear hq hq' hel
            go_wp2_with (first | (go_at_call 28; refine (isFree_r _ x xA xL _ _ _ _).mono ?_; rw [← HFX.out]; rintro e w5 ⟨rfl, hb5⟩; have HB5 := Lib.hid hb5; have HRow5 := Lib.hid (HR.out.keep (F := fun _ => False) ((Keeps.of_below0 hb5).alloc (.cells #[.int .i64 k] 3)) (fun _ e _ => e.elim)); have hz5 : w4.heap.size ≤ w5.heap.size := Nat.le_trans HB.out.size hb5.size; clear hb5) | (at_builtin; go_loud (refine wpList_growB (T := srtI) (ms := [(k : Int)]) rfl (.tmp 47) (.tmp 49) 25 3 rfl i0 _ 8 Try.underlying25 hi hz0 hz1 hz2 rfl rfl HRow5.out ⟨w5.heap.size, 0, none⟩ 1 [.int .i64 k] rfl (fun j u hj => gcell_new _ _ _ _ rfl j u hj) (Items.one srtI rfl) ?_ ?_ ?_ (by simp) ?_; (· have := HEl.out; simp [maxLen] at this ⊢; omega); (· have := HEl.out; simp at this ⊢; omega); (· simp; omega)); intro v6 w6 hrow6 hk6 hb6; have HRow6 := Lib.hid hrow6; have HB6 := Lib.hid ((HB.out.trans ((HB5.out.alloc (Nat.le_trans (Nat.le_refl _) HB5.out.size) (.cells #[.int .i64 k] 3)).mono HB.out.size)).trans (hk6.below (by simp; omega) (fun i hi e => by have := (HRow5.out.block e).1; omega))); clear hrow6 hk6 hb6))
            go_roundw
            case rel => exact ⟨k + 1, es ++ [k], by go_num, by omega, HQ'.out, by have h := HRow6.out; rw [List.map_append]; exact h, HB6.out⟩
            case measure => simp [intOf]; omega
      · have hk' : k = g.nodes.length := by omega
        have hes : es = g.genL Mn := by have h := HQ.out; rw [hk', List.drop_of_length_le (by simp)] at h; simpa using h
        clear hk' hm3 hm4
        obtain ⟨A9, c9, rfl, h1, h2, h3⟩ := HR.out.ints (S' := fun k => w.heap.size ≤ k ∧ k < wr.heap.size) (fun _ e => e.elim) (fun k h1 h2 => ⟨by have := HB4.out.size; omega, h2⟩)
        rw [List.length_map, hes] at h1
        rw [hes] at h3
        rw [List.length_map, hes]
        have H3 := Lib.hid h3
        clear h3
        go_wp2
        go_ret2
        exact ⟨A9, c9, rfl, h1, h2, H3.out, HB1.out.trans (HBa.out.mono (by omega))⟩
  · have hU : g.genU M = [] := by unfold RGr.genU; rw [if_neg hcd]
    rw [hU]
    obtain ⟨cd, hcde⟩ : ∃ cd, cd = g.mcode M := ⟨_, rfl⟩
    rw [← hcde] at hcd HCk ⊢
    unfold maxLen at hcN9 hmm
    clear hcde hU
    go_enter Try.func12, Try.ntmps12
    go_wp2_with fail
    rw [← hw1]
    clear hw1
    with_reducible refine HCk.out.mono ?_
    rintro e w2 ⟨rfl, hb2⟩
    have HB2 := Lib.hid hb2
    clear hb2
    go_wp2
    go_ret2
    exact ⟨none, 0, rfl, Nat.le_refl _, Nat.zero_le _, trivial, HB1.out.trans (HB2.out.mono (by omega))⟩
end Go.Proofs.Ytnhdgndjpkdhdaa

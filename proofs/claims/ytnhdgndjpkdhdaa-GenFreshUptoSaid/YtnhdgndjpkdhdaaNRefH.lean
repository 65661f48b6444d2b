/-
  trefoilref13.Fresh.
-/
import Derived.Test.YtnhdgndjpkdhdaaNFromM
import Derived.Test.YtnhdgndjpkdhdaaNFreshC
import Derived.Test.YtnhdgndjpkdhdaaNCpf
namespace Go.Proofs.Ytnhdgndjpkdhdaa
open Go.RowKit Go.Shelf

theorem blkNew' {W : World} {b : Nat} {x : Value} {t : TypeId} (h : Blk W b (.cells #[x] t (0, 0))) : ∀ j u, [x][j]? = some u → W.cell? ((⟨b, 0, none⟩ : Addr).add j) = some u := fun j u hj => by
  rw [add_plain', h.cells.1]
  cases j with
  | zero => simpa using hj
  | succ j => simp at hj
theorem anyRange_step (p : Nat → Bool) (j : Nat) : (List.range (j + 1)).any p = ((List.range j).any p || p j) := by
  rw [List.range_succ, List.any_append]
  simp

theorem toK_snoc {N : Nat} {C : List Nat} {x : Nat} (hx : x ∉ C) (i : Nat) : toK N (C ++ [x]) (C ++ [x]).length i = if i = x then N + C.length else toK N C C.length i := by
  unfold toK
  rw [List.take_length, List.take_length]
  by_cases e : i = x
  · subst e
    rw [if_pos (by simp), if_pos rfl, List.idxOf_append, if_neg hx]
    simp
  · rw [if_neg e]
    by_cases h : i ∈ C
    · rw [if_pos (by simp [h]), if_pos h, List.idxOf_append, if_pos h]
    · rw [if_neg (by simp [h, e]), if_neg h]
theorem genrl_any {g : RGr} (h : g.ok = true) (M : List Nat) {x : Nat} (hx : x < g.nodes.length) : ((List.range g.nodes.length).any fun y => decide (y ∈ g.held [x]) && decide (y ∈ g.genL M)) = g.genrl M x := by
  have hh : g.held [x] = G.visit g.fa (g.nodes.length + 1) x [] := by
    unfold RGr.held G.heldL
    simp
  rw [hh]
  unfold RGr.genrl
  rw [Bool.eq_iff_iff, List.any_eq_true, List.any_eq_true]
  constructor
  · rintro ⟨y, _, h2⟩
    simp only [Bool.and_eq_true, decide_eq_true_eq] at h2
    exact ⟨y, h2.1, by simpa using h2.2⟩
  · rintro ⟨y, h1, h2⟩
    exact ⟨y, by simpa using ((G.mem_visit (fa_lt h) hx y).1 h1).lt (fa_lt h) hx, by simp only [Bool.and_eq_true, decide_eq_true_eq] at h2 ⊢; exact ⟨h1, h2⟩⟩
theorem filter_step {α : Type} (O : List α) (p : α → Bool) (k : Nat) (hk : k < O.length) : (O.take (k + 1)).filter p = (O.take k).filter p ++ (if p O[k] = true then [O[k]] else []) := by
  rw [List.take_add_one, List.getElem?_eq_getElem hk, List.filter_append]
  simp only [Option.toList_some, List.filter_cons, List.filter_nil]
theorem not_mem_take {α : Type} {O : List α} (hn : O.Nodup) (k : Nat) (hk : k < O.length) : O[k] ∉ O.take k := by
  intro hm
  obtain ⟨i, hi, e⟩ := List.getElem_of_mem hm
  rw [List.getElem_take] at e
  have hi' : i < k := by simp at hi; omega
  exact absurd ((List.getElem_inj hn).1 e) (by omega)

set_option maxRecDepth 100000 in
set_option maxHeartbeats 4000000 in
theorem rFresh_r (w : World) (S S2 : Nat → Prop) (g : RGr) (gv : Value) (M : List Int) (mA : Option Addr) (mc : Nat) (hF : g.fits) (hS : ∀ k, S k → k < w.heap.size) (he : GrV w S g gv)
    (hS2 : ∀ k, S2 k → k < w.heap.size) (hI : IntsO w S2 M mA) (hmc : M.length ≤ mc) (hmm : mc ≤ maxLen) :
    Calls Try.prog 14 #[gv, .slice mA M.length mc] w fun e w' => ∃ v', e = .returned (.tuple #[v', .int .i64 (g.fcode M)]) ∧ GrV w' (fun k => S k ∨ (w.heap.size ≤ k ∧ k < w'.heap.size)) (g.freshU M) v' ∧ Below w.heap.size w w' := by
  obtain ⟨A, cN, hgv, hcN, hcN9, oN⟩ := he
  subst hgv
  obtain ⟨w1, hw1⟩ : ∃ w1, w1 = (w.alloc (.cells #[.slice A g.nodes.length cN, .int .i64 g.root] 24)).alloc (.cells #[.slice none 0 0, .int .i64 0] 24) := ⟨_, rfl⟩
  have hsz1 : w1.heap.size = w.heap.size + 2 := by rw [hw1]; simp
  have hb1 : Below w.heap.size w w1 := by rw [hw1]; exact ((Below.refl _ _).alloc (Nat.le_refl _) _).alloc (by simp) _
  have hq1 : Blk w1 w.heap.size (.cells #[.slice A g.nodes.length cN, .int .i64 g.root] 24 (0, 0)) := by rw [hw1]; exact (Blk.new' _ _ _ rfl).alloc _
  have hq2 : Blk w1 (w.heap.size + 1) (.cells #[.slice none 0 0, .int .i64 0] 24 (0, 0)) := by rw [hw1]; exact Blk.new' _ _ _ (by simp)
  have hz1 : ∀ k, S k → k < w1.heap.size := fun k hk => by have := hS k hk; omega
  have hz2 : ∀ k, S2 k → k < w1.heap.size := fun k hk => by have := hS2 k hk; omega
  have hA1 : NdsO w1 S g.nodes A := NdsO.keep (fun k hk => ⟨hk, hb1.block k (hS k hk)⟩) _ _ oN
  have hI1 : IntsO w1 S2 M mA := IntsO.keep (fun k hk => ⟨hk, hb1.block k (hS2 k hk)⟩) _ _ hI
  have hge := rgeneric_r w1 S S2 g _ M mA mc hz1 ⟨A, cN, rfl, hcN, hcN9, hA1⟩ hz2 hI1 hmc hmm
  have hblk : ∀ W, Below w1.heap.size w1 W → Blk W w.heap.size (.cells #[.slice A g.nodes.length cN, .int .i64 g.root] 24 (0, 0)) ∧ Blk W (w.heap.size + 1) (.cells #[.slice none 0 0, .int .i64 0] 24 (0, 0)) := fun W hW =>
    ⟨(hW.block _ (by omega)).trans hq1, (hW.block _ (by omega)).trans hq2⟩
  have HGe := Lib.hid hge
  have HBlk := Lib.hid hblk
  have HB1 := Lib.hid hb1
  have HA1 := Lib.hid hA1
  have HZ1 := Lib.hid hz1
  have HS0 := Lib.hid hS
  obtain ⟨c00, c01⟩ := (⟨hq1.cells.1 0, hq1.cells.1 1⟩ : w1.cell? ⟨w.heap.size, 0, none⟩ = some (.slice A g.nodes.length cN) ∧ w1.cell? ⟨w.heap.size, 1, none⟩ = some (.int .i64 g.root))
  clear hS hS2 hI oN hA1 hI1 hge hblk hb1 hq1 hq2 hz1 hz2
  by_cases hcd : g.mcode M = 0
  · obtain ⟨hok, hmo⟩ := mcode_ok hcd
    have hN := RGr.ok_len hok
    obtain ⟨Mn, hMn⟩ : ∃ Mn, Mn = M.map Int.toNat := ⟨_, rfl⟩
    have hU2 : g.fcode M = if g.nodes.length + (g.copL Mn).length ≤ 1048576 then 0 else 3 := by unfold RGr.fcode; rw [if_pos hcd, hMn]
    have hU : g.freshU M = if g.fcode M = 0 then g.freshOf (g.copL Mn) else ⟨[], 0⟩ := by unfold RGr.freshU; rw [hMn]
    have hGU : g.genU M = g.genL Mn := by unfold RGr.genU; rw [if_pos hcd, hMn]
    rw [hcd, hGU] at HGe
    have hfr1 : ∀ W b x, Below w1.heap.size w1 W → x < g.nodes.length → W.cell? ⟨b, 0, none⟩ = some (.int .i64 (x : Int)) → b < W.heap.size → Calls Try.prog 27 #[.agg #[.slice A g.nodes.length cN, .int .i64 g.root], .slice (some ⟨b, 0, none⟩) 1 1] W fun e w' => ∃ B, e = .returned (.slice (some ⟨B, 0, none⟩) g.nodes.length g.nodes.length) ∧ W.heap.size ≤ B ∧ MetAt w' B g.nodes.length (g.held [x]) ∧ Below W.heap.size W w' := fun W b x hW hxN hcb hbW =>
      from_r W S (fun k => k = b) g _ [x] (some ⟨b, 0, none⟩) 1 hok (fun m hm => by rw [List.mem_singleton.1 hm]; exact hxN) (fun k hk => Nat.lt_of_lt_of_le (HZ1.out k hk) hW.size) ⟨A, cN, rfl, hcN, hcN9, NdsO.keep (fun k hk => ⟨hk, hW.block k (HZ1.out k hk)⟩) _ _ HA1.out⟩ (fun k hk => by rw [hk]; exact hbW) ⟨b, 0, rfl, rfl, hcb, trivial⟩ (Nat.le_refl _) (by unfold maxLen; omega)
    have hre : ∀ W, Below w1.heap.size w1 W → Calls Try.prog 35 #[.agg #[.slice A g.nodes.length cN, .int .i64 g.root]] W fun e w' => ∃ A c, e = .returned (.slice A g.reach.length c) ∧ g.reach.length ≤ c ∧ c ≤ maxLen ∧ IntsO w' (fun k => W.heap.size ≤ k ∧ k < w'.heap.size) (g.reach.map Int.ofNat) A ∧ Below W.heap.size W w' := fun W hW =>
      greach_r W S g _ hok (fun k hk => Nat.lt_of_lt_of_le (HZ1.out k hk) hW.size) ⟨A, cN, rfl, hcN, hcN9, NdsO.keep (fun k hk => ⟨hk, hW.block k (HZ1.out k hk)⟩) _ _ HA1.out⟩
    have HFr := Lib.hid hfr1
    have HRe := Lib.hid hre
    have HOk := Lib.hid hok
    have HU := Lib.hid hU
    have HU2 := Lib.hid hU2
    have hmk1 := fun W => makeMet W g.nodes.length (by omega)
    have HMk1 := Lib.hid hmk1
    unfold maxLen at hcN9 hmm
    clear hfr1 hre hok hmo hMn hU hU2 hcd hGU hmk1
    go_enter Try.func14, Try.ntmps14
    go_wp2_with fail
    rw [← hw1]
    clear hw1
    with_reducible refine HGe.out.mono ?_
    rintro e w2 ⟨lA, lc, rfl, h1, h2, h3, hb2⟩
    have HL := Lib.hid h3
    have HB2 := Lib.hid hb2
    have hz12 := hb2.size
    obtain ⟨r0, r1⟩ := HBlk.out w2 hb2
    have c20 := r0.cells.1 0
    have c21 := r0.cells.1 1
    have hm2 := HMk1.out w2
    unfold maxLen at h2
    clear h3 hb2 r0 r1 c00 c01 HGe
    go_wp2_with fail
    have hm3 : MetAt (w2.alloc (.cells (metCells g.nodes.length []) 4)) w2.heap.size g.nodes.length [] := Blk.new' _ _ _ rfl
    have hb3 : BelC w2 (w2.alloc (.cells (metCells g.nodes.length []) 4)) := (BelC.refl w2).alloc _
    obtain ⟨w3, hw3⟩ : ∃ w3, w3 = w2.alloc (.cells (metCells g.nodes.length []) 4) := ⟨_, rfl⟩
    have hsz3 : w3.heap.size = w2.heap.size + 1 := by rw [hw3]; simp
    rw [← hw3] at hm3 hb3 ⊢
    have HM3 := Lib.hid hm3
    have HB3 := Lib.hid (HB2.out.trans (Below.mono hb3 hz12))
    have HL3 := Lib.hid (IntsO.keep (fun k hk => ⟨hk, Below.block hb3 k hk.2⟩) _ _ HL.out)
    obtain ⟨l, hl⟩ : ∃ l, l = g.genL Mn := ⟨_, rfl⟩
    have hlN : ∀ y, y ∈ l → y < g.nodes.length := by rw [hl]; exact fun y hy => genL_lt y hy
    rw [← hl] at HL3 h1 ⊢
    have HLN := Lib.hid hlN
    have HLe := Lib.hid hl
    clear hm2 hm3 hb3 hw3 hlN hl HL c20 c21 HMk1
    go_loopw [40] (fun v40 wr => ∃ j : Nat, v40 = .int .i64 j ∧ j ≤ l.length ∧ MetAt wr w2.heap.size g.nodes.length (l.take j) ∧ Keeps (fun i => i = w2.heap.size) w3 wr) (fun v40 _ => l.length - (intOf v40).toNat)
    case atStart => exact ⟨0, rfl, Nat.zero_le _, HM3.out, Keeps.refl _ _⟩
    case round =>
      obtain ⟨j, rfl, hj, hm, hkp⟩ := hrel
      have hz3 := hkp.size
      by_cases hlt : j < l.length
      · obtain ⟨b3, o3, rfl, _, d2⟩ := IntsO.get _ _ (IntsO.keep (S' := fun i => w1.heap.size ≤ i ∧ i < w2.heap.size) (fun i hi => ⟨hi, hkp.block i (by omega) (by omega)⟩) _ _ HL3.out) j (by simpa using hlt)
        rw [List.getElem_map] at d2
        have hyN := HLN.out _ (List.getElem_mem hlt)
        have htk : l.take (j + 1) = l.take j ++ [l[j]] := by rw [List.take_add_one, List.getElem?_eq_getElem hlt]; rfl
        obtain ⟨y, hy⟩ : ∃ y, y = l[j] := ⟨_, rfl⟩
        rw [← hy] at d2 hyN htk
        have d2' : wr.cell? ⟨b3, o3 + j, none⟩ = some (.int .i64 (y : Int)) := d2
        obtain ⟨m1, m2⟩ := hm.cell y hyN
        have hset := hm.set y
        rw [← htk] at hset
        have hk6 : Keeps (fun i => i = w2.heap.size) w3 (wr.setCell ⟨w2.heap.size, y, none⟩ (.bool true)) := hkp.setCell (p := ⟨w2.heap.size, y, none⟩) (fun _ => rfl) _
        have HSet := Lib.hid hset
        have HK6 := Lib.hid hk6
        obtain ⟨bb, hbb⟩ : ∃ bb, bb = decide (y ∈ l.take j) := ⟨_, rfl⟩
        rw [← hbb] at m1
        clear hm hset hk6 hkp d2 htk hbb hy
        go_wp2
        go_roundw
        case rel => exact ⟨j + 1, by go_num, by omega, HSet.out, HK6.out⟩
        case measure => simp [intOf]; omega
      · have hj' : j = l.length := by omega
        rw [hj', List.take_length] at hm
        have hb4 : Below w1.heap.size w1 wr := HB3.out.trans (hkp.below (by omega) (fun i hi e => by omega))
        obtain ⟨r0, r1⟩ := HBlk.out wr hb4
        have c40 := r0.cells.1 0
        have hmk := makeNum wr g.nodes.length (by omega)
        obtain ⟨w5, hw5⟩ : ∃ w5, w5 = wr.alloc (.cells (numCells g.nodes.length (fun _ => 0)) 3) := ⟨_, rfl⟩
        obtain ⟨Bt, hBt⟩ : ∃ Bt, Bt = wr.heap.size := ⟨_, rfl⟩
        have hn5 : NumAt w5 Bt g.nodes.length (fun _ => 0) := by rw [hw5, hBt]; exact Blk.new' _ _ _ rfl
        have hm5 : MetAt w5 w2.heap.size g.nodes.length l := by rw [hw5]; exact (Below.heap_alloc wr _ _ (by omega)).trans hm
        have hb5 : Below w1.heap.size w1 w5 := by rw [hw5]; exact hb4.alloc (by have := hb4.size; omega) _
        have hsz5 : w5.heap.size = Bt + 1 := by rw [hw5, hBt]; simp
        rw [← hw5, ← hBt] at hmk
        have HN5 := Lib.hid hn5
        have HM5 := Lib.hid hm5
        have HB5 := Lib.hid hb5
        rw [← hBt] at hz3
        clear hn5 hm5 hb5 hb4 hm hkp r0 r1 hw5 hBt
        go_wp2_with fail
        go_loopw [54] (fun v54 wr => ∃ i : Nat, v54 = .int .i64 i ∧ i ≤ g.nodes.length ∧ NumAt wr Bt g.nodes.length (fun x => if x < i then x else 0) ∧ Keeps (fun q => q = Bt) w5 wr) (fun v54 _ => g.nodes.length - (intOf v54).toNat)
        case atStart => exact ⟨0, rfl, Nat.zero_le _, by simpa using HN5.out, Keeps.refl _ _⟩
        case round =>
          obtain ⟨i, rfl, hi, hn, hkp⟩ := hrel
          by_cases hlt2 : i < g.nodes.length
          · obtain ⟨n1, n2⟩ := hn.cell i hlt2
            have hset := hn.set i i (fun x => if x < i + 1 then x else 0) (fun x hx => by
              by_cases e : x = i
              · subst e; simp
              · rw [if_neg e]
                by_cases e2 : x < i
                · rw [if_pos e2, if_pos (by omega)]
                · rw [if_neg e2, if_neg (by omega)])
            have hk6 : Keeps (fun q => q = Bt) w5 (wr.setCell ⟨Bt, i, none⟩ (.int .i64 (i : Nat))) := hkp.setCell (p := ⟨Bt, i, none⟩) (fun _ => rfl) _
            have HSet := Lib.hid hset
            have HK6 := Lib.hid hk6
            clear hn hset hk6 hkp
            go_wp2
            go_roundw
            case rel => exact ⟨i + 1, by go_num, by omega, HSet.out, HK6.out⟩
            case measure => simp [intOf]; omega
          · have hi' : i = g.nodes.length := by omega
            have hn' : NumAt wr Bt g.nodes.length (toK g.nodes.length [] 0) := hn.congrE (fun x hx => by rw [toK_zero, if_pos (by omega)])
            have hz5 := hkp.size
            have hb6 : Below w1.heap.size w1 wr := HB5.out.trans (hkp.below (by omega) (fun q hq e => by omega))
            have hm6 : MetAt wr w2.heap.size g.nodes.length l := (hkp.block _ (by omega) (by omega)).trans HM5.out
            obtain ⟨r0, r1⟩ := HBlk.out wr hb6
            have c60 := r0.cells.1 0
            have c61 := r0.cells.1 1
            have hre := HRe.out wr hb6
            have HRe6 := Lib.hid hre
            have HN6 := Lib.hid hn'
            have HM6 := Lib.hid hm6
            have HB6 := Lib.hid hb6
            obtain ⟨n6, hn6⟩ : ∃ n, n = wr.heap.size := ⟨_, rfl⟩
            have HE6 := Lib.hid hn6
            clear hn hn' hm6 hb6 hkp r0 r1 hre hi' hn6 HN5 HM5 HB5 c40
            go_wp2_with fail
            with_reducible refine HRe6.out.mono ?_
            rintro e w7 ⟨oA, oc, rfl, o1, o2, o3, hb7⟩
            have hz7 := hb7.size
            have HN7 := Lib.hid ((hb7.block Bt (by omega)).trans HN6.out : NumAt w7 Bt g.nodes.length (toK g.nodes.length [] 0))
            have HM7 := Lib.hid ((hb7.block w2.heap.size (by omega)).trans HM6.out : MetAt w7 w2.heap.size g.nodes.length l)
            rw [← HE6.out] at o3 hz7 hz5
            have HO := Lib.hid o3
            have HB7 := Lib.hid (HB6.out.trans (hb7.mono HB6.out.size))
            unfold maxLen at o2
            clear o3 hb7 c60 c61
            go_wp2_with fail
            obtain ⟨i0, hi0, hz0, hz1, hz2⟩ := info_parts infoInt
            obtain ⟨O, hO⟩ : ∃ O, O = g.reach := ⟨_, rfl⟩
            obtain ⟨pg, hpg⟩ : ∃ pg, pg = g.genrl Mn := ⟨_, rfl⟩
            have hOf := reach_facts HOk.out
            have hcopE : O.filter pg = g.copL Mn := by rw [hO, hpg]; rfl
            rw [← hO] at hOf o1 HO ⊢
            have hOl : O.length ≤ 1048576 := Nat.le_trans hOf.2.2.1 hN
            have HOf := Lib.hid hOf
            have HCopE := Lib.hid hcopE
            have hpa : ∀ x, x < g.nodes.length → ((List.range g.nodes.length).any fun y => decide (y ∈ g.held [x]) && decide (y ∈ l)) = pg x := fun x hx => by rw [hpg, HLe.out]; exact genrl_any HOk.out Mn hx
            have HPa := Lib.hid hpa
            have hcell : ∀ W, Below w1.heap.size w1 W → W.cell? ⟨w.heap.size, 0, none⟩ = some (.slice A g.nodes.length cN) ∧ W.cell? ⟨w.heap.size, 1, none⟩ = some (.int .i64 g.root) := fun W hW => ⟨(HBlk.out W hW).1.cells.1 0, (HBlk.out W hW).1.cells.1 1⟩
            have HC := Lib.hid hcell
            clear hO hpg hOf hcopE hpa hcell HL3 HLN HB3 HB2 HM3 HRe6 HN6 HM6 HB6 HE6
            go_loopw [15, 69] (fun v15 v69 wr => ∃ (k : Nat) (C : List Nat), v69 = .int .i64 k ∧ k ≤ O.length ∧ C = (O.take k).filter pg ∧ NumAt wr Bt g.nodes.length (toK g.nodes.length C C.length) ∧ RowG srtI 3 w7.heap.size wr (fun _ => False) v15 (C.map Int.ofNat) ∧ Keeps (fun q => q = Bt ∨ w7.heap.size ≤ q) w7 wr) (fun _ v69 _ => O.length - (intOf v69).toNat)
            case atStart => exact ⟨0, [], rfl, Nat.zero_le _, by simp, HN7.out, RowG.nil _ _ _, Keeps.refl _ _⟩
            case round =>
              obtain ⟨k, C, rfl, hk, hCe, hnum, hrow, hkp⟩ := hrel
              have hzr := hkp.size
              have hbw : Below w1.heap.size w1 wr := HB7.out.trans (hkp.below (by omega) (fun q hq e => by omega))
              have HBw := Lib.hid hbw
              have HNum := Lib.hid hnum
              have HRow := Lib.hid hrow
              have HKp := Lib.hid hkp
              have HCe := Lib.hid hCe
              have hMw : MetAt wr w2.heap.size g.nodes.length l := (hkp.block _ (by omega) (by omega)).trans HM7.out
              have HMw := Lib.hid hMw
              by_cases hlt3 : k < O.length
              · obtain ⟨b3, o3, rfl, _, d2⟩ := IntsO.get _ _ (IntsO.keep (S' := fun i => n6 ≤ i ∧ i < w7.heap.size) (fun i hi => ⟨hi, hkp.block i hi.2 (by omega)⟩) _ _ HO.out) k (by simpa using hlt3)
                rw [List.getElem_map] at d2
                have hxN := HOf.out.2.1 _ (List.getElem_mem hlt3)
                have hfs := filter_step O pg k hlt3
                have hnt := not_mem_take HOf.out.1 k hlt3
                obtain ⟨x, hx⟩ : ∃ x, x = O[k] := ⟨_, rfl⟩
                rw [← hx] at d2 hxN hfs hnt
                rw [← hCe] at hfs
                have d2' : wr.cell? ⟨b3, o3 + k, none⟩ = some (.int .i64 (x : Int)) := d2
                have hxC : x ∉ C := fun e => hnt (by rw [hCe] at e; exact (List.mem_filter.1 e).1)
                obtain ⟨c70, c71⟩ := HC.out wr hbw
                have hfrx := HFr.out (wr.alloc (.cells #[.int .i64 (x : Int)] 3)) wr.heap.size x (hbw.alloc (by omega) _) hxN (gcell_new _ _ _ _ rfl 0 _ rfl) (by simp)
                have HFrx := Lib.hid hfrx
                have HFs := Lib.hid hfs
                have HXC := Lib.hid hxC
                obtain ⟨vA, vc, hv0, hvc, hvm⟩ := hrow.form
                rw [List.length_map] at hv0
                subst hv0
                clear hbw hnum hrow hkp hCe hMw d2 hfs hnt hx hxC hfrx
                go_wp2_with fail
                with_reducible refine HFrx.out.mono ?_
                rintro e w8 ⟨B3, rfl, e1, e2, hb8⟩
                have hz8 : wr.heap.size + 1 ≤ w8.heap.size := by have := hb8.size; simpa using this
                have hk8 : Keeps (fun _ => False) wr w8 := ((Keeps.refl (fun _ => False) wr).alloc _).trans (Keeps.of_below0 hb8)
                have hN8 : NumAt w8 Bt g.nodes.length (toK g.nodes.length C C.length) := (hk8.block Bt (by omega) id).trans HNum.out
                have hM8 : MetAt w8 w2.heap.size g.nodes.length l := (hk8.block w2.heap.size (by omega) id).trans HMw.out
                have hR8 := HRow.out.keep (F := fun _ => False) hk8 (fun _ e _ => e.elim)
                have hK8 : Keeps (fun q => q = Bt ∨ w7.heap.size ≤ q) w7 w8 := HKp.out.trans (hk8.mono (fun _ _ e => e.elim))
                have HN8 := Lib.hid hN8
                have HM8 := Lib.hid hM8
                have HR8 := Lib.hid hR8
                have HK8 := Lib.hid hK8
                have HE2 := Lib.hid e2
                have hany := HPa.out x hxN
                have HAny := Lib.hid hany
                clear hb8 hk8 hN8 hM8 hR8 hK8 e2 c70 c71 d2' HFrx hany
                go_wp2_with fail
                go_loopw [18, 78] (fun v18 v78 wq => ∃ j : Nat, v78 = .int .i64 j ∧ j ≤ g.nodes.length ∧ v18 = .bool ((List.range j).any fun y => decide (y ∈ g.held [x]) && decide (y ∈ l)) ∧ wq = w8) (fun _ v78 _ => g.nodes.length - (intOf v78).toNat)
                case atStart => exact ⟨0, rfl, Nat.zero_le _, rfl, rfl⟩
                case round =>
                  obtain ⟨j, rfl, hj, rfl, rfl⟩ := hrel
                  by_cases hlt4 : j < g.nodes.length
                  · obtain ⟨m1, _⟩ := HE2.out.cell j hlt4
                    obtain ⟨n1, _⟩ := HM8.out.cell j hlt4
                    have hst := anyRange_step (fun y => decide (y ∈ g.held [x]) && decide (y ∈ l)) j
                    obtain ⟨ga, hga⟩ : ∃ ga, ga = (List.range j).any fun y => decide (y ∈ g.held [x]) && decide (y ∈ l) := ⟨_, rfl⟩
                    obtain ⟨ha, hha⟩ : ∃ ha, ha = decide (j ∈ g.held [x]) := ⟨_, rfl⟩
                    obtain ⟨la, hla⟩ : ∃ la, la = decide (j ∈ l) := ⟨_, rfl⟩
                    rw [← hga] at hst ⊢
                    rw [← hha, ← hla] at hst
                    rw [← hha] at m1
                    rw [← hla] at n1
                    have HSt := Lib.hid hst
                    clear hst hga hha hla
                    rcases ga with _ | _
                    · rcases ha with _ | _
                      · go_wp2
                        go_roundw
                        case rel => exact ⟨j + 1, by go_num, by omega, by rw [HSt.out]; rfl, by first | rfl | trivial⟩
                        case measure => simp [intOf]; omega
                      · go_wp2
                        go_roundw
                        case rel => exact ⟨j + 1, by go_num, by omega, by rw [HSt.out]; rfl, by first | rfl | trivial⟩
                        case measure => simp [intOf]; omega
                    · go_wp2
                      go_roundw
                      case rel => exact ⟨j + 1, by go_num, by omega, by rw [HSt.out]; rfl, by first | rfl | trivial⟩
                      case measure => simp [intOf]; omega
                  · have hj' : j = g.nodes.length := by omega
                    rw [hj', HAny.out]
                    obtain ⟨gx, hgx⟩ : ∃ gx, gx = pg x := ⟨_, rfl⟩
                    rw [← hgx]
                    have hfs := HFs.out
                    rw [← hgx] at hfs
                    clear hgx
                    rcases gx with _ | _
                    · have hfs' : (O.take (k + 1)).filter pg = C := by rw [hfs]; simp
                      have HFs' := Lib.hid hfs'
                      clear hfs hfs'
                      go_wp2
                      go_roundw
                      case rel => exact ⟨k + 1, C, by go_num, by omega, HFs'.out.symm, HN8.out, HR8.out, HK8.out⟩
                      case measure => simp [intOf]; omega
                    · have hfs' : (O.take (k + 1)).filter pg = C ++ [x] := by rw [hfs]; simp
                      have hCl : C.length + 1 ≤ 1048576 := by
                        have h1 := congrArg List.length hfs'
                        have h2 := List.length_filter_le pg (O.take (k + 1))
                        simp only [List.length_append, List.length_singleton] at h1
                        simp only [List.length_take] at h2
                        omega
                      obtain ⟨n1, n2⟩ := HN8.out.cell x hxN
                      have hset := HN8.out.set x (g.nodes.length + C.length) (toK g.nodes.length (C ++ [x]) (C ++ [x]).length) (fun i _ => toK_snoc HXC.out i)
                      have hset' : NumAt (wr.setCell ⟨Bt, x, none⟩ (.int .i64 ((g.nodes.length : Int) + (C.length : Int)))) Bt g.nodes.length (toK g.nodes.length (C ++ [x]) (C ++ [x]).length) := by
                        have : ((g.nodes.length + C.length : Nat) : Int) = (g.nodes.length : Int) + (C.length : Int) := by omega
                        rw [← this]; exact hset
                      have hk9 : Keeps (fun q => q = Bt) wr ((wr.setCell ⟨Bt, x, none⟩ (.int .i64 ((g.nodes.length : Int) + (C.length : Int)))).alloc (.cells #[.int .i64 (x : Int)] 3)) := ((Keeps.refl (fun q => q = Bt) wr).setCell (p := ⟨Bt, x, none⟩) (fun _ => rfl) _).alloc _
                      have hrow9 := HR8.out.keep (F := fun q => q = Bt) hk9 (fun q e _ => ⟨fun e' => by have := (HR8.out.block e').1; omega, id⟩)
                      have hset9 : NumAt ((wr.setCell ⟨Bt, x, none⟩ (.int .i64 ((g.nodes.length : Int) + (C.length : Int)))).alloc (.cells #[.int .i64 (x : Int)] 3)) Bt g.nodes.length (toK g.nodes.length (C ++ [x]) (C ++ [x]).length) := Blk.alloc hset' _
                      have hk10 : Keeps (fun q => q = Bt ∨ w7.heap.size ≤ q) w7 ((wr.setCell ⟨Bt, x, none⟩ (.int .i64 ((g.nodes.length : Int) + (C.length : Int)))).alloc (.cells #[.int .i64 (x : Int)] 3)) := HK8.out.trans (hk9.mono (fun _ _ e => .inl e))
                      have HFs' := Lib.hid hfs'
                      have HRow9 := Lib.hid hrow9
                      have HSet9 := Lib.hid hset9
                      have HK10 := Lib.hid hk10
                      clear hfs hfs' hset hset' hk9 hrow9 hset9 hk10
                      go_wp2_with (at_builtin; go_loud (refine wpList_growB (T := srtI) (ms := [(x : Int)]) rfl (.tmp 102) (.tmp 104) 25 3 rfl i0 _ 8 Try.underlying25 hi0 hz0 hz1 hz2 rfl rfl HRow9.out ⟨wr.heap.size, 0, none⟩ 1 [.int .i64 (x : Int)] rfl ?_ (Items.one srtI rfl) ?_ ?_ ?_ (by simp) ?_; (· exact blkNew' (Blk.new' _ _ _ (by simp [World.setCell]))); (· simp [maxLen]; omega); (· simp; omega); (· simp [World.setCell]; omega)); intro v11 w11 hrow11 hk11 hb11; have HRow11 := Lib.hid hrow11; have HK11 := Lib.hid (HK10.out.trans (hk11.mono (fun q _ e => .inr (HRow9.out.block e).1))); have HN11 := Lib.hid ((hk11.block Bt (by simp [World.setCell]; omega) (fun e => by have := (HRow9.out.block e).1; omega)).trans HSet9.out : NumAt w11 Bt g.nodes.length (toK g.nodes.length (C ++ [x]) (C ++ [x]).length)); clear hrow11 hk11 hb11)
                      go_roundw
                      case rel => exact ⟨k + 1, C ++ [x], by go_num, by omega, HFs'.out.symm, HN11.out, by have h := HRow11.out; rw [List.map_append]; exact h, HK11.out⟩
                      case measure => simp [intOf]; omega
              · have hk' : k = O.length := by omega
                have hCc : C = g.copL Mn := by rw [← HCopE.out, HCe.out, hk', List.take_length]
                obtain ⟨cA, cc, hv15, q1, q2, q3⟩ := HRow.out.ints (S' := fun q => w7.heap.size ≤ q ∧ q < wr.heap.size) (fun _ e => e.elim) (fun q h1 h2 => ⟨h1, h2⟩)
                subst hv15
                rw [List.length_map] at q1 ⊢
                have HCI := Lib.hid q3
                have HCc := Lib.hid hCc
                have HBr := Lib.hid (HBlk.out wr hbw)
                have hbR := (HBlk.out wr hbw).2
                unfold maxLen at q2
                have hCl : C.length ≤ 1048576 := by
                  have h2 := List.length_filter_le pg (O.take k)
                  rw [← hCe] at h2
                  simp only [List.length_take] at h2
                  omega
                by_cases hlong : g.nodes.length + C.length ≤ 1048576
                · have hfc : g.fcode M = 0 := by rw [HU2.out, ← hCc, if_pos hlong]
                  have hfu : g.freshU M = g.freshOf C := by rw [HU.out, if_pos hfc, ← hCc]
                  have HFc := Lib.hid hfc
                  have HFu := Lib.hid hfu
                  obtain ⟨r, hr, hrN⟩ : ∃ r : Nat, g.root = (r : Int) ∧ r < g.nodes.length := ⟨g.root.toNat, by have h := HOk.out; simp only [RGr.ok, Bool.and_eq_true, decide_eq_true_eq] at h; omega, by have h := HOk.out; simp only [RGr.ok, Bool.and_eq_true, decide_eq_true_eq] at h; omega⟩
                  obtain ⟨rt, hrt⟩ : ∃ rt, rt = toK g.nodes.length C C.length r := ⟨_, rfl⟩
                  have hc34 : ∀ W, BelC wr W → W.cell? ⟨w.heap.size, 0, none⟩ = some (.slice A g.nodes.length cN) ∧ W.cell? ⟨w.heap.size, 1, none⟩ = some (.int .i64 (r : Int)) ∧ W.cell? ⟨Bt, r, none⟩ = some (.int .i64 (rt : Nat)) := fun W hW => by
                    obtain ⟨a1, a2⟩ := HC.out wr hbw
                    rw [hr] at a2
                    refine ⟨BelC.old hW a1, BelC.old hW a2, BelC.old hW ?_⟩
                    rw [hrt]
                    exact (hnum.cell r hrN).1
                  have hx34 := hc34 wr (BelC.refl _)
                  have hl34 : ∀ W, BelC wr W → LiesAt srtN W S g.nodes A := fun W hW => lies_nds (NdsO.keep (fun q hq => ⟨hq, ((hbw.trans (Below.mono hW hbw.size)).block q (HZ1.out q hq))⟩) _ _ HA1.out) (fun e => by have h9 := HA1.out; rw [e] at h9; cases hn : g.nodes with | nil => rfl | cons x0 r0 => rw [hn] at h9; obtain ⟨_, _, e9, _⟩ := h9; cases e9)
                  have hpre : ∀ W, Below wr.heap.size wr W → IntsO W (fun _ => True) (C.map Int.ofNat) cA ∧ NumAt W Bt g.nodes.length (toK g.nodes.length C C.length) ∧ NdsO W S g.nodes A ∧ Blk W w.heap.size (.cells #[.slice A g.nodes.length cN, .int .i64 g.root] 24 (0, 0)) ∧ Blk W (w.heap.size + 1) (.cells #[.slice none 0 0, .int .i64 0] 24 (0, 0)) ∧ Below w1.heap.size w1 W := fun W hW => by
                    have hbW := hbw.trans (hW.mono hbw.size)
                    exact ⟨IntsO.keep (fun q hq => ⟨trivial, hW.block q hq.2⟩) _ _ q3, (hW.block Bt hnum.lt).trans hnum, NdsO.keep (fun q hq => ⟨hq, hbW.block q (HZ1.out q hq)⟩) _ _ HA1.out, (HBlk.out W hbW).1, (HBlk.out W hbW).2, hbW⟩
                  have HPre := Lib.hid hpre
                  have hBtl : Bt < wr.heap.size := hnum.lt
                  have hwl : w.heap.size + 1 < wr.heap.size := by have := hbw.size; omega
                  have HC34 := Lib.hid hc34
                  have HL34 := Lib.hid hl34
                  have HRt := Lib.hid hrt
                  have HRr := Lib.hid hr
                  obtain ⟨j0, hj0, hy0, hy1, hy2⟩ := info_parts infoNode
                  have hwrS : ∀ q, S q → q < wr.heap.size := fun q hq => Nat.lt_of_lt_of_le (HZ1.out q hq) hbw.size
                  clear hpre
                  clear hbR hfc hfu hc34 hl34 hrt hr hbw hnum hrow hkp hCe hMw hk' hCc q3
                  have HWrS := Lib.hid hwrS
                  clear hwrS
                  go_wp2_with fail
                  go_region_held3 (fun W => W.cell? ⟨w.heap.size, 0, none⟩ = some (.slice A g.nodes.length cN) ∧ W.cell? ⟨w.heap.size, 1, none⟩ = some (.int .i64 (r : Int)) ∧ W.cell? ⟨Bt, r, none⟩ = some (.int .i64 (rt : Nat)))
                    (first | with_reducible exact hx34 | (with_reducible refine HC34.out _ ?_; (· repeat (first | with_reducible assumption | with_reducible exact BelC.refl _ | with_reducible refine BelC.alloc ?_ _ | with_reducible refine BelC.drew ?_ | (with_reducible refine BelC.setCell ?_ ?_ _; rotate_left; (· first | omega | (simp <;> omega)))))))
                    (first | (refine step_catA (T := srtN) (base := wr.heap.size) (v := .slice (some ⟨_, 0, none⟩) 0 0) (S := S) (es := []) (ms := g.nodes) rfl (.tmp 118) (.tmp 120) 22 37 rfl j0 _ 80 Try.underlying22 hj0 hy0 hy1 hy2 rfl rfl (RowG.emptyS ?_ ?_ HWrS.out) A cN rfl (HL34.out _ ?_) ?_ ?_ ?_ ?_; (· show Blk _ _ _; (· repeat (first | with_reducible assumption | (with_reducible refine Blk.new' _ _ _ ?_; (· first | omega | (simp <;> omega))) | with_reducible refine Blk.alloc ?_ _ | with_reducible refine Blk.drew ?_))); (· first | omega | (simp <;> omega)); (· repeat (first | with_reducible assumption | with_reducible exact BelC.refl _ | with_reducible refine BelC.alloc ?_ _ | with_reducible refine BelC.drew ?_ | (with_reducible refine BelC.setCell ?_ ?_ _; rotate_left; (· first | omega | (simp <;> omega))))); (· simp [maxLen]; omega); (· simp; omega); (· first | omega | (simp <;> omega)); intro v9 w9 hrow9 hk9 hb9; rw [List.nil_append] at hrow9; obtain ⟨A9, c9, rfl, hn9, hm9⟩ := hrow9.form; refine cut_ (P := BelC wr w9) ?_ (fun hbc9 => ?_); (· refine Below.trans ?_ (hk9.below ?_ ?_); (· show BelC _ _; (· repeat (first | with_reducible assumption | with_reducible exact BelC.refl _ | with_reducible refine BelC.alloc ?_ _ | with_reducible refine BelC.drew ?_ | (with_reducible refine BelC.setCell ?_ ?_ _; rotate_left; (· first | omega | (simp <;> omega)))))); (· first | omega | (simp <;> omega)); (· intro i hi e; simp [Value.ownBlock] at e <;> omega)); (first | (refine cut_ (P := Blk w9 (wr.heap.size + 1) (.cells #[.slice none 0 0, .int .i64 0] 24 (0, 0))) ((hk9.block (wr.heap.size + 1) ?_ ?_).trans ?_) (fun hq9 => ?_); (· first | omega | (simp <;> omega)); (· intro e; simp [Value.ownBlock] at e <;> omega); (· show Blk _ _ _; (· repeat (first | with_reducible assumption | (with_reducible refine Blk.new' _ _ _ ?_; (· first | omega | (simp <;> omega))) | with_reducible refine Blk.alloc ?_ _ | with_reducible refine Blk.drew ?_))); obtain ⟨hqa, hqb⟩ := hq9.cells; have hqa0 := hqa 0; have hqa1 := hqa 1; have hqb0 := hqb 0; have hqb1 := hqb 1) | (refine cut_ (P := Blk w9 (wr.heap.size) (.cells #[.slice none 0 0, .int .i64 0] 24 (0, 0))) ((hk9.block (wr.heap.size) ?_ ?_).trans ?_) (fun hq9 => ?_); (· first | omega | (simp <;> omega)); (· intro e; simp [Value.ownBlock] at e <;> omega); (· show Blk _ _ _; (· repeat (first | with_reducible assumption | (with_reducible refine Blk.new' _ _ _ ?_; (· first | omega | (simp <;> omega))) | with_reducible refine Blk.alloc ?_ _ | with_reducible refine Blk.drew ?_))); obtain ⟨hqa, hqb⟩ := hq9.cells; have hqa0 := hqa 0; have hqa1 := hqa 1; have hqb0 := hqb 0; have hqb1 := hqb 1) | skip)))
                  (refine at_world (G := fun W => Exit.then _ _ _ _ W) (fun W => Cpf S wr w9.heap.size (rt : Nat) W (.slice A9 g.nodes.length c9) g.nodes) (Cpf.start1 HWrS.out hbc9 hrow9) ?_; generalize w9.heap.size = bo)
                  rotate_left
                  (refine at_world (G := fun W => Exit.then _ _ _ _ W) (fun W => Cpf S wr (wr.heap.size + 1) (rt : Nat) W (.slice A9 g.nodes.length c9) g.nodes) (Cpf.start2 HWrS.out hbc9 hrow9 (by omega) hq9 (by intro e; rcases hb9 with h | h <;> (rw [h] at e; simp [Value.ownBlock] at e <;> omega))) ?_; generalize wr.heap.size + 1 = bo; clear hq9 hqa hqb hqa0 hqa1 hqb0 hqb1)
                  rotate_left
                  (refine at_world (G := fun W => Exit.then _ _ _ _ W) (fun W => Cpf S wr wr.heap.size (rt : Nat) W (.slice A9 g.nodes.length c9) g.nodes) (Cpf.start2 HWrS.out hbc9 hrow9 (by omega) hq9 (by intro e; rcases hb9 with h | h <;> (rw [h] at e; simp [Value.ownBlock] at e <;> omega))) ?_; generalize wr.heap.size = bo; clear hq9 hqa hqb hqa0 hqa1 hqb0 hqb1)
                  rotate_left
                  all_goals clear hrow9 hk9 hb9 hbc9
                  all_goals
                    intro W10 hcp
                    have HCp := Lib.hid hcp
                    clear hcp
                    go_wp2_with fail
                    go_loopw [125] (fun v125 wq => ∃ (k : Nat) (s : Value), v125 = .int .i64 k ∧ k ≤ C.length ∧ Cpf S wr bo (rt : Nat) wq s (g.nodes ++ (C.take k).map fun a => (g.nd a).ren (toK g.nodes.length C C.length))) (fun v125 _ => C.length - (intOf v125).toNat)
                    case atStart => exact ⟨0, _, rfl, Nat.zero_le _, by simpa using HCp.out⟩
                    case round =>
                      obtain ⟨k, s, rfl, hk, htr⟩ := hrel
                      have hes : (g.nodes ++ (C.take k).map fun a => (g.nd a).ren (toK g.nodes.length C C.length)).length = g.nodes.length + k := by rw [List.length_append, List.length_map, List.length_take]; omega
                      obtain ⟨sA, sc, hs0, hs1, hs2⟩ := htr.row.form
                      rw [hes] at hs0 hs1
                      subst hs0
                      have HTr := Lib.hid htr
                      have HEs := Lib.hid hes
                      obtain ⟨u1, u2, u3, u4, u5, u6⟩ := HPre.out wr htr.bel
                      have U2 := Lib.hid u2
                      have p0 := u4.cells.1 0
                      have o0 := htr.out.cells.1 0
                      have hz5 := htr.bel.size
                      by_cases hlt5 : k < C.length
                      · obtain ⟨b2, o2, rfl, _, hcell⟩ := IntsO.get _ _ u1 k (by simpa using hlt5)
                        rw [List.getElem_map] at hcell
                        have htk : (C.take (k + 1)).map (fun a => (g.nd a).ren (toK g.nodes.length C C.length)) = (C.take k).map (fun a => (g.nd a).ren (toK g.nodes.length C C.length)) ++ [(g.nd C[k]).ren (toK g.nodes.length C C.length)] := by
                          rw [List.take_add_one, List.getElem?_eq_getElem hlt5, List.map_append]; rfl
                        have hyN : C[k] < g.nodes.length := copL_lt HOk.out Mn _ (by rw [← HCc.out]; exact List.getElem_mem hlt5)
                        obtain ⟨y, hy⟩ : ∃ y, y = C[k] := ⟨_, rfl⟩
                        rw [← hy] at hcell htk hyN
                        have hcell' : wr.cell? ⟨b2, o2 + k, none⟩ = some (.int .i64 (y : Int)) := hcell
                        have hx := NdsO.get _ _ u3 y hyN
                        obtain ⟨b, o, rfl, hnp⟩ := hx
                        rw [← g.nd_eq y hyN] at hnp
                        have hfit := hF (g.nodes[y]) (List.getElem_mem hyN)
                        rw [← g.nd_eq y hyN] at hfit
                        obtain ⟨xA, yA, xL, yL, f0, f1, f2, f3, f4, hvv⟩ := hnp.val
                        have hV : NdV wr S (g.nd y) (.agg #[.int .i64 (g.nd y).kind, .string (g.nd y).name, .slice xA (g.nd y).args.length yA, .slice xL (g.nd y).labels.length yL, .bool (g.nd y).op]) := ⟨xA, yA, xL, yL, rfl, hvv.1, hvv.2.1, hvv.2.2.1, hvv.2.2.2.1, hvv.2.2.2.2.1, hvv.2.2.2.2.2.1, hvv.2.2.2.2.2.2.1⟩
                        have hSl : ∀ q, S q → q < wr.heap.size := fun q hq => Nat.lt_of_lt_of_le (HTr.out.old q hq) hz5
                        have hto : ((List.range g.nodes.length).map fun i => (((toK g.nodes.length C C.length) i : Nat) : Int)).length = g.nodes.length := by simp
                        have hcall : ∀ W, BelC wr W → Calls Try.prog 36 #[.agg #[.int .i64 (g.nd y).kind, .string (g.nd y).name, .slice xA (g.nd y).args.length yA, .slice xL (g.nd y).labels.length yL, .bool (g.nd y).op], .slice (some ⟨Bt, 0, none⟩) g.nodes.length g.nodes.length] W fun e w' => ∃ v', e = .returned v' ∧ NdV w' (fun k => W.heap.size ≤ k ∧ k < w'.heap.size) ((g.nd y).ren (toK g.nodes.length C C.length)) v' ∧ Below W.heap.size W w' := fun W hW => by
                          have hkS : ∀ k, k < wr.heap.size → W.heap[k]? = wr.heap[k]? := fun k hk => Below.block hW k hk
                          have h := gcopy_r W S (fun k => k = Bt) (g.nd y) _ ((List.range g.nodes.length).map fun i => (((toK g.nodes.length C C.length) i : Nat) : Int)) (some ⟨Bt, 0, none⟩) g.nodes.length ((g.nd y).ren (toK g.nodes.length C C.length)).args (fun k hk => Nat.lt_of_lt_of_le (hSl k hk) (Below.size hW)) (fun k (hk : k = Bt) => by have h1 := U2.out.lt; have h2 := Below.size hW; omega) (hV.keep (w := wr) (w' := W) (fun k hk => ⟨hk, hkS k (hSl k hk)⟩)) (IntsO.keep (w := wr) (w' := W) (fun k (hk : k = Bt) => ⟨hk, hkS k (by rw [hk]; exact U2.out.lt)⟩) _ _ U2.out.ints) (by rw [hto]; exact Nat.le_refl _) (by unfold maxLen; omega) hfit.1 hfit.2 (by simp [RNd.ren]) (ren_hin HOk.out y hyN (toK g.nodes.length C C.length))
                          rw [hto] at h
                          exact h
                        have HCall := Lib.hid hcall
                        have HTk := Lib.hid htk
                        have hbS : S b := hvv.2.2.2.2.2.2.2
                        have hc : ∀ W, Keeps (fun q => (Value.slice sA (g.nodes.length + k) sc).ownBlock = some q) wr W → (W.cell? ⟨bo, 0, none⟩ = some (.slice sA (g.nodes.length + k) sc) ∧ W.cell? ⟨w.heap.size, 0, none⟩ = some (.slice (some ⟨b, o, none⟩) g.nodes.length cN) ∧ W.cell? ⟨b, o + y * 5, none⟩ = some (.int .i64 (g.nd y).kind) ∧ W.cell? ⟨b, o + y * 5 + 1, none⟩ = some (.string (g.nd y).name) ∧ W.cell? ⟨b, o + y * 5 + 2, none⟩ = some (.slice xA (g.nd y).args.length yA) ∧ W.cell? ⟨b, o + y * 5 + 3, none⟩ = some (.slice xL (g.nd y).labels.length yL) ∧ W.cell? ⟨b, o + y * 5 + 4, none⟩ = some (.bool (g.nd y).op)) := fun W hW => by
                          have hbl := HTr.out.old b hbS
                          have hown : ∀ q, q < wr.heap.size → (q = bo ∨ q = w.heap.size ∨ q = b) → q < wr.heap.size ∧ ¬ ((Value.slice sA (g.nodes.length + k) sc).ownBlock = some q) := fun q hq hq2 => ⟨hq, fun e => by
                            rcases hq2 with e2 | e2 | e2
                            · subst e2; exact HTr.out.ne e
                            · have := (HTr.out.row.block e).1; omega
                            · have := (HTr.out.row.block e).1; omega⟩
                          have hbol := HTr.out.out.lt
                          have a1 := (hown bo hbol (.inl rfl)).2
                          have a2 := (hown w.heap.size (by omega) (.inr (.inl rfl))).2
                          have a3 := (hown b (by omega) (.inr (.inr rfl))).2
                          exact ⟨hW.cell a1 o0, hW.cell a2 p0, hW.cell a3 f0, hW.cell a3 f1, hW.cell a3 f2, hW.cell a3 f3, hW.cell a3 f4⟩
                        have HC5 := Lib.hid hc
                        have hx0 := hc wr (Keeps.refl _ _)
                        clear hcell hy hnp hfit hcall htk hV hvv hc o0 p0 f0 f1 f2 f3 f4 u1 u2 u3 u4 u5 u6 htr hes hSl hto hbS
                        go_wp2
                        obtain ⟨o0, p0, f0, f1, f2, f3, f4⟩ := hx0
                        go_region_law (first | (go_simp; go_at_call 36; refine (HCall.out _ ?_).mono ?_; (· repeat (first | with_reducible exact BelC.refl _ | with_reducible refine BelC.drew ?_)); rintro e w6 ⟨v6, rfl, hv6, hb6⟩; have hk6 : (Keeps (fun q => (Value.slice sA (g.nodes.length + k) sc).ownBlock = some q) wr w6) := (Keeps.refl _ wr).drew.trans (Keeps.of_below0 hb6); have hv7 := hv6; obtain ⟨aA, cA6, aL, cL, hvv, _⟩ := hv7; subst hvv; have HV6 := Lib.hid hv6; have hb6' : (Below wr.heap.size wr w6) := (Below.refl _ wr).drew.trans hb6; have hz6 := hb6'.size; have HB6 := Lib.hid hb6'; have r0 := (HC5.out w6 hk6).1; have hz7 : bo < w6.heap.size := Nat.lt_of_lt_of_le HTr.out.out.lt hz6; clear hv6 hb6 hb6') | (refine step_growB (T := srtN) (v := (Value.slice sA (g.nodes.length + k) sc)) (es := g.nodes ++ (C.take k).map fun a => (g.nd a).ren (toK g.nodes.length C C.length)) (ms := [(g.nd y).ren (toK g.nodes.length C C.length)]) rfl (.tmp 130) (.tmp 138) 22 37 rfl j0 _ 80 Try.underlying22 hj0 hy0 hy1 hy2 rfl rfl (HTr.out.row7 (W6 := w6) HB6.out _) ⟨w6.heap.size, 0, none⟩ 1 _ rfl (fun j u hj => gcell_new _ _ _ _ rfl j u hj) (Items.one srtN (HTr.out.item7 _ HV6.out)) ?_ ?_ ?_ (by simp) ?_; (· rw [HEs.out]; simp [maxLen]; omega); (· rw [HEs.out]; simp; omega); (· simp; omega); intro v8 w8 hrow8 hk8 hb8; have hk8' := hk6.alloc (.cells #[.int .i64 ((g.nd y).ren (toK g.nodes.length C C.length)).kind, .string ((g.nd y).ren (toK g.nodes.length C C.length)).name, .slice aA ((g.nd y).ren (toK g.nodes.length C C.length)).args.length cA6, .slice aL ((g.nd y).ren (toK g.nodes.length C C.length)).labels.length cL, .bool ((g.nd y).ren (toK g.nodes.length C C.length)).op] 37) |>.trans hk8; obtain ⟨sA8, sc8, hs8, _, _⟩ := hrow8.form; obtain ⟨n8, hn8⟩ : (∃ n8, n8 = ((g.nodes ++ (C.take k).map fun a => (g.nd a).ren (toK g.nodes.length C C.length)) ++ [(g.nd y).ren (toK g.nodes.length C C.length)]).length) := ⟨_, rfl⟩; rw [← hn8] at hs8; subst hs8; have ho8 := HTr.out.out8 HB6.out hk8; have hc8 := ho8.cells.1 0; have hf8 := ho8.cells.2 0; have HSt := Lib.hid (HTr.out.step HB6.out hrow8 hk8 hb8); clear hrow8 hk8 hb8 ho8 hn8))
                        all_goals go_wp2
                        all_goals go_roundw
                        all_goals first
                          | exact ⟨k + 1, _, by go_num, by omega, by rw [HTk.out, ← List.append_assoc]; exact HSt.out⟩
                          | (simp [intOf]; omega)
                      · have hk5 : k = C.length := by omega
                        have hes5 : g.nodes ++ (C.take k).map (fun a => (g.nd a).ren (toK g.nodes.length C C.length)) = (g.freshOf C).nodes := by rw [hk5, List.take_length]; rfl
                        have hrow5 := htr.row
                        rw [hes5] at hrow5
                        have hnl : g.nodes.length + k = (g.freshOf C).nodes.length := by rw [← hes5]; exact hes.symm
                        obtain ⟨A9', c9', h90, h91, h92, h93⟩ := hrow5.nds (S' := fun q => (S q ∨ w.heap.size ≤ q ∧ q < wr.heap.size) ∧ q ≠ w.heap.size + 1) (fun q hq => ⟨hq.1.imp id fun e => ⟨by omega, e.2.1⟩, by
                          rcases hq.1 with e | e
                          · have := HS0.out q e; omega
                          · omega⟩) (fun q h1 h2 => ⟨.inr ⟨by omega, h2⟩, by omega⟩)
                        simp only [Value.slice.injEq] at h90
                        obtain ⟨rfl, hx9, rfl⟩ := h90
                        have o1 := htr.out.cells.1 1
                        obtain ⟨g1, g2⟩ := u5.cells
                        have g10 := g1 0
                        have g11 := g1 1
                        have g20 := g2 0
                        have g21 := g2 1
                        have hbS := (u5.set 0 (.slice sA (g.nodes.length + k) sc)).set 1 (.int .i64 (rt : Nat))
                        have hkS : Keeps (fun k => k = w.heap.size + 1) wr ((wr.setCell ⟨w.heap.size + 1, 0, none⟩ (.slice sA (g.nodes.length + k) sc)).setCell ⟨w.heap.size + 1, 1, none⟩ (.int .i64 (rt : Nat))) :=
                          ((Keeps.refl (fun k => k = w.heap.size + 1) wr).setCell (p := ⟨w.heap.size + 1, 0, none⟩) (fun _ => rfl) _).setCell (p := ⟨w.heap.size + 1, 1, none⟩) (fun _ => rfl) _
                        have hbW : Below w.heap.size w ((wr.setCell ⟨w.heap.size + 1, 0, none⟩ (.slice sA (g.nodes.length + k) sc)).setCell ⟨w.heap.size + 1, 1, none⟩ (.int .i64 (rt : Nat))) :=
                          ((HB1.out.trans (u6.mono (by omega))).setCell (by simp) _).setCell (by simp) _
                        have HbS := Lib.hid hbS
                        have HkS := Lib.hid hkS
                        have HbW := Lib.hid hbW
                        have H93 := Lib.hid h93
                        have H91 := Lib.hid h91
                        have H92 := Lib.hid h92
                        have HNl := Lib.hid hnl
                        clear hbS hkS hbW h93 h91 h92 hnl hx9 hrow5 hes5 htr hes u1 u2 u3 u4 u5 u6 g1 g2 hk5
                        go_wp2_with fail
                        generalize ((wr.setCell ⟨w.heap.size + 1, 0, none⟩ (.slice sA (g.nodes.length + k) sc)).setCell ⟨w.heap.size + 1, 1, none⟩ (.int .i64 (rt : Nat))) = W9 at HbS HkS HbW ⊢
                        obtain ⟨p1, p2⟩ := HbS.out.cells
                        have p10 : W9.cell? ⟨w.heap.size + 1, 0, none⟩ = some (.slice sA (g.nodes.length + k) sc) := p1 0
                        have p11 : W9.cell? ⟨w.heap.size + 1, 1, none⟩ = some (.int .i64 (rt : Nat)) := p1 1
                        refine bodyPost_ret (v := .tuple #[.agg #[.slice sA (g.nodes.length + k) sc, .int .i64 (rt : Nat)], .int .i64 0]) (by simp [results, Try.results14, go_sem, p10, p11]) rfl ?_
                        rw [HFc.out, HFu.out]
                        refine ⟨_, rfl, ⟨sA, sc, ?_, H91.out, H92.out, ?_⟩, HbW.out⟩
                        · rw [HNl.out, HRt.out]
                          unfold RGr.freshOf
                          rw [HRr.out]
                          rfl
                        · exact NdsO.keep (fun q hq => ⟨hq.1.imp id fun e => ⟨e.1, Nat.lt_of_lt_of_le e.2 HkS.out.size⟩, HkS.out.block q (by
                            rcases hq.1 with e | e
                            · have := HS0.out q e; omega
                            · exact e.2) hq.2⟩) _ _ H93.out
                · have hfc : g.fcode M = 3 := by rw [HU2.out, ← hCc, if_neg hlong]
                  have hfu : g.freshU M = ⟨[], 0⟩ := by rw [HU.out, hfc, if_neg (by decide)]
                  have HFc := Lib.hid hfc
                  have HFu := Lib.hid hfu
                  obtain ⟨g1, g2⟩ := hbR.cells
                  have g10 := g1 0
                  have g11 := g1 1
                  have g20 := g2 0
                  have g21 := g2 1
                  have HbR := Lib.hid hbR
                  have HBw := Lib.hid hbw
                  clear hbR hfc hfu hbw hnum hrow hkp hCe hMw hk' hCc q3 g1 g2
                  go_wp2_with fail
                  have hbS := (HbR.out.set 0 (.slice none 0 0)).set 1 (.int .i64 0)
                  have hbW : Below w.heap.size w ((wr.setCell ⟨w.heap.size + 1, 0, none⟩ (.slice none 0 0)).setCell ⟨w.heap.size + 1, 1, none⟩ (.int .i64 0)) :=
                    ((HB1.out.trans (HBw.out.mono (by omega))).setCell (by simp) _).setCell (by simp) _
                  have HbS := Lib.hid hbS
                  have HbW := Lib.hid hbW
                  clear hbS hbW
                  generalize ((wr.setCell ⟨w.heap.size + 1, 0, none⟩ (.slice none 0 0)).setCell ⟨w.heap.size + 1, 1, none⟩ (.int .i64 0)) = W9 at HbS HbW ⊢
                  obtain ⟨p1, p2⟩ := HbS.out.cells
                  have p10 : W9.cell? ⟨w.heap.size + 1, 0, none⟩ = some (.slice none 0 0) := p1 0
                  have p11 : W9.cell? ⟨w.heap.size + 1, 1, none⟩ = some (.int .i64 0) := p1 1
                  refine bodyPost_ret (v := .tuple #[.agg #[.slice none 0 0, .int .i64 0], .int .i64 3]) (by simp [results, Try.results14, go_sem, p10, p11]) rfl ?_
                  rw [HFc.out, HFu.out]
                  exact ⟨_, rfl, ⟨none, 0, rfl, Nat.le_refl _, Nat.zero_le _, trivial⟩, HbW.out⟩
  · have hU : g.freshU M = ⟨[], 0⟩ := by unfold RGr.freshU RGr.fcode; rw [if_neg hcd, if_neg hcd]
    have hU2 : g.fcode M = g.mcode M := by unfold RGr.fcode; rw [if_neg hcd]
    rw [hU, hU2]
    obtain ⟨cd, hcde⟩ : ∃ cd, cd = g.mcode M := ⟨_, rfl⟩
    rw [← hcde] at hcd HGe ⊢
    unfold maxLen at hcN9 hmm
    clear hcde hU hU2
    go_enter Try.func14, Try.ntmps14
    go_wp2_with fail
    rw [← hw1]
    clear hw1
    with_reducible refine HGe.out.mono ?_
    rintro e w2 ⟨lA, lc, rfl, h1, h2, h3, hb2⟩
    have hbR := (HBlk.out w2 hb2).2
    obtain ⟨g1, g2⟩ := hbR.cells
    have g10 := g1 0
    have g11 := g1 1
    have g20 := g2 0
    have g21 := g2 1
    have HbR := Lib.hid hbR
    have HBw := Lib.hid hb2
    clear hbR hb2 g1 g2 h1 h2 h3 c00 c01
    go_wp2_with fail
    have hbS := (HbR.out.set 0 (.slice none 0 0)).set 1 (.int .i64 0)
    have hbW : Below w.heap.size w ((w2.setCell ⟨w.heap.size + 1, 0, none⟩ (.slice none 0 0)).setCell ⟨w.heap.size + 1, 1, none⟩ (.int .i64 0)) :=
      ((HB1.out.trans (HBw.out.mono (by omega))).setCell (by simp) _).setCell (by simp) _
    have HbS := Lib.hid hbS
    have HbW := Lib.hid hbW
    clear hbS hbW
    generalize ((w2.setCell ⟨w.heap.size + 1, 0, none⟩ (.slice none 0 0)).setCell ⟨w.heap.size + 1, 1, none⟩ (.int .i64 0)) = W9 at HbS HbW ⊢
    obtain ⟨p1, p2⟩ := HbS.out.cells
    have p10 : W9.cell? ⟨w.heap.size + 1, 0, none⟩ = some (.slice none 0 0) := p1 0
    have p11 : W9.cell? ⟨w.heap.size + 1, 1, none⟩ = some (.int .i64 0) := p1 1
    refine bodyPost_ret (v := .tuple #[.agg #[.slice none 0 0, .int .i64 0], .int .i64 cd]) (by simp [results, Try.results14, go_sem, p10, p11]) rfl ?_
    exact ⟨_, rfl, ⟨none, 0, rfl, Nat.le_refl _, Nat.zero_le _, trivial⟩, HbW.out⟩
end Go.Proofs.Ytnhdgndjpkdhdaa

/-
  trefoillaw13.GenMore: with more monos no more nodes of a type are generic, and no fewer fixed; the order of monos, and one told twice, change nothing: so it returns true, and does not panic, for every graph, every list of monos and every further one that it is handed.
-/
import Derived.Test.YtnhdgndjpkdhdaaNE
import Derived.Test.YtnhdgndjpkdhdaaNKeys
import Derived.Maps.Own
namespace Go.Proofs.Ytnhdgndjpkdhdaa
section
open Go.ChangeShapes Go.WideShapes Go.ChangeAt Go.RowKit Go.Deep
theorem keyedI : Maps.Keyed Try.prog 3 := Maps.int_keyed Try.underlying3
theorem zeroBo (w : World) : (zeroValue 4).run Try.prog w = .ok (.bool false) w := by kernel_rfl
/-- Numbers that were met, as a map's datum. -/
def setB (l : List Nat) : DataW Unit := l.foldl (fun D (x : Nat) => D.put (.int .i64 (x : Int)) (.lit (.bool true))) (.map [])
theorem setB_snoc (l : List Nat) (x : Nat) : setB (l ++ [x]) = (setB l).put (.int .i64 (x : Int)) (.lit (.bool true)) := by simp [setB]
theorem setB_isMap (l : List Nat) : Maps.IsMap (setB l) :=
  gsnoc_ind (P := fun l => Maps.IsMap (setB l)) Maps.isMap_empty (fun l x h => by rw [setB_snoc]; exact h.put _ _) l
theorem at_setB (l : List Nat) (x : Nat) : (setB l).atKey (.int .i64 (x : Int)) (.lit (.bool false)) = .lit (.bool (decide (x ∈ l))) := by
  refine gsnoc_ind (P := fun l => (setB l).atKey (.int .i64 (x : Int)) (.lit (.bool false)) = .lit (.bool (decide (x ∈ l)))) rfl ?_ l
  intro l y ih
  rw [setB_snoc]
  by_cases e : x = y
  · subst e
    rw [Maps.atKey_put_same (setB_isMap l) (by simp [WideAt.IsKeyLit])]
    simp
  · rw [Maps.atKey_put_other (fun e2 => e (by simp at e2; omega)), ih]
    simp [e]
theorem plainElem_bool_inv {H : Type} {P : Program} {e : TypeId} (he : P.underlying e = some .bool) {v : Value} {z : DataW H × List MemPlace} (h : plainElem P e v = some z) : ∃ a, v = .bool a ∧ z = (.lit (.bool a), []) := by
  unfold plainElem at h
  rw [he] at h
  cases v <;> simp at h
  exact ⟨_, rfl, h.symm⟩
theorem met_look {W : World} {mb n x : Nat} {l : List Nat} (h : W.ownsMap Try.prog 3 (plainElem Try.prog 4) mb n (setB l)) (hx : x ≤ 4000000) : (Instr.lookup 42 (.map (some mb)) (.int .i64 (x : Int)) false).run Try.prog W = .ok (.bool (decide (x ∈ l))) W := by
  obtain ⟨v, ps, hrun, hv⟩ := h.lookup keyedI Try.underlying42 (zeroBo W) (plainElem_bool Try.underlying4 false) (Maps.keyOf_int_mk Try.underlying3 (wfI x hx))
  rw [at_setB] at hv
  obtain ⟨c, rfl, e⟩ := plainElem_bool_inv Try.underlying4 hv
  simp only [Prod.mk.injEq, DataW.lit.injEq, Lit.bool.injEq] at e
  rw [e.1]
  exact hrun


set_option maxRecDepth 100000 in
set_option maxHeartbeats 1000000 in
theorem within_r (w : World) (S1 S2 : Nat → Prop) (X Y : List Nat) (xA yA : Option Addr) (xc yc : Nat) (hS1 : ∀ k, S1 k → k < w.heap.size) (hS2 : ∀ k, S2 k → k < w.heap.size) (hX : IntsO w S1 (X.map Int.ofNat) xA) (hY : IntsO w S2 (Y.map Int.ofNat) yA) (_hxc : X.length ≤ xc) (hxm : xc ≤ maxLen) (_hyc : Y.length ≤ yc) (_hym : yc ≤ maxLen)
    (hx9 : ∀ x, x ∈ X → x ≤ 4000000) (hy9 : ∀ y, y ∈ Y → y ≤ 4000000) (hYl : Y.length ≤ 4000000) :
    Calls Try.prog 21 #[.slice xA X.length xc, .slice yA Y.length yc] w fun e w' => e = .returned (.bool (X.all fun x => decide (x ∈ Y))) ∧ Below w.heap.size w w' := by
  have hmm := @run_makeMap Try.prog
  have HX := Lib.hid hX
  have HY := Lib.hid hY
  have HS1 := Lib.hid hS1
  have HS2 := Lib.hid hS2
  have HX9 := Lib.hid hx9
  have HY9 := Lib.hid hy9
  obtain ⟨r, hr⟩ : ∃ r, r = X.all fun x => decide (x ∈ Y) := ⟨_, rfl⟩
  rw [← hr]
  have HR := Lib.hid hr
  unfold maxLen at hxm _hym
  clear hX hY hS1 hS2 hx9 hy9 hr
  go_enter Try.func21, Try.ntmps21
  go_wp2
  clear hmm
  go_loopw [13] (fun v13 wr => ∃ j : Nat, v13 = .int .i64 j ∧ j ≤ Y.length ∧ wr.ownsMap Try.prog 3 (plainElem (H := Unit) Try.prog 4) w.heap.size j (setB (Y.take j)) ∧ Below w.heap.size w wr) (fun v13 _ => Y.length - (intOf v13).toNat)
  case atStart => exact ⟨0, rfl, Nat.zero_le _, World.ownsMap_made _ _ _ _, (Below.refl _ _).alloc (Nat.le_refl _) _⟩
  case round =>
    obtain ⟨j, rfl, hj, hown, hbr⟩ := hrel
    have HOwn := Lib.hid hown
    have HBr := Lib.hid hbr
    by_cases hlt : j < Y.length
    · obtain ⟨b, o, rfl, _, d1⟩ := IntsO.get _ _ (IntsO.keep (S' := S2) (fun k hk => ⟨hk, hbr.block k (HS2.out k hk)⟩) _ _ HY.out) j (by simpa using hlt)
      rw [List.getElem_map] at d1
      have hy9 := HY9.out _ (List.getElem_mem hlt)
      have htk : setB (Y.take (j + 1)) = (setB (Y.take j)).put (.int .i64 (Y[j] : Int)) (.lit (.bool true)) := by
        rw [List.take_add_one, List.getElem?_eq_getElem hlt]
        exact setB_snoc _ _
      obtain ⟨y, hy⟩ : ∃ y, y = Y[j] := ⟨_, rfl⟩
      rw [← hy] at d1 hy9 htk
      have d1' : wr.cell? ⟨b, o + j, none⟩ = some (.int .i64 (y : Int)) := d1
      have HTk := Lib.hid htk
      have hkey := Maps.keyOf_int_mk Try.underlying3 (wfI y hy9)
      have HKey := Lib.hid hkey
      clear d1 hy htk hkey hown hbr
      go_wp2_with (at_mapUpdate; refine wpList_mapUpdate_own _ rfl _ _ _ 42 rfl 3 4 keyedI Try.underlying42 _ w.heap.size j _ rfl HOwn.out (by unfold maxLen; omega) _ _ _ rfl rfl HKey.out _ [] (plainElem_bool Try.underlying4 true) ?_; intro w10 hown10 hgrow10; have HOwn10 := Lib.hid hown10; have HGrow10 := Lib.hid hgrow10; clear hown10 hgrow10)
      go_roundw
      case rel => exact ⟨j + 1, by go_num, by omega, by rw [HTk.out]; exact HOwn10.out, HBr.out.trans ((Keeps.of_grown HGrow10.out).below HBr.out.size (fun i hi e => by injection e with e; omega))⟩
      case measure => simp [intOf]; omega
    · have hj' : j = Y.length := by omega
      have hown2 : wr.ownsMap Try.prog 3 (plainElem (H := Unit) Try.prog 4) w.heap.size j (setB Y) := by
        have h1 := hown
        rwa [hj', List.take_length, ← hj'] at h1
      have HOwn2 := Lib.hid hown2
      obtain ⟨wm, hwm⟩ : ∃ x, x = wr := ⟨_, rfl⟩
      rw [← hwm] at HOwn2 HBr ⊢
      clear hj' hown2 hown hbr hwm HOwn
      go_wp2
      go_loopw [22] (fun v22 wr => ∃ i n : Nat, v22 = .int .i64 i ∧ i ≤ X.length ∧ r = ((X.drop i).all fun x => decide (x ∈ Y)) ∧ wr = wm.drewN n) (fun v22 _ => X.length - (intOf v22).toNat)
      case atStart => exact ⟨0, 0, rfl, Nat.zero_le _, by rw [List.drop_zero]; exact HR.out, rfl⟩
      case round =>
        obtain ⟨i, n, rfl, hi, hq, rfl⟩ := hrel
        have hbn : Below w.heap.size w (wm.drewN n) := Below.drewN' HBr.out n
        by_cases hlt2 : i < X.length
        · obtain ⟨b, o, rfl, _, d1⟩ := IntsO.get _ _ (IntsO.keep (S' := S1) (fun k hk => ⟨hk, hbn.block k (HS1.out k hk)⟩) _ _ HX.out) i (by simpa using hlt2)
          rw [List.getElem_map] at d1
          have hx9 := HX9.out _ (List.getElem_mem hlt2)
          rw [List.drop_eq_getElem_cons hlt2, List.all_cons] at hq
          obtain ⟨x, hx⟩ : ∃ x, x = X[i] := ⟨_, rfl⟩
          rw [← hx] at d1 hx9 hq
          have d1' : (wm.drewN n).cell? ⟨b, o + i, none⟩ = some (.int .i64 (x : Int)) := d1
          have hlk := met_look (W := wm.drewN n) HOwn2.out hx9
          have HBn := Lib.hid hbn
          by_cases hin : x ∈ Y
          · rw [decide_eq_true hin] at hlk hq
            rw [Bool.true_and] at hq
            have HQ := Lib.hid hq
            clear d1 hx hq hin hbn
            go_wp2
            go_roundw
            case rel => exact ⟨i + 1, n, by go_num, by omega, HQ.out, by first | rfl | trivial⟩
            case measure => simp [intOf]; omega
          · rw [decide_eq_false hin] at hlk hq
            rw [Bool.false_and] at hq
            have HQ := Lib.hid hq
            clear d1 hx hq hin hbn
            go_wp2
            go_ret
            exact ⟨by rw [HQ.out]; rfl, HBn.out⟩
        · have hi' : i = X.length := by omega
          rw [hi', List.drop_length] at hq
          have HQ := Lib.hid hq
          have HBn := Lib.hid hbn
          clear hq hbn hi'
          go_wp2
          go_ret
          exact ⟨by rw [HQ.out]; rfl, HBn.out⟩
end
open Go.ChangeShapes Go.WideShapes Go.ChangeAt Go.RowKit Go.Deep

theorem RGr.genL_lt {g : RGr} (M : List Nat) {x : Nat} (h : x ∈ g.genL M) : x < g.nodes.length := by
  unfold RGr.genL at h
  simp only [List.mem_filter, List.mem_range] at h
  exact h.1
theorem RGr.fixL_lt {g : RGr} (M : List Nat) {x : Nat} (h : x ∈ g.fixL M) : x < g.nodes.length := by
  unfold RGr.fixL at h
  simp only [List.mem_filter, List.mem_range] at h
  exact h.1
theorem RGr.genL_len {g : RGr} (M : List Nat) : (g.genL M).length ≤ g.nodes.length := by
  unfold RGr.genL
  exact Nat.le_trans (List.length_filter_le _ _) (by simp)
theorem RGr.fixL_len {g : RGr} (M : List Nat) : (g.fixL M).length ≤ g.nodes.length := by
  unfold RGr.fixL
  exact Nat.le_trans (List.length_filter_le _ _) (by simp)
theorem within_nat {w : World} {g : RGr} {n1 n2 : Nat} {X Y : List Nat} {xA yA : Option Addr} {xc yc : Nat} (h : g.ok = true) (hX : IntsO w (fun k => k < n1) (X.map Int.ofNat) xA) (hY : IntsO w (fun k => k < n2) (Y.map Int.ofNat) yA) (h1 : n1 ≤ w.heap.size) (h2 : n2 ≤ w.heap.size) (hxc : X.length ≤ xc) (hxm : xc ≤ maxLen) (hyc : Y.length ≤ yc) (hym : yc ≤ maxLen) (hX9 : ∀ {x}, x ∈ X → x < g.nodes.length) (hY9 : ∀ {x}, x ∈ Y → x < g.nodes.length) (hYl : Y.length ≤ g.nodes.length) (hr : (X.all fun x => decide (x ∈ Y)) = true) :
    Calls Try.prog 21 #[.slice xA X.length xc, .slice yA Y.length yc] w fun e w' => e = .returned (.bool true) ∧ BelC w w' := by
  have hl := RGr.ok_len h
  have := within_r w _ _ X Y xA yA xc yc (fun k hk => Nat.lt_of_lt_of_le hk h1) (fun k hk => Nat.lt_of_lt_of_le hk h2) hX hY hxc hxm hyc hym (fun x hx => by have := hX9 hx; omega) (fun x hx => by have := hY9 hx; omega) (by omega)
  rw [hr] at this
  exact this
theorem ints_nat {w : World} {S1 S2 : Nat → Prop} {X Y : List Nat} {xA yA : Option Addr} {xc yc : Nat} (hX : IntsO w S1 (X.map Int.ofNat) xA) (hY : IntsO w S2 (Y.map Int.ofNat) yA) (hxc : X.length ≤ xc) (hxm : xc ≤ maxLen) (hyc : Y.length ≤ yc) (hym : yc ≤ maxLen) (h : X = Y) :
    Calls Try.prog 15 #[.slice xA X.length xc, .slice yA Y.length yc] w fun e w' => e = .returned (.bool true) ∧ BelC w w' := by
  have := ints_r w S1 S2 (X.map Int.ofNat) (Y.map Int.ofNat) xA yA xc yc true hX hY (by simpa using hxc) hxm (by simpa using hyc) hym (by simp [h])
  simp only [List.length_map] at this
  exact this.mono fun _ _ ⟨h1, n, h2⟩ => ⟨h1, by subst h2; exact (BelC.refl _).drewN n⟩

set_option maxRecDepth 100000 in
set_option maxHeartbeats 4000000 in
theorem lawmore_any (w : World) (S1 S2 : Nat → Prop) (g : RGr) (gv : Value) (M : List Int) (mA : Option Addr) (mc : Nat) (more : Int) (hS1 : ∀ k, S1 k → k < w.heap.size) (hg : GrV w S1 g gv) (hS2 : ∀ k, S2 k → k < w.heap.size) (hI : IntsO w S2 M mA) (hmc : M.length ≤ mc) (hmm : mc ≤ maxLen) :
    Calls Try.prog 6 #[gv, .slice mA M.length mc, .int .i64 more] w fun e w' => e = .returned (.bool true) ∧ Below w.heap.size w w' := by
  have hgK := hg
  obtain ⟨gA, gc, rfl, hgc, hgm, _⟩ := hg
  obtain ⟨w1, hw1⟩ : ∃ w1, w1 = w.alloc (.cells #[.slice gA g.nodes.length gc, .int .i64 g.root] 24) := ⟨_, rfl⟩
  have hb1 : BelC w w1 := by rw [hw1]; exact (BelC.refl w).alloc _
  have hq0 : Blk w1 w.heap.size (.cells #[.slice gA g.nodes.length gc, .int .i64 g.root] 24 (0, 0)) := by rw [hw1]; exact Blk.new' _ _ _ rfl
  have hcell : ∀ W, BelC w1 W → (W.cell? ⟨w.heap.size, 0, none⟩ = some (.slice gA g.nodes.length gc) ∧ W.cell? ⟨w.heap.size, 1, none⟩ = some (.int .i64 g.root)) := fun W hW => ⟨BelC.old hW (hq0.cells.1 0), BelC.old hW (hq0.cells.1 1)⟩
  have HGo := Lib.hid (fun W (hW : BelC w1 W) => good_e (A := mA) (l := M.length) (c := mc) (m := 300) hS1 hgK (hb1.trans hW))
  have HCk := Lib.hid (fun W (hW : BelC w1 W) => check_e hS1 hgK (hb1.trans hW))
  have HGe := Lib.hid (fun (W : World) (S : Nat → Prop) (M' : List Int) (A' : Option Addr) (c' : Nat) (hW : BelC w1 W) => generic_e (W := W) (S2 := S) (M := M') (mA := A') (mc := c') hS1 hgK (hb1.trans hW))
  have HFi := Lib.hid (fun (W : World) (S : Nat → Prop) (M' : List Int) (A' : Option Addr) (c' : Nat) (hW : BelC w1 W) => fixed_e (W := W) (S2 := S) (M := M') (mA := A') (mc := c') hS1 hgK (hb1.trans hW))
  have hIW : ∀ W, BelC w1 W → IntsO W S2 M mA := fun W hW => IntsO.keep (fun k hk => ⟨hk, Below.block (hb1.trans hW) k (hS2 k hk)⟩) _ _ hI
  have hSW : ∀ W, BelC w1 W → ∀ k, S2 k → k < W.heap.size := fun W hW k hk => Nat.lt_of_lt_of_le (hS2 k hk) (Below.size (hb1.trans hW))
  have HIW := Lib.hid hIW
  have HSW := Lib.hid hSW
  have HC := Lib.hid hcell
  have HB1 := Lib.hid hb1
  obtain ⟨cg, hcg⟩ : ∃ c, g.code = c := ⟨_, rfl⟩
  rw [hcg] at HCk
  have HCg := Lib.hid hcg
  have hmm' := hmm
  unfold maxLen at hgm hmm'
  clear hgK hS1 hS2 hI hb1 hq0 hcell hIW hSW hcg
  go_enter Try.func6, Try.ntmps6
  go_wp2_with fail
  rw [← hw1]
  clear hw1
  refine (alive13_r w1).mono ?_
  rintro e w2 ⟨rfl, hb2'⟩
  have hb2 : BelC w1 w2 := hb2'
  have HB2 := Lib.hid hb2
  obtain ⟨k0, k1⟩ := HC.out w2 hb2
  clear hb2 hb2'
  go_upto_region 5 with (first
    | (go_at_call 8; (with_reducible refine (HGo.out w2 HB2.out).mono ?_); rintro e w3 ⟨⟨bb, rfl, h60⟩, hb3⟩; have hb13 := BelC.trans HB2.out hb3; have HB3 := Lib.hid hb13; obtain ⟨j0, j1⟩ := HC.out w3 hb13; clear hb3 hb13; rcases bb with _ | _)
    | (go_at_call 17; (with_reducible refine (HCk.out w3 HB3.out).mono ?_); rintro e w4 ⟨rfl, hb4⟩; have hb14 := BelC.trans HB3.out hb4; have HB4 := Lib.hid hb14; obtain ⟨i0, i1⟩ := HC.out w4 hb14; clear hb4 hb14; by_cases hc1 : cg = 0 <;> (first | subst hc1 | have hc1b : (cg != 0) = true := bne_iff_ne.2 hc1) <;> by_cases hm1 : more < 0 <;> by_cases hm2 : (g.nodes.length : Int) ≤ more))
  all_goals try (go_ret; first | exact ⟨rfl, BelC.trans HB1.out HB3.out⟩ | exact ⟨rfl, BelC.trans HB1.out HB4.out⟩)
  have hok := RGr.ok_code HCg.out
  have HOk := Lib.hid hok
  clear hok k0 k1 j0 j1 HGo HCk
  have hpos : 0 ≤ more := by omega
  by_cases hmo : g.monoOk M = true
  · obtain ⟨hMe, hMl⟩ := mono_nat hmo
    have hmc0 : g.mcode M = 0 := ok_mcode HOk.out hmo
    obtain ⟨Mn, hMn⟩ : ∃ Mn, Mn = M.map Int.toNat := ⟨_, rfl⟩
    rw [← hMn] at hMe hMl
    obtain ⟨mr, hmr⟩ : ∃ mr : Nat, more = (mr : Int) := ⟨more.toNat, by omega⟩
    have hmrN : mr < g.nodes.length := by omega
    subst hmr
    have hl60 : (M.length : Int) ≤ 60 := by simpa using h60
    have hGU : g.genU M = g.genL Mn := by unfold RGr.genU; rw [if_pos hmc0, hMn]
    have hFU : g.fixU M = g.fixL Mn := by unfold RGr.fixU; rw [if_pos hmc0, hMn]
    have hge1 := HGe.out w4 S2 M mA mc HB4.out (HSW.out w4 HB4.out) (HIW.out w4 HB4.out) hmc hmm
    have hfi1 := fun W (hW : BelC w1 W) => HFi.out W S2 M mA mc hW (HSW.out W hW) (HIW.out W hW) hmc hmm
    rw [hmc0, hGU] at hge1
    rw [hmc0, hFU] at hfi1
    have HGe1 := Lib.hid hge1
    have HFi1 := Lib.hid hfi1
    have HMo := Lib.hid hmo
    have HMe := Lib.hid hMe
    have HMl := Lib.hid hMl
    clear hge1 hfi1 hmo hMe hMl hmc0 hMn hGU hFU
    go_upto_region 9 with (first
      | (go_at_call 11; (with_reducible refine HGe1.out.mono ?_); rintro e w5 ⟨A5, c5, rfl, n5, m5, st5, hb5⟩; have hb15 := BelC.trans HB4.out hb5; have HB5 := Lib.hid hb15; have HB45 := Lib.hid hb5; have HSt5 := Lib.hid st5; obtain ⟨p0, p1⟩ := HC.out w5 hb15; clear hb5 hb15 st5)
      | (go_at_call 9; (with_reducible refine (HFi1.out w5 HB5.out).mono ?_); rintro e w6 ⟨A6, c6, rfl, n6, m6, st6, hb6⟩; have hb16 := BelC.trans HB5.out hb6; have HB6 := Lib.hid hb16; have HB56 := Lib.hid hb6; have HSt6 := Lib.hid st6; have hx6 := HC.out w6 hb16; clear hb6 hb16 st6))
    obtain ⟨i0', hi, hz0, hz1, hz2⟩ := info_parts infoInt
    have hc16 : ∀ W, BelC w6 W → W.cell? ⟨w.heap.size, 0, none⟩ = some (.slice gA g.nodes.length gc) ∧ W.cell? ⟨w.heap.size, 1, none⟩ = some (.int .i64 g.root) := fun W hW => HC.out W (BelC.trans HB6.out hW)
    have HC6 := Lib.hid hc16
    have hL6 : ∀ W, BelC w6 W → LiesAt srtI W (fun _ => False) M mA := fun W hW => lies_ints (HIW.out W (BelC.trans HB6.out hW))
    have HL6 := Lib.hid hL6
    have hge6 : ∀ (W : World) (M' : List Int) (A' : Option Addr) (c' : Nat), BelC w6 W → IntsO W (fun k => k < W.heap.size) M' A' → M'.length ≤ c' → c' ≤ maxLen → _ := fun W M' A' c' hW h1 h2 h3 => HGe.out W (fun k => k < W.heap.size) M' A' c' (BelC.trans HB6.out hW) (fun k hk => hk) h1 h2 h3
    have HGe6 := Lib.hid hge6
    clear hc16 hL6 hge6 p0 p1 h60
    go_region_held3 (fun W => W.cell? ⟨w.heap.size, 0, none⟩ = some (.slice gA g.nodes.length gc) ∧ W.cell? ⟨w.heap.size, 1, none⟩ = some (.int .i64 g.root))
      (first | with_reducible exact hx6 | (with_reducible refine HC6.out _ ?_; (· repeat (first | with_reducible assumption | with_reducible exact BelC.refl _ | with_reducible refine BelC.alloc ?_ _ | with_reducible refine BelC.drew ?_))))
      (first | (refine step_catA (T := srtI) (base := w6.heap.size) (v := .slice (some ⟨w6.heap.size, 0, none⟩) 1 1) (S := fun _ => False) (es := [(mr : Int)]) (ms := M) rfl (.tmp 67) (.tmp 68) 25 3 rfl i0' _ 8 Try.underlying25 hi hz0 hz1 hz2 rfl rfl (rowOne ?_ (Nat.le_refl _)) mA mc rfl (HL6.out _ ?_) ?_ ?_ ?_ ?_; (· show Blk _ _ _; (· repeat (first | (with_reducible refine Blk.new' _ _ _ ?_; (· first | omega | (simp <;> omega))) | with_reducible refine Blk.alloc ?_ _ | with_reducible refine Blk.drew ?_))); (· repeat (first | with_reducible assumption | with_reducible exact BelC.refl _ | with_reducible refine BelC.alloc ?_ _ | with_reducible refine BelC.drew ?_)); (· simp [maxLen]; omega); (· simp; omega); (· first | omega | (simp <;> omega)); intro v7 w7 hrow7 hk7 hb7; obtain ⟨A7, c7, rfl, hn7, hm7⟩ := hrow7.form; refine cut_ (P := BelC w6 w7) ?_ (fun hbc7 => ?_); (· refine Below.trans ?_ (hk7.below ?_ ?_); (· show BelC _ _; (· repeat (first | with_reducible assumption | with_reducible exact BelC.refl _ | with_reducible refine BelC.alloc ?_ _ | with_reducible refine BelC.drew ?_))); (· first | omega | (simp <;> omega)); (· intro i hi e; simp [Value.ownBlock] at e <;> omega))) | (go_at_call 11; refine (HGe6.out _ ([(mr : Int)] ++ M) A7 c7 ?_ ?_ hn7 hm7).mono ?_; (· repeat (first | with_reducible assumption | with_reducible exact BelC.refl _ | with_reducible refine BelC.alloc ?_ _ | with_reducible refine BelC.drew ?_)); (· obtain ⟨A9, c9, e9, _, _, i9⟩ := hrow7.ints (S' := fun k => k < w7.heap.size) (fun _ e => e.elim) (fun k _ h2 => h2); simp only [Value.slice.injEq] at e9; obtain ⟨rfl, _, rfl⟩ := e9; exact i9); rintro e w8 ⟨A8, c8, rfl, n8, m8, st8, hb8⟩; refine cut_ (P := BelC w6 w8) (BelC.trans ?_ hb8) (fun hbc8 => ?_); (· repeat (first | with_reducible assumption | with_reducible exact BelC.refl _ | with_reducible refine BelC.alloc ?_ _ | with_reducible refine BelC.drew ?_))))
    have hM1 : g.monoOk ([(mr : Int)] ++ M) = true := mono_app (by simp [RGr.monoOk]; omega) HMo.out
    have hG1 : g.genU ([(mr : Int)] ++ M) = g.genL (mr :: Mn) := by
      unfold RGr.genU
      rw [if_pos (ok_mcode HOk.out hM1), HMe.out]
      have he : (Mn.map Int.ofNat).map Int.toNat = Mn := by rw [List.map_map]; exact List.map_id'' (fun _ => rfl) _
      rw [List.map_append, he]; rfl
    rw [hG1] at n8 st8
    have HSt8 := Lib.hid st8
    have HB8 := Lib.hid (BelC.trans HB6.out hbc8)
    have HB68 := Lib.hid hbc8
    have hx8 := HC6.out w8 hbc8
    have hc18 : ∀ W, BelC w8 W → W.cell? ⟨w.heap.size, 0, none⟩ = some (.slice gA g.nodes.length gc) ∧ W.cell? ⟨w.heap.size, 1, none⟩ = some (.int .i64 g.root) := fun W hW => HC.out W (BelC.trans HB8.out hW)
    have HC8 := Lib.hid hc18
    have HL8 := Lib.hid (fun W (hW : BelC w8 W) => HL6.out W (BelC.trans HB68.out hW))
    have hfi8 : ∀ (W : World) (M' : List Int) (A' : Option Addr) (c' : Nat), BelC w8 W → IntsO W (fun k => k < W.heap.size) M' A' → M'.length ≤ c' → c' ≤ maxLen → _ := fun W M' A' c' hW h1 h2 h3 => HFi.out W (fun k => k < W.heap.size) M' A' c' (BelC.trans HB8.out hW) (fun k hk => hk) h1 h2 h3
    have HFi8 := Lib.hid hfi8
    rw [show g.genU ((mr : Int) :: M) = g.genL (mr :: Mn) from hG1, show g.mcode ((mr : Int) :: M) = 0 from ok_mcode HOk.out hM1]
    obtain ⟨ML, hML⟩ : ∃ L, L = M ++ [(mr : Int)] := ⟨_, rfl⟩
    have HML := Lib.hid hML
    clear hML
    clear hc18 hfi8 hM1 hG1 st8 hbc8 hrow7 hk7 hb7 hbc7 hb8 hx6 HGe6 HGe1 HFi1
    go_wp2_with fail
    go_region_held3 (fun W => W.cell? ⟨w.heap.size, 0, none⟩ = some (.slice gA g.nodes.length gc) ∧ W.cell? ⟨w.heap.size, 1, none⟩ = some (.int .i64 g.root))
      (first | with_reducible exact hx8 | (with_reducible refine HC8.out _ ?_; (· repeat (first | with_reducible assumption | with_reducible exact BelC.refl _ | with_reducible refine BelC.alloc ?_ _ | with_reducible refine BelC.drew ?_))))
      (first | (go_at_call 9; refine (HFi8.out _ ML A10 c10 ?_ ?_ hn10 hm10).mono ?_; (· repeat (first | with_reducible assumption | with_reducible exact BelC.refl _ | with_reducible refine BelC.alloc ?_ _ | with_reducible refine BelC.drew ?_)); (· obtain ⟨Ax, cx, ex, _, _, ix⟩ := hrow10.ints (S' := fun k => k < w10.heap.size) (fun _ e => e.elim) (fun k _ h2 => h2); simp only [Value.slice.injEq] at ex; obtain ⟨rfl, _, rfl⟩ := ex; exact ix); rintro e w11 ⟨A11, c11, rfl, n11, m11, st11, hb11⟩; refine cut_ (P := BelC w8 w11) (BelC.trans ?_ hb11) (fun hbc11 => ?_); (· repeat (first | with_reducible assumption | with_reducible exact BelC.refl _ | with_reducible refine BelC.alloc ?_ _ | with_reducible refine BelC.drew ?_))) | (refine step_catA (T := srtI) (base := w8.heap.size) (v := .slice (some ⟨_, 0, none⟩) 0 0) (S := fun _ => False) (es := []) (ms := M) rfl (.tmp 75) (.tmp 76) 25 3 rfl i0' _ 8 Try.underlying25 hi hz0 hz1 hz2 rfl rfl (RowG.empty ?_ ?_) mA mc rfl (HL8.out _ ?_) ?_ ?_ ?_ ?_; (· show Blk _ _ _; (· repeat (first | with_reducible assumption | (with_reducible refine Blk.new' _ _ _ ?_; (· first | omega | (simp <;> omega))) | with_reducible refine Blk.alloc ?_ _ | with_reducible refine Blk.drew ?_))); (· first | omega | (simp <;> omega)); (· repeat (first | with_reducible assumption | with_reducible exact BelC.refl _ | with_reducible refine BelC.alloc ?_ _ | with_reducible refine BelC.drew ?_)); (· simp [maxLen]; omega); (· simp; omega); (· first | omega | (simp <;> omega)); intro v9 w9 hrow9 hk9 hb9; rw [List.nil_append] at hrow9; obtain ⟨A9, c9, rfl, hn9, hm9⟩ := hrow9.form; refine cut_ (P := BelC w8 w9) ?_ (fun hbc9 => ?_); (· refine Below.trans ?_ (hk9.below ?_ ?_); (· show BelC _ _; (· repeat (first | with_reducible assumption | with_reducible exact BelC.refl _ | with_reducible refine BelC.alloc ?_ _ | with_reducible refine BelC.drew ?_))); (· first | omega | (simp <;> omega)); (· intro i hi e; simp [Value.ownBlock] at e <;> omega)); have hrk9 := (fun W (hW : BelC w9 W) => (hrow9.keep (F := fun _ => False) (Keeps.of_below0 hW) (fun _ e _ => e.elim) : RowG srtI 3 w8.heap.size W (fun _ => False) _ M)); (first | (refine cut_ (P := Blk w9 (w8.heap.size + 1) (.cells #[.int .i64 (mr : Int)] 3 (0, 0))) ((hk9.block (w8.heap.size + 1) ?_ ?_).trans ?_) (fun hq9 => ?_); (· first | omega | (simp <;> omega)); (· intro e; simp [Value.ownBlock] at e <;> omega); (· show Blk _ _ _; (· repeat (first | with_reducible assumption | (with_reducible refine Blk.new' _ _ _ ?_; (· first | omega | (simp <;> omega))) | with_reducible refine Blk.alloc ?_ _ | with_reducible refine Blk.drew ?_)))) | (refine cut_ (P := Blk w9 w8.heap.size (.cells #[.int .i64 (mr : Int)] 3 (0, 0))) ((hk9.block w8.heap.size ?_ ?_).trans ?_) (fun hq9 => ?_); (· first | omega | (simp <;> omega)); (· intro e; simp [Value.ownBlock] at e <;> omega); (· show Blk _ _ _; (· repeat (first | with_reducible assumption | (with_reducible refine Blk.new' _ _ _ ?_; (· first | omega | (simp <;> omega))) | with_reducible refine Blk.alloc ?_ _ | with_reducible refine Blk.drew ?_)))) | skip)) | (refine step_growB (T := srtI) (base := w8.heap.size) (S := fun _ => False) (v := .slice A9 M.length c9) (es := M) (ms := [(mr : Int)]) rfl (.tmp 77) (.tmp 79) 25 3 rfl i0' (.int .i64 0) 8 Try.underlying25 hi hz0 hz1 hz2 rfl (by rfl) (hrk9 _ ?_) ⟨_, 0, none⟩ 1 [.int .i64 (mr : Int)] (by rfl) (blkNew (t := 3) ?_) (Items.one srtI (a := (mr : Int)) (v := .int .i64 (mr : Int)) rfl) ?_ ?_ ?_ (by simp) ?_; (· repeat (first | with_reducible assumption | with_reducible exact BelC.refl _ | with_reducible refine BelC.alloc ?_ _ | with_reducible refine BelC.drew ?_)); (· show Blk _ _ _; (· repeat (first | with_reducible assumption | (with_reducible refine Blk.new' _ _ _ ?_; (· first | omega | (simp <;> omega))) | with_reducible refine Blk.alloc ?_ _ | with_reducible refine Blk.drew ?_))); (· simp [maxLen]; omega); (· simp; omega); (· have := Below.size hbc9; first | omega | (simp <;> omega)); intro v10 w10 hrow10 hk10 hb10; rw [← HML.out] at hrow10; obtain ⟨A10, c10, rfl, hn10, hm10⟩ := hrow10.form; refine cut_ (P := BelC w8 w10) (Below.trans ?_ (hk10.below ?_ ?_)) (fun hbc10 => ?_); (· show BelC _ _; (· repeat (first | with_reducible assumption | with_reducible exact BelC.refl _ | with_reducible refine BelC.alloc ?_ _ | with_reducible refine BelC.drew ?_))); (· have := Below.size hbc9; first | omega | (simp <;> omega)); (· intro i hi e; have := (hrow9.block e).1; omega)))
    all_goals
      have hM2 : g.monoOk ML = true := by rw [HML.out]; exact mono_app HMo.out (by simp [RGr.monoOk]; omega)
      have hF2 : g.fixU ML = g.fixL (Mn ++ [mr]) := by
        unfold RGr.fixU
        rw [if_pos (ok_mcode HOk.out hM2), HML.out, HMe.out]
        have he : (Mn.map Int.ofNat).map Int.toNat = Mn := by rw [List.map_map]; exact List.map_id'' (fun _ => rfl) _
        rw [List.map_append, he]; rfl
      rw [hF2] at n11 st11
      rw [hF2, ok_mcode HOk.out hM2]
      have HSt11 := Lib.hid st11
      have HB11 := Lib.hid (BelC.trans HB8.out hbc11)
      have HB811 := Lib.hid hbc11
      have hx11 := HC8.out w11 hbc11
      have hc11 : ∀ W, BelC w11 W → W.cell? ⟨w.heap.size, 0, none⟩ = some (.slice gA g.nodes.length gc) ∧ W.cell? ⟨w.heap.size, 1, none⟩ = some (.int .i64 g.root) := fun W hW => HC.out W (BelC.trans HB11.out hW)
      have HC11 := Lib.hid hc11
      have HL11 := Lib.hid (fun W (hW : BelC w11 W) => HL8.out W (BelC.trans HB811.out hW))
      have hfi11 : ∀ (W : World) (M' : List Int) (A' : Option Addr) (c' : Nat), BelC w11 W → IntsO W (fun k => k < W.heap.size) M' A' → M'.length ≤ c' → c' ≤ maxLen → _ := fun W M' A' c' hW h1 h2 h3 => HFi.out W (fun k => k < W.heap.size) M' A' c' (BelC.trans HB11.out hW) (fun k hk => hk) h1 h2 h3
      have HFi11 := Lib.hid hfi11
      obtain ⟨MM, hMM⟩ : ∃ L, L = M ++ M := ⟨_, rfl⟩
      have HMM := Lib.hid hMM
      clear hMM hc11 hfi11 hM2 hF2 st11 hbc11 hx8 HFi8
      try clear hrow10
      try clear hrow9
      try clear hk10
      try clear hk9
      try clear hb10
      try clear hb9
      try clear hrk9
      try clear hbc9
      try clear hbc10
      try clear hq9
      try clear hb11
      go_wp2_with fail
      go_region_held3 (fun W => W.cell? ⟨w.heap.size, 0, none⟩ = some (.slice gA g.nodes.length gc) ∧ W.cell? ⟨w.heap.size, 1, none⟩ = some (.int .i64 g.root))
        (first | with_reducible exact hx11 | (with_reducible refine HC11.out _ ?_; (· repeat (first | with_reducible assumption | with_reducible exact BelC.refl _ | with_reducible refine BelC.alloc ?_ _ | with_reducible refine BelC.drew ?_))))
        (first | (go_at_call 9; refine (HFi11.out _ MM A13 c13 ?_ ?_ hn13 hm13).mono ?_; (· repeat (first | with_reducible assumption | with_reducible exact BelC.refl _ | with_reducible refine BelC.alloc ?_ _ | with_reducible refine BelC.drew ?_)); (· obtain ⟨Ax, cx, ex, _, _, ix⟩ := hrow13.ints (S' := fun k => k < w13.heap.size) (fun _ e => e.elim) (fun k _ h2 => h2); simp only [Value.slice.injEq] at ex; obtain ⟨rfl, _, rfl⟩ := ex; exact ix); rintro e w14 ⟨A14, c14, rfl, n14, m14, st14, hb14⟩; refine cut_ (P := BelC w11 w14) (BelC.trans ?_ hb14) (fun hbc14 => ?_); (· repeat (first | with_reducible assumption | with_reducible exact BelC.refl _ | with_reducible refine BelC.alloc ?_ _ | with_reducible refine BelC.drew ?_))) | (refine step_catA (T := srtI) (base := w11.heap.size) (v := .slice (some ⟨_, 0, none⟩) 0 0) (S := fun _ => False) (es := []) (ms := M) rfl (.tmp 86) (.tmp 87) 25 3 rfl i0' _ 8 Try.underlying25 hi hz0 hz1 hz2 rfl rfl (RowG.empty ?_ ?_) mA mc rfl (HL11.out _ ?_) ?_ ?_ ?_ ?_; (· show Blk _ _ _; (· repeat (first | with_reducible assumption | (with_reducible refine Blk.new' _ _ _ ?_; (· first | omega | (simp <;> omega))) | with_reducible refine Blk.alloc ?_ _ | with_reducible refine Blk.drew ?_))); (· first | omega | (simp <;> omega)); (· repeat (first | with_reducible assumption | with_reducible exact BelC.refl _ | with_reducible refine BelC.alloc ?_ _ | with_reducible refine BelC.drew ?_)); (· simp [maxLen]; omega); (· simp; omega); (· first | omega | (simp <;> omega)); intro v12 w12 hrow12 hk12 hb12; rw [List.nil_append] at hrow12; obtain ⟨A12, c12, rfl, hn12, hm12⟩ := hrow12.form; refine cut_ (P := BelC w11 w12) ?_ (fun hbc12 => ?_); (· refine Below.trans ?_ (hk12.below ?_ ?_); (· show BelC _ _; (· repeat (first | with_reducible assumption | with_reducible exact BelC.refl _ | with_reducible refine BelC.alloc ?_ _ | with_reducible refine BelC.drew ?_))); (· first | omega | (simp <;> omega)); (· intro i hi e; simp [Value.ownBlock] at e <;> omega))) | (refine step_catA (T := srtI) (base := w11.heap.size) (v := .slice A12 M.length c12) (S := fun _ => False) (es := M) (ms := M) rfl (.tmp 88) (.tmp 89) 25 3 rfl i0' _ 8 Try.underlying25 hi hz0 hz1 hz2 rfl rfl hrow12 mA mc rfl (HL11.out _ ?_) ?_ ?_ ?_ ?_; (· repeat (first | with_reducible assumption | with_reducible exact BelC.refl _ | with_reducible refine BelC.alloc ?_ _ | with_reducible refine BelC.drew ?_)); (· simp [maxLen]; omega); (· first | omega | (simp; omega)); (· have := Below.size hbc12; first | omega | (simp <;> omega)); intro v13 w13 hrow13 hk13 hb13; rw [← HMM.out] at hrow13; obtain ⟨A13, c13, rfl, hn13, hm13⟩ := hrow13.form; refine cut_ (P := BelC w11 w13) (Below.trans ?_ (hk13.below ?_ ?_)) (fun hbc13 => ?_); (· show BelC _ _; (· repeat (first | with_reducible assumption | with_reducible exact BelC.refl _ | with_reducible refine BelC.alloc ?_ _ | with_reducible refine BelC.drew ?_))); (· have := Below.size hbc12; first | omega | (simp <;> omega)); (· intro i hi e; have := (hrow12.block e).1; omega)))
      have hM3 : g.monoOk MM = true := by rw [HMM.out]; exact mono_app HMo.out HMo.out
      have hF3 : g.fixU MM = g.fixL (Mn ++ Mn) := by
        unfold RGr.fixU
        rw [if_pos (ok_mcode HOk.out hM3), HMM.out, HMe.out]
        have he : (Mn.map Int.ofNat).map Int.toNat = Mn := by rw [List.map_map]; exact List.map_id'' (fun _ => rfl) _
        rw [List.map_append, he]
      rw [hF3] at n14 st14
      rw [hF3, ok_mcode HOk.out hM3]
      have HB14 := Lib.hid hbc14
      have hB5 : BelC w5 w14 := BelC.trans HB56.out (BelC.trans HB68.out (BelC.trans HB811.out HB14.out))
      have hB6 : BelC w6 w14 := BelC.trans HB68.out (BelC.trans HB811.out HB14.out)
      have hB8 : BelC w8 w14 := BelC.trans HB811.out HB14.out
      have hmrL : ∀ m, m ∈ mr :: Mn → m < g.nodes.length := fun m hm => by
        rcases List.mem_cons.1 hm with rfl | h
        · exact hmrN
        · exact HMl.out m h
      have hapL : ∀ m, m ∈ Mn ++ [mr] → m < g.nodes.length := fun m hm => by
        rcases List.mem_append.1 hm with h | h
        · exact HMl.out m h
        · rw [List.mem_singleton.1 h]; exact hmrN
      have hdbL : ∀ m, m ∈ Mn ++ Mn → m < g.nodes.length := fun m hm => by
        rcases List.mem_append.1 hm with h | h <;> exact HMl.out m h
      have hW1 := within_nat (w := w14) HOk.out (HSt8.out w14 hB8) (HSt5.out w14 hB5) (Below.size hB8) (Below.size hB5) n8 m8 n5 m5 (RGr.genL_lt _) (RGr.genL_lt _) (RGr.genL_len _) (genL_anti HOk.out hmrL (fun m hm => List.mem_cons_of_mem _ hm))
      have hW2 := fun (W : World) (hW : BelC w14 W) => within_nat (w := W) HOk.out (HSt6.out W (BelC.trans hB6 hW)) (HSt11.out W (BelC.trans HB14.out hW)) (Below.size (BelC.trans hB6 hW)) (Below.size (BelC.trans HB14.out hW)) n6 m6 n11 m11 (RGr.fixL_lt _) (RGr.fixL_lt _) (RGr.fixL_len _) (fixL_mono HOk.out hapL (fun m hm => List.mem_append_left _ hm))
      have hW3 := fun (W : World) (hW : BelC w14 W) => ints_nat (w := W) (st14 W hW) (HSt6.out W (BelC.trans hB6 hW)) n14 m14 n6 m6 (fixL_same HOk.out hdbL HMl.out (fun m => by simp))
      have HW1 := Lib.hid hW1
      have HW2 := Lib.hid hW2
      have HW3 := Lib.hid hW3
      clear hW1 hW2 hW3 hB5 hB6 hB8 hmrL hapL hdbL st14 hM3 hF3 hbc14 hx11 HFi11
      try clear hrow13
      try clear hrow12
      try clear hk13
      try clear hk12
      try clear hb13
      try clear hb12
      try clear hb14
      go_wp2_with (first
        | (go_at_call 21; first
            | ((with_reducible refine HW1.out.mono ?_); rintro e w15 ⟨rfl, hb15⟩; have HB15 := Lib.hid hb15; clear hb15)
            | ((with_reducible refine (HW2.out w15 HB15.out).mono ?_); rintro e w16 ⟨rfl, hb16⟩; have HB16 := Lib.hid (BelC.trans HB15.out hb16); clear hb16))
        | (go_at_call 15; (with_reducible refine (HW3.out w16 HB16.out).mono ?_); rintro e w17 ⟨rfl, hb17⟩; have HB17 := Lib.hid (BelC.trans HB16.out hb17); clear hb17))
      go_ret
      exact ⟨rfl, BelC.trans HB1.out (BelC.trans HB11.out (BelC.trans HB14.out HB17.out))⟩
  · have hmc2 : g.mcode M = 2 := by unfold RGr.mcode; rw [if_pos HCg.out, if_neg hmo]
    have hge1 := HGe.out w4 S2 M mA mc HB4.out (HSW.out w4 HB4.out) (HIW.out w4 HB4.out) hmc hmm
    have hfi1 := fun W (hW : BelC w1 W) => HFi.out W S2 M mA mc hW (HSW.out W hW) (HIW.out W hW) hmc hmm
    rw [hmc2] at hge1 hfi1
    have HGe1 := Lib.hid hge1
    have HFi1 := Lib.hid hfi1
    clear hge1 hfi1 hmo hmc2
    go_wp2_with (first
      | (go_at_call 11; (with_reducible refine HGe1.out.mono ?_); rintro e w5 ⟨A5, c5, rfl, _, _, _, hb5⟩; have hb15 := BelC.trans HB4.out hb5; have HB5 := Lib.hid hb15; obtain ⟨p0, p1⟩ := HC.out w5 hb15; clear hb5 hb15)
      | (go_at_call 9; (with_reducible refine (HFi1.out w5 HB5.out).mono ?_); rintro e w6 ⟨A6, c6, rfl, _, _, _, hb6⟩; have HB6 := Lib.hid (BelC.trans HB5.out hb6); clear hb6))
    go_ret
    exact ⟨rfl, BelC.trans HB1.out HB6.out⟩

set_option maxRecDepth 100000 in
theorem genmore_lifted (os : Os) (started : os.Started) (H : Type) (enc : TypeId × Value → H) :
    ReturnsInHanded {} Try.checked os 6 .any (Rows.genMoreSpec.pre6 enc Try.prog Try.f6 Rows.genMoreRow.domain false) (Rows.genMoreSpec.post enc Try.prog Try.f6 false true false false) := by
  refine returnsInHanded_of_change_sized (C := Try.checked) lawOwn started (by kernel_rfl) Try.func6
    (ChangeSpec.witness6 (enc := enc) (C := Try.checked) false ⟨#[], #[.agg #[.slice none 0 0, .int .i64 0], .slice none 0 0, .int .i64 0], []⟩ 8 (by kernel_rfl) (by kernel_rfl) (by kernel_rfl) (by kernel_rfl)) ?_
  intro W base args ds gs before hval0 hW _ hsz0 _
  have hsz : (DataW.weightsEach Try.prog (Try.f6.params.toList ++ Rows.genMoreSpec.plain.varTypes Try.prog) (ds ++ gs)).all (· ≤ reachBytes) = true := hsz0
  clear hsz0
  have hval : ∀ (j : Nat) t v, Try.f6.params[j]? = some t → args[j]? = some v → Value.okWide Try.prog W .any base t v := hval0
  have hW' := hW
  obtain ⟨p, q, hA0, hV, rfl, _, _⟩ := hW
  have hA : DataW.TrodAll enc Try.prog W 0 (fun _ => true) true Try.f6.params.toList args.toList ds p := hA0
  rw [Try.params6] at hA hval hsz
  obtain ⟨v0, v1, v2, d0, d1, d2, p0, p1, p2, rfl, rfl, rfl, h0, h1, h2⟩ := trodAll_three hA
  obtain ⟨rfl, rfl⟩ := trodVars_none hV
  have hsz1 : (DataW.weightsEach Try.prog [24, 25, 3] [d0, d1, d2]).all (· ≤ reachBytes) = true := hsz
  have hwt := fun n hn => of_decide_eq_true (List.all_eq_true.1 hsz1 n hn)
  obtain ⟨g, hg, _⟩ := open_graph (hval 0 24 v0 rfl rfl) h0 (fun n hn => hwt n (DataW.weights_mem_each (j := 0) (t := 24) (d := d0) rfl rfl n hn))
  obtain ⟨sA, sl, sc, rfl⟩ := okWide_slice Try.underlying25 (hval 1 25 v1 rfl rfl)
  have h1' := h1
  obtain ⟨f1, hf1⟩ := h1'
  have hf1 : DataW.trod enc Try.prog W 0 (fun _ => true) true f1 25 [.slice sA sl sc] = some (d1, p1) := hf1
  obtain ⟨M, mA, mc, he, hmc, hmm, hI, _⟩ := open_ints hf1 (fun n hn => hwt n (DataW.weights_mem_each (j := 1) (t := 25) (d := d1) rfl rfl n hn))
  simp only [Value.slice.injEq] at he
  obtain ⟨rfl, rfl, rfl⟩ := he
  obtain ⟨more, rfl, rfl, rfl, wm⟩ := open_int Try.underlying3 (hval 2 3 v2 rfl rfl) h2
  clear hA0 hval0
  simp only [List.append_nil] at hW'
  have hlt : ∀ x ∈ p0 ++ p1, x.block < W.heap.size := fun x hx => by simpa using hW'.lt x (by simpa using hx)
  refine (lawmore_any W _ _ g v0 M sA sc more (fun _ h => h) hg (fun _ h => h) hI hmc hmm).mono fun e W' ⟨he, hnx⟩ => ?_
  subst he
  refine ⟨_, rfl, _, _, _, [], p0 ++ p1, [], hW', ?_, ?_, rfl, hnx.frame _, fun h => by cases h⟩
  · exact trodAll_mk1 (shut_bool Try.underlying4 true)
  · have h3 := trodAll_mk3 (Below.trod lawLaid (by kernel_rfl) (of_decide_eq_true (by kernel_rfl)) h0 hnx (fun x hx => hlt x (List.mem_append_left _ hx))) (Below.trod lawLaid (by kernel_rfl) (of_decide_eq_true (by kernel_rfl)) h1 hnx (fun x hx => hlt x (List.mem_append_right _ hx))) (shut_int Try.underlying3 wm)
    simp only [List.append_nil] at h3
    exact h3

theorem genmore_holds : Rows.GenMoreSaid :=
  OpenClaim.holds_of_wide 6 Try.f6 rfl rfl rfl rfl rfl rfl rfl ⟨rfl, rfl, rfl, rfl, rfl⟩ rfl rfl rfl rfl rfl (by kernel_rfl) Try.func6 (by kernel_rfl)
    (of_decide_eq_true (by kernel_rfl)) (by unfold Func.isWrapper; first | (rw [if_pos (by decide +kernel)]; kernel_rfl) | (rw [if_neg (by decide +kernel)]; exact ⟨rfl, rfl⟩))
    (fun os started H enc _ => genmore_lifted os started H enc)

#print axioms genmore_holds
end Go.Proofs.Ytnhdgndjpkdhdaa

/-
  trefoillaw06.GraphTurns is true for every input whose values and letters are 1048576 at most, and leaves its arguments as they were.
-/
import Derived.Test.YtipehahfbcbigaaLCom
import Derived.Test.YtipehahfbcbigaaLTurM
import Derived.Deep.CondSized
namespace Go.Proofs.Ytipehahfbcbigaa
open Go.IntWalk Go.ChangeShapes Go.WideShapes Go.ChangeAt Go.RowKit Go.Deep

set_option maxRecDepth 100000 in
set_option maxHeartbeats 4000000 in
theorem lawturns_any (w : World) (S1 : Nat → Prop) (g : RGr) (gv : Value) (b t : Nat) (hbt : b ≤ 255 ∧ t ≤ 255) (hn : g.nodes.length + 3 ≤ 1048576) (hF : g.fits) (hS1 : ∀ k, S1 k → k < w.heap.size) (hg : GrV w S1 g gv) :
    Calls Try.prog 6 #[gv, .int .u8 b, .int .u8 t] w fun e w' => e = .returned (.bool true) ∧ Below w.heap.size w w' := by
  have hgK := hg
  obtain ⟨gA, gc, rfl, hgc, hgm, oG⟩ := hg
  unfold maxLen at hgm
  obtain ⟨w1, hw1⟩ : ∃ w1, w1 = w.alloc (.cells #[.slice gA g.nodes.length gc, .int .i64 g.root] 24) := ⟨_, rfl⟩
  have hsz1 : w1.heap.size = w.heap.size + 1 := by rw [hw1]; simp
  have hb1 : Below w.heap.size w w1 := by rw [hw1]; exact (Below.refl _ _).alloc (Nat.le_refl _) _
  have hq0 : Blk w1 w.heap.size (.cells #[.slice gA g.nodes.length gc, .int .i64 g.root] 24 (0, 0)) := by rw [hw1]; exact Blk.new' _ _ _ rfl
  have hcell : ∀ W, BelC w1 W → (W.cell? ⟨w.heap.size, 0, none⟩ = some (.slice gA g.nodes.length gc) ∧ W.cell? ⟨w.heap.size, 1, none⟩ = some (.int .i64 g.root)) := fun W hW => ⟨BelC.old hW (hq0.cells.1 0), BelC.old hW (hq0.cells.1 1)⟩
  have hgW := hgK.keep (w' := w1) (S' := S1) (fun k hk => ⟨hk, hb1.block k (hS1 k hk)⟩)
  have hT1 : ∀ k, S1 k → k < w1.heap.size := fun k hk => Nat.lt_of_lt_of_le (hS1 k hk) hb1.size
  have HON := Lib.hid (NdsO.keep (fun j hj => ⟨hj, hb1.block j (hS1 j hj)⟩) _ _ oG : NdsO w1 S1 g.nodes gA)
  obtain ⟨cg, hcg⟩ : ∃ c, g.code = c := ⟨_, rfl⟩
  have HGg := Lib.hid (fun W (hW : BelC w1 W) => great_c hT1 hgW hW)
  have hKg := fun W (hW : BelC w1 W) => check_c hT1 hgW hW
  rw [hcg] at hKg
  have HKg := Lib.hid hKg
  have HC := Lib.hid hcell
  have HB1 := Lib.hid hb1
  have HCg := Lib.hid hcg
  have HT1 := Lib.hid hT1
  have HGW := Lib.hid hgW
  have HF := Lib.hid hF
  clear hgK hS1 hb1 hq0 hcell hgW hT1 oG hcg hKg hF
  go_enter Try.func6, Try.ntmps6
  go_wp2_with fail
  rw [← hw1]
  clear hw1
  refine (alive_c (BelC.refl w1)).mono ?_
  rintro e w2 ⟨rfl, hb2⟩
  have HB2 := Lib.hid hb2
  obtain ⟨k0, k1⟩ := HC.out w2 hb2
  clear hb2
  go_upto_region 5 with (first
    | (go_at_call 10; (with_reducible refine (HGg.out w2 HB2.out).mono ?_); rintro e w3 ⟨⟨z, rfl⟩, hb3⟩; have HB3 := Lib.hid hb3; obtain ⟨j0, j1⟩ := HC.out w3 hb3; clear hb3; by_cases hz : (300 : Int) < z)
    | (go_at_call 13; (with_reducible refine (HKg.out w3 HB3.out).mono ?_); rintro e w4 ⟨rfl, hb4⟩; have HB4 := Lib.hid hb4; have hx4 := HC.out w4 hb4; clear hb4; by_cases hc1 : cg = 0 <;> (first | subst hc1 | have hc1b : (cg != 0) = true := bne_iff_ne.2 hc1)))
  all_goals try (go_ret; first | exact ⟨rfl, HB1.out.trans (Below.mono HB3.out HB1.out.size)⟩ | exact ⟨rfl, HB1.out.trans (Below.mono HB4.out HB1.out.size)⟩)
  have hok := RGr.ok_of_code HCg.out
  obtain ⟨h0, hr0, hr1, _⟩ := RGr.ok_parts hok
  have HOk := Lib.hid hok
  obtain ⟨x0, x1⟩ := hx4
  have hs4 := Below.size HB4.out
  have hb41 := HB4.out
  obtain ⟨rg, hrg⟩ : ∃ rg : Nat, g.root = (rg : Int) := ⟨g.root.toNat, by omega⟩
  have hrl : rg < g.nodes.length := by omega
  have hwb : IntKind.i64.wrap (b : Int) = (b : Int) := i64_in _ (by omega)
  have hwr : IntKind.i64.wrap ((rg : Int) + (b : Int)) = (rg : Int) + (b : Int) := i64_in _ (by omega)
  have hwm : ((rg : Int) + (b : Int)).tmod (g.nodes.length : Int) = (((rg + b) % g.nodes.length : Nat) : Int) := by rw [← Int.natCast_add]; exact up_tmod rfl rfl
  have hnz : ¬ g.nodes = [] := fun e => by rw [e] at hrl; simp at hrl
  have hmk := fun W => makeNodesE W g.nodes.length (by omega)
  rw [hrg] at x1
  clear hok k0 k1 j0 j1 HGg HKg HB2 HB3 h0 hr0 hr1
  have hx4' : ∀ W, BelC w4 W → (W.cell? ⟨w.heap.size, 0, none⟩ = some (.slice gA g.nodes.length gc) ∧ W.cell? ⟨w.heap.size, 1, none⟩ = some (.int .i64 (rg : Int))) := fun W hW => by rw [← hrg]; exact HC.out W (Below.trans hb41 (Below.mono hW (Below.size hb41)))
  have HX4 := Lib.hid hx4'
  clear hx4'
  have hx4 := And.intro x0 x1
  have hS4 : ∀ q, S1 q → q < w4.heap.size := fun q hq => Nat.lt_of_lt_of_le (HT1.out q hq) hs4
  have HS4 := Lib.hid hS4
  clear hS4
  go_upto_region 6 with fail
  rename_i Q' hzz hrr K hKi
  have hK : ∀ (hb nb : Nat) (W : World), Trn S1 w4 W hb nb g.nodes.length g.nodes.length (((rg + b) % g.nodes.length : Nat) : Int) (List.replicate g.nodes.length zeroN) → Exit.then K Q' Exit.normal { tmps := #[.agg #[.slice gA g.nodes.length gc, .int .i64 (rg : Int)], .int .u8 (b : Int), .int .u8 (t : Int), .pointer (some ⟨w.heap.size, 0, none⟩), undef, undef, .bool false, .int .i64 (g.nodes.length : Int), .pointer (some ⟨hb, 0, none⟩), undef, undef, undef, undef, undef, undef, undef, undef, .bool true, .bool false, .agg #[.slice gA g.nodes.length gc, .int .i64 (rg : Int)], .int .i64 z, .bool (decide (300 < z)), .bool (decide (300 < z)), .agg #[.slice gA g.nodes.length gc, .int .i64 (rg : Int)], .int .i64 0, .bool false, .bool (decide (300 < z)), .pointer (some ⟨w.heap.size, 0, none⟩), .slice gA g.nodes.length gc, .int .i64 (g.nodes.length : Int), .pointer (some ⟨w.heap.size, 1, none⟩), .int .i64 (rg : Int), .int .u8 (b : Int), .int .i64 (b : Int), .int .i64 ((rg : Int) + (b : Int)), .int .i64 (g.nodes.length : Int), .int .i64 (((rg + b) % g.nodes.length : Nat) : Int), .int .i64 (g.nodes.length : Int), .slice (some ⟨nb, 0, none⟩) g.nodes.length g.nodes.length, .agg #[.slice (some ⟨nb, 0, none⟩) g.nodes.length g.nodes.length, .int .i64 (((rg + b) % g.nodes.length : Nat) : Int)], undef, undef, undef, undef, undef, undef, undef, undef, undef, undef, undef, undef, undef, undef, undef, undef, undef, undef, undef, undef, undef, undef, undef, undef, undef, undef, undef, undef, undef, undef, undef, undef, undef, undef, undef, undef, undef, undef, undef, undef, undef, undef, undef, undef, undef, undef, undef, undef, undef, undef, undef, undef, undef, undef, undef, undef, undef, undef, undef, undef, undef, undef, undef, undef, undef, undef, undef, undef, undef, undef, undef, undef, undef, undef, undef, undef, undef, undef, undef, undef, undef, undef, undef, undef, undef, undef, undef, undef, undef, undef, undef, undef, undef, undef, undef, undef, undef, undef, undef, undef, undef, undef, undef, undef, undef, undef, undef, undef, undef, undef, undef, undef, undef, undef, undef, undef, undef], defers := [] } W := by
    intro hb nb wB htr
    have HTr0 := Lib.hid htr
    obtain ⟨y0, y1⟩ := HX4.out wB htr.bel
    obtain ⟨j0, hj, hj0, hj1, hj2⟩ := info_parts infoInt
    clear htr hx4 x0 x1 hmk hwb hwr hwm
    refine hKi _ _ ?_
    go_wp2
    go_loopw [43] (fun v43 wr => ∃ i : Nat, v43 = .int .i64 i ∧ i ≤ g.nodes.length ∧ Trn S1 w4 wr hb nb g.nodes.length g.nodes.length (((rg + b) % g.nodes.length : Nat) : Int) (g.fillT b i)) (fun v43 _ => g.nodes.length - (intOf v43).toNat)
    case atStart => exact ⟨0, rfl, Nat.zero_le _, by rw [RGr.fillT_zero]; exact HTr0.out⟩
    case round =>
      obtain ⟨i, rfl, hi, htr⟩ := hrel
      have HTr := Lib.hid htr
      have hb1r : BelC w1 wr := Below.trans HB4.out (Below.mono htr.bel (Below.size HB4.out))
      have HBr := Lib.hid hb1r
      by_cases hlt : i < g.nodes.length
      · obtain ⟨gb, go, rfl, hnp⟩ := NdsO.get _ _ HON.out i hlt
        obtain ⟨X, hX⟩ : ∃ X, X = g.nodes[i] := ⟨_, rfl⟩
        have hXd : g.nd i = X := by rw [hX]; exact g.nd_eq i hlt
        have hXok : X.ok g.nodes.length = true := by rw [hX]; exact hrr _ (List.getElem_mem hlt)
        have hXf := HF.out X (by rw [hX]; exact List.getElem_mem hlt)
        rw [← hX] at hnp
        obtain ⟨xA, xB, xL, xM, f0, f1, f2, f3, f4, h1, h2, h3, h4, h5, h6, h7, h8⟩ := hnp.val
        have p0 := BelC.old hb1r f0
        have p1 := BelC.old hb1r f1
        have p2 := BelC.old hb1r f2
        have p3 := BelC.old hb1r f3
        have p4 := BelC.old hb1r f4
        have HX6 := Lib.hid h6
        have HX7 := Lib.hid h7
        have HXok := Lib.hid hXok
        have HXd := Lib.hid hXd
        have HXf := Lib.hid hXf
        have hXa := hXf.1
        have HX1 := Lib.hid h1
        have HXs := Lib.hid (And.intro h2 (And.intro h4 h5))
        unfold maxLen at h3
        clear htr hb1r hX hXd hXok hXf hnp f0 f1 f2 f3 f4 h1 h2 h4 h5 h6 h7 h8 y0 y1
        go_wp2
        obtain ⟨wC, hwC⟩ : ∃ x, x = wr.alloc (.cells #[.int .i64 X.kind, .string X.name, .slice xA X.args.length xB, .slice xL X.labels.length xM, .bool X.op] 36) := ⟨_, rfl⟩
        have hCz : wC.heap.size = wr.heap.size + 1 := by rw [hwC]; simp
        have hbrC : BelC wr wC := by rw [hwC]; exact (BelC.refl wr).alloc _
        have hxC : Blk wC wr.heap.size (.cells #[.int .i64 X.kind, .string X.name, .slice xA X.args.length xB, .slice xL X.labels.length xM, .bool X.op] 36 (0, 0)) := by rw [hwC]; exact Blk.new' _ _ _ rfl
        have hstart : Tnd wC (wC.alloc (.cells #[.int .i64 X.kind, .string X.name, .slice none 0 0, .slice xL X.labels.length xM, .bool X.op] 36)) X xL xM (.slice none 0 0) [] := Tnd.start
        rw [← hwC, ← hCz]
        obtain ⟨ys, hys⟩ : ∃ ys, ys = (X.turn g.nodes.length b).args := ⟨_, rfl⟩
        have hyl : ys.length = X.args.length := by rw [hys]; simp [RNd.turn]
        have hin : ∀ m (hm : m < X.args.length), ∃ an : Nat, X.args[m] = (an : Int) ∧ an < g.nodes.length ∧ ys[m]? = some (((an + b) % g.nodes.length : Nat) : Int) := fun m hm => by
          have h9 := RNd.within_args HXok.out _ (List.getElem_mem hm)
          refine ⟨(X.args[m]).toNat, by omega, by omega, ?_⟩
          rw [hys]
          simp only [RNd.turn, List.getElem?_map, List.getElem?_eq_getElem hm, Option.map_some]
        have HIn := Lib.hid hin
        have HYs := Lib.hid hys
        have HSt := Lib.hid hstart
        have HBC := Lib.hid hbrC
        have HXC := Lib.hid hxC
        have HCz := Lib.hid hCz
        clear hin hys hstart hbrC hxC hwC hCz p0 p1 p2 p3 p4
        go_loopw [60] (fun v60 wi => ∃ (m : Nat) (s : Value), v60 = .int .i64 m ∧ m ≤ X.args.length ∧ Tnd wC wi X xL xM s (ys.take m)) (fun v60 _ => X.args.length - (intOf v60).toNat)
        case atStart => exact ⟨0, _, rfl, Nat.zero_le _, by rw [List.take_zero]; exact HSt.out⟩
        case round =>
          obtain ⟨m, s, rfl, hm, htn⟩ := hrel
          have hlk : (ys.take m).length = m := by rw [List.length_take]; omega
          obtain ⟨sA, sc, hs0, hs1, hs2⟩ := htn.row.form
          rw [hlk] at hs0 hs1
          subst hs0
          have HTn := Lib.hid htn
          have hbi : BelC w1 wr := Below.trans HBr.out (Below.mono (Below.trans HBC.out (Below.mono htn.bel (Below.size HBC.out))) (Below.size HBr.out))
          have HBi := Lib.hid hbi
          clear htn hbi
          by_cases hlt2 : m < X.args.length
          · obtain ⟨ab, ao, rfl, _, d1⟩ := IntsO.get _ _ HX6.out m hlt2
            obtain ⟨an, ha, hal, hyk⟩ := HIn.out m hlt2
            rw [ha] at d1
            have d2 := BelC.old HBi.out d1
            obtain ⟨y, hy0⟩ : ∃ y : Int, y = (((an + b) % g.nodes.length : Nat) : Int) := ⟨_, rfl⟩
            rw [← hy0] at hyk
            have hty : ys.take (m + 1) = ys.take m ++ [y] := by rw [List.take_add_one, hyk]; rfl
            have HTy := Lib.hid hty
            have hwb : IntKind.i64.wrap (b : Int) = (b : Int) := i64_in _ (by omega)
            have hwr : IntKind.i64.wrap ((an : Int) + (b : Int)) = (an : Int) + (b : Int) := i64_in _ (by omega)
            have hwm : ((an : Int) + (b : Int)).tmod (g.nodes.length : Int) = y := by rw [hy0, ← Int.natCast_add]; exact up_tmod rfl rfl
            obtain ⟨e1, e2⟩ := HTn.out.blk.cells
            have e12 := e1 2
            clear ha d1 hyk hty hy0 e1
            go_wp2
            have HRowK := Lib.hid (fun W (hW : BelC wr W) => (HTn.out.row.keep (F := fun _ => False) (Keeps.of_below0 hW) (fun _ e _ => e.elim) : RowG srtI 3 (wC.heap.size + 1) W (fun _ => False) (.slice sA m sc) (ys.take m)))
            have hzB := Below.size HTn.out.bel
            have hzb := HTn.out.blk.lt
            have e3 : (wr.alloc (.cells #[.int .i64 y] 3)).cell? ⟨wC.heap.size, 2, none⟩ = some (.slice sA m sc) := ((BelC.refl wr).alloc _).old e12
            go_region_law (refine step_growB (T := srtI) (ms := [y]) rfl (.tmp 65) (.tmp 72) 31 3 rfl j0 _ 8 Try.underlying31 hj hj0 hj1 hj2 rfl rfl (HRowK.out _ ?_) ⟨wr.heap.size, 0, none⟩ 1 [.int .i64 y] rfl (fun j u hj => gcell_new _ _ _ _ rfl j u hj) (Items.one srtI rfl) ?_ ?_ ?_ (by simp) ?_; (· repeat (first | with_reducible assumption | with_reducible exact BelC.refl _ | with_reducible refine BelC.alloc ?_ _ | with_reducible refine BelC.drew ?_)); (· rw [hlk]; have := HXf.out.1; simp [maxLen]; omega); (· rw [hlk]; have := HXf.out.1; simp; omega); (· simp; omega); intro v6 w6 hrow6 hk6 hb6; obtain ⟨A7, c7, h70, hn7, hm7⟩ := hrow6.form; rw [List.length_append, hlk, List.length_singleton] at h70 hn7; subst h70; refine cut_ (HTn.out.step ?_ hrow6 hk6) (fun hst => ?_); (· show BelC _ _; repeat (first | with_reducible assumption | with_reducible exact BelC.refl _ | with_reducible refine BelC.alloc ?_ _ | with_reducible refine BelC.drew ?_)); refine cut_ (P := Blk w6 wC.heap.size _) ((hk6.block _ ?_ (fun e => by have := (HTn.out.row.block e).1; omega)).trans (Eq.trans ?_ HTn.out.blk)) (fun hbq => ?_); (· simp; omega); (· refine Below.heap_alloc _ _ _ hzb); obtain ⟨hcq, hfq⟩ := Blk.cells hbq; have hcq2 := hcq 2; have hfq2 := hfq 2; have HSt2 := Lib.hid hst; clear hst hbq hrow6 hk6 hb6 hcq hfq)
            all_goals go_wp2
            all_goals go_roundw
            all_goals first
              | exact ⟨m + 1, _, by go_num, by omega, by rw [HTy.out]; exact HSt2.out⟩
              | (simp [intOf]; omega)
          · have hm' : m = X.args.length := by omega
            subst hm'
            have htnF : Tnd wC wr X xL xM (.slice sA X.args.length sc) ys := by
              have h := HTn.out
              rwa [List.take_of_length_le (by omega)] at h
            obtain ⟨e1, e2⟩ := HTn.out.blk.cells
            have e10 := e1 0
            have e11 := e1 1
            have e12 := e1 2
            have e13 := e1 3
            have e14 := e1 4
            have htL := HTr.out.later (Below.trans HBC.out (Below.mono HTn.out.bel (Below.size HBC.out)))
            have q0 := htL.blk.cells.1 0
            obtain ⟨idx, hidx⟩ : ∃ x, x = (i + b) % g.nodes.length := ⟨_, rfl⟩
            have hidl : idx < g.nodes.length := by rw [hidx]; exact Nat.mod_lt _ (by omega)
            have hwb : IntKind.i64.wrap (b : Int) = (b : Int) := i64_in _ (by omega)
            have hwr : IntKind.i64.wrap ((i : Int) + (b : Int)) = (i : Int) + (b : Int) := i64_in _ (by omega)
            have hwm : ((i : Int) + (b : Int)).tmod (g.nodes.length : Int) = (idx : Int) := by rw [hidx, ← Int.natCast_add]; exact up_tmod rfl rfl
            have hi0 : (0 : Int) ≤ (idx : Int) := by omega
            have hi1 : (idx : Int) < (g.nodes.length : Int) := by omega
            obtain ⟨⟨c0, hc0⟩, d0⟩ := htL.row.cellN (RGr.fillT_len g b i) (idx * 5) (by omega)
            obtain ⟨⟨c1, hc1⟩, d1⟩ := htL.row.cellN (RGr.fillT_len g b i) (idx * 5 + 1) (by omega)
            obtain ⟨⟨c2, hc2⟩, d2⟩ := htL.row.cellN (RGr.fillT_len g b i) (idx * 5 + 2) (by omega)
            obtain ⟨⟨c3, hc3⟩, d3⟩ := htL.row.cellN (RGr.fillT_len g b i) (idx * 5 + 3) (by omega)
            obtain ⟨⟨c4, hc4⟩, d4⟩ := htL.row.cellN (RGr.fillT_len g b i) (idx * 5 + 4) (by omega)
            have hnd := htnF.node (S1 := S1) (w1 := w1) (w4 := w4) (hb := hb) (nb := nb) HX7.out HBi.out HT1.out HX1.out HXs.out.2 (by have := Below.size HTr.out.bel; have := HCz.out; omega) (by have := HTr.out.blk.lt; have := HCz.out; omega) (by have := HTr.out.nb_lt.2; have := HCz.out; omega)
            have hput := (htL.put (RGr.fillT_len g b i) hidl hnd)
            have hXt : ({ X with args := ys } : RNd) = (g.nd i).turn g.nodes.length b := by rw [HXd.out, HYs.out]; rfl
            rw [hXt, hidx, RGr.fillT_set g b i hlt, ← hidx] at hput
            have HPut := Lib.hid hput
            clear hput hnd htnF htL e1 e2 hidx hXt
            go_wp2
            go_region
            go_wp2
            go_roundw
            case rel => exact ⟨i + 1, by go_num, by omega, HPut.out.drew⟩
            case measure => simp [intOf]; omega
      · have hi' : i = g.nodes.length := by omega
        subst hi'
        obtain ⟨H, hH⟩ : ∃ H, H = g.turn b := ⟨_, rfl⟩
        have hHl : H.nodes.length = g.nodes.length := by rw [hH, RGr.turn_len]
        have hHr : (((rg + b) % g.nodes.length : Nat) : Int) = H.root := by rw [hH]; simp only [RGr.turn]; rw [hrg]; rfl
        have htr2 := HTr.out
        rw [RGr.fillT_all, ← hH, hHr] at htr2
        have hHok : H.ok = true := by rw [hH]; exact RGr.turn_ok HOk.out b
        obtain ⟨k, hk⟩ : ∃ x, x = t % g.nodes.length := ⟨_, rfl⟩
        have hkl : k < g.nodes.length := by rw [hk]; exact Nat.mod_lt _ (by omega)
        obtain ⟨yA, yB, yL, yM, f0, f1, f2, f3, f4, hYv, hYl, hYm, hYi⟩ := htr2.row.nodeAt hHl (i := k) (by omega)
        obtain ⟨Y, hY⟩ : ∃ Y, Y = H.nodes[k] := ⟨_, rfl⟩
        rw [← hY] at f0 f1 f2 f3 f4 hYv hYl hYi
        have hYd : H.nd k = Y := by rw [hY]; exact H.nd_eq k (by omega)
        have hgr := HGW.out.keep (w' := wr) (S' := S1) (fun q hq => ⟨hq, Below.block hb1r q (HT1.out q hq)⟩)
        have hS : ∀ q, S1 q → q < wr.heap.size := fun q hq => Nat.lt_of_lt_of_le (HT1.out q hq) (Below.size hb1r)
        have hvH := htr2.grV hHl
        have K1 := Lib.hid (dsame_c (b := true) hS hgr (fun _ h => h) hvH ⟨fun _ => ⟨HOk.out, hHok, by rw [hH]; exact RGr.turn_same HOk.out b⟩, fun _ => rfl⟩ (BelC.refl wr))
        rw [hrg] at K1
        have hcf : ∀ W, BelC wr W → (W.cell? ⟨w.heap.size, 0, none⟩ = some (.slice gA g.nodes.length gc) ∧ W.cell? ⟨w.heap.size, 1, none⟩ = some (.int .i64 (rg : Int)) ∧ W.cell? ⟨hb, 0, none⟩ = some (.slice (some ⟨nb, 0, none⟩) g.nodes.length g.nodes.length) ∧ W.cell? ⟨hb, 1, none⟩ = some (.int .i64 H.root) ∧
            W.cell? ⟨nb, k * 5, none⟩ = some (.int .i64 Y.kind) ∧ W.cell? ⟨nb, k * 5 + 1, none⟩ = some (.string Y.name) ∧ W.cell? ⟨nb, k * 5 + 2, none⟩ = some (.slice yA Y.args.length yB) ∧ W.cell? ⟨nb, k * 5 + 3, none⟩ = some (.slice yL Y.labels.length yM) ∧ W.cell? ⟨nb, k * 5 + 4, none⟩ = some (.bool Y.op)) := fun W hW => by
          obtain ⟨c0, c1⟩ := HX4.out W (Below.trans htr2.bel (Below.mono hW (Below.size htr2.bel)))
          exact ⟨c0, c1, BelC.old hW (htr2.blk.cells.1 0), BelC.old hW (htr2.blk.cells.1 1), BelC.old hW f0, BelC.old hW f1, BelC.old hW f2, BelC.old hW f3, BelC.old hW f4⟩
        have KC := Lib.hid hcf
        obtain ⟨q0, q1, q2, q3, q4, q5, q6, q7, q8⟩ := hcf wr (BelC.refl _)
        have hwt : IntKind.i64.wrap (t : Int) = (t : Int) := i64_in _ (by omega)
        have hwm : (t : Int).tmod (g.nodes.length : Int) = (k : Int) := by rw [hk]; exact up_tmod rfl rfl
        have hk0 : (0 : Int) ≤ (k : Int) := by omega
        have hk1 : (k : Int) < (g.nodes.length : Int) := by omega
        have KB := Lib.hid (fun W (hW : BelC wr W) => (HB1.out.trans (Below.mono (Below.trans hb1r (Below.mono hW (Below.size hb1r))) HB1.out.size) : Below w.heap.size w W))
        have HTr2 := Lib.hid htr2
        have HYv := Lib.hid hYv
        have HYd := Lib.hid hYd
        have HH := Lib.hid hH
        have HHl := Lib.hid hHl
        have HHok := Lib.hid hHok
        have HS := Lib.hid hS
        have HGr := Lib.hid hgr
        clear htr htr2 hgr hS hvH hcf hb1r hH hHl hHr hHok hY hYd hYv hYl hYm hYi f0 f1 f2 f3 f4 y0 y1 hk
        by_cases hYk : Y.kind = 1
        · go_wp2_with (go_at_call 21; (with_reducible refine K1.out.mono ?_); rintro e w20 ⟨rfl, hb20⟩; have HB20 := Lib.hid hb20; obtain ⟨r0, r1, r2, r3, r4, r5, r6, r7, r8⟩ := KC.out w20 hb20; clear hb20)
          go_ret
          exact ⟨rfl, KB.out _ HB20.out⟩
        · have hYk2 : (Y.kind == 1) = false := by rw [beq_eq_false_iff_ne]; exact hYk
          rcases hYo : Y.op with _ | _
          · go_wp2_with (go_at_call 21; (with_reducible refine K1.out.mono ?_); rintro e w20 ⟨rfl, hb20⟩; have HB20 := Lib.hid hb20; obtain ⟨r0, r1, r2, r3, r4, r5, r6, r7, r8⟩ := KC.out w20 hb20; clear hb20)
            have hYf : Y.free = false := by simp [RNd.free, hYk, hYo]
            have HYf := Lib.hid hYf
            clear hYf
            have hT20 := HTr2.out.later HB20.out
            have hYv := HYv.out
            rw [hYo] at hYv
            obtain ⟨i0, hi0, hz0, hz1, hz2⟩ := info_parts infoNode
            have HT20 := Lib.hid hT20
            have HRowK := Lib.hid (fun W (hW : BelC w20 W) => (hT20.later hW).row)
            have HYK := Lib.hid (fun W (hW : BelC w20 W) => (NdV.keep (S' := OldNew S1 w4.heap.size hb nb W) (fun q hq => ⟨hq.later (Below.trans HB20.out (Below.mono hW (Below.size HB20.out))), Below.block (Below.trans HB20.out (Below.mono hW (Below.size HB20.out))) q (by
              rcases hq with e | e
              · exact HS.out q e
              · exact e.2.1)⟩) hYv : NdV W (OldNew S1 w4.heap.size hb nb W) Y (.agg #[.int .i64 Y.kind, .string Y.name, .slice yA Y.args.length yB, .slice yL Y.labels.length yM, .bool false])))
            have a2 : (w20.alloc (.cells #[.int .i64 Y.kind, .string Y.name, .slice yA Y.args.length yB, .slice yL Y.labels.length yM, .bool false] 36)).cell? ⟨hb, 0, none⟩ = some (.slice (some ⟨nb, 0, none⟩) g.nodes.length g.nodes.length) := ((BelC.refl w20).alloc _).old r2
            have hzb := hT20.blk.lt
            have hbB := Below.size hT20.bel
            have hne := hT20.ne
            have hbb : BelC w20 w20 := BelC.refl _
            rw [hYo] at r8
            clear hT20 hYv
            rename_i K2 hKi2
            have hK2 : ∀ (mb c6 : Nat) (W : World), Trn S1 w4 W hb mb (g.nodes.length + 1) c6 H.root (H.nodes ++ [Y]) → Exit.then K2 Q' Exit.normal { tmps := #[Value.agg #[Value.slice gA g.nodes.length gc, Value.int IntKind.i64 ↑rg], Value.int IntKind.u8 ↑b, Value.int IntKind.u8 ↑t, Value.pointer (some { block := w.heap.size, off := 0 }), undef, undef, Value.bool false, Value.int IntKind.i64 ↑g.nodes.length, Value.pointer (some { block := hb, off := 0 }), u9, u10, u11, undef, u13, Value.int IntKind.i64 ↑k, undef, undef, Value.bool true, Value.bool false, Value.agg #[Value.slice gA g.nodes.length gc, Value.int IntKind.i64 ↑rg], Value.int IntKind.i64 z, Value.bool (decide (300 < z)), Value.bool (decide (300 < z)), Value.agg #[Value.slice gA g.nodes.length gc, Value.int IntKind.i64 ↑rg], Value.int IntKind.i64 0, Value.bool false, Value.bool (decide (300 < z)), Value.pointer (some { block := w.heap.size, off := 0 }), Value.slice gA g.nodes.length gc, Value.int IntKind.i64 ↑g.nodes.length, Value.pointer (some { block := w.heap.size, off := 1 }), Value.int IntKind.i64 ↑rg, Value.int IntKind.u8 ↑b, Value.int IntKind.i64 ↑b, Value.int IntKind.i64 (↑rg + ↑b), Value.int IntKind.i64 ↑g.nodes.length, Value.int IntKind.i64 ((↑rg + ↑b) % ↑g.nodes.length), Value.int IntKind.i64 ↑g.nodes.length, Value.slice (some { block := nb, off := 0 }) g.nodes.length g.nodes.length, Value.agg #[Value.slice (some { block := nb, off := 0 }) g.nodes.length g.nodes.length, Value.int IntKind.i64 ((↑rg + ↑b) % ↑g.nodes.length)], Value.pointer (some { block := w.heap.size, off := 0 }), Value.slice gA g.nodes.length gc, Value.int IntKind.i64 ↑g.nodes.length, Value.int IntKind.i64 ↑g.nodes.length, Value.bool false, u45, u46, u47, u48, u49, u50, u51, u52, u53, u54, u55, u56, u57, u58, u59, u60, u61, u62, u63, u64, u65, u66, u67, u68, u69, u70, u71, u72, u73, u74, u75, u76, u77, u78, u79, u80, u81, u82, u83, u84, u85, u86, Value.agg #[Value.slice gA g.nodes.length gc, Value.int IntKind.i64 ↑rg], Value.agg #[Value.slice (some { block := nb, off := 0 }) g.nodes.length g.nodes.length, Value.int IntKind.i64 H.root], Value.bool true, Value.bool false, Value.int IntKind.u8 ↑t, Value.int IntKind.i64 ↑t, Value.int IntKind.i64 ↑g.nodes.length, Value.int IntKind.i64 ↑k, Value.pointer (some { block := hb, off := 0 }), Value.slice (some { block := nb, off := 0 }) g.nodes.length g.nodes.length, Value.int IntKind.i64 ↑k, Value.pointer (some { block := nb, off := k * 5 }), Value.pointer (some { block := nb, off := k * 5 }), Value.int IntKind.i64 Y.kind, Value.bool false, Value.bool false, Value.pointer (some { block := hb, off := 0 }), Value.slice (some { block := nb, off := 0 }) g.nodes.length g.nodes.length, Value.int IntKind.i64 ↑k, Value.pointer (some { block := nb, off := k * 5 }), Value.pointer (some { block := nb, off := k * 5 + 4 }), Value.bool false, Value.bool false, Value.pointer (some { block := hb, off := 0 }), Value.slice (some { block := nb, off := 0 }) g.nodes.length g.nodes.length, Value.pointer (some { block := hb, off := 0 }), Value.slice (some { block := nb, off := 0 }) g.nodes.length g.nodes.length, Value.int IntKind.i64 ↑k, Value.pointer (some { block := nb, off := k * 5 }), Value.agg #[Value.int IntKind.i64 Y.kind, Value.string Y.name, Value.slice yA Y.args.length yB, Value.slice yL Y.labels.length yM, Value.bool false], Value.slice (some { block := w20.heap.size, off := 0 }) 1 1, Value.slice (some { block := mb, off := 0 }) (g.nodes.length + 1) c6, Value.pointer (some { block := hb, off := 0 }), undef, undef, undef, undef, undef, undef, undef, undef, undef, undef, undef, undef, undef, undef, undef, undef, undef, undef, undef, undef, undef, undef, undef, undef, undef, undef, undef, undef, undef, undef, undef, undef, undef, undef, undef, undef, undef], defers := [] } W := by
              intro mb c6 wD htw
              have hmore : H.nodes ++ [Y] = H.fillR k 0 := by rw [RGr.fillR_zero]; unfold RGr.more; rw [HYd.out]
              rw [hmore] at htw
              have HTw := Lib.hid htw
              have d0 := htw.blk.cells.1 0
              clear htw hmore a2 r0 r1 r2 r3 r4 r5 r6 r7 r8 q0 q1 q2 q3 q4 q5 q6 q7 q8 HRowK HYK HT20 hi0 hz0 hz1 hz2 hwm hwt hYk hYk2 hYo hzb hbB hne hbb
              refine hKi2 _ _ ?_
              go_wp2
              go_loopw [123] (fun v123 wr => ∃ i : Nat, v123 = .int .i64 i ∧ i ≤ g.nodes.length + 1 ∧ Trn S1 w4 wr hb mb (g.nodes.length + 1) c6 H.root (H.fillR k i)) (fun v123 _ => g.nodes.length + 1 - (intOf v123).toNat)
              case atStart => exact ⟨0, rfl, Nat.zero_le _, HTw.out⟩
              case round =>
                obtain ⟨i, rfl, hi, htr⟩ := hrel
                have hfl : (H.fillR k i).length = g.nodes.length + 1 := by rw [RGr.fillR_len, HHl.out]
                have HTr3 := Lib.hid htr
                by_cases hlt : i < g.nodes.length + 1
                · obtain ⟨zA, zB, zL, zM, f0, f1, f2, f3, f4, hZv, hZl, hZm, hZi⟩ := htr.row.nodeAt hfl (i := i) (by omega)
                  have hZ := H.fillR_get k i (by rw [HHl.out]; exact hlt)
                  have hset := H.fillR_set k i (by rw [HHl.out]; exact hlt)
                  have hZa := RGr.more_args (b := b) (k := k) HF.out hkl ((H.more k)[i]'(by rw [RGr.more_len, HHl.out]; exact hlt)) (by rw [← HH.out]; exact List.getElem_mem _)
                  obtain ⟨Z, hZd⟩ : ∃ Z, Z = (H.more k)[i]'(by rw [RGr.more_len, HHl.out]; exact hlt) := ⟨_, rfl⟩
                  rw [← hZd] at hZ hset hZa
                  rw [hZ] at f2 hZl hZi
                  rw [HHl.out] at hset
                  obtain ⟨zs, has⟩ : ∃ zs, zs = Z.args := ⟨_, rfl⟩
                  rw [← has] at f2 hZl hZi hZa
                  have hset2 : (H.fillR k i).set i { (H.fillR k i)[i]'(by omega) with args := redirI k g.nodes.length zs } = H.fillR k (i + 1) := by
                    rw [hZ, has]; exact hset
                  have HSet := Lib.hid hset2
                  have HZi := Lib.hid hZi
                  clear has
                  have h5 : BelC wr (wr.alloc (.cells #[] 3)) := (BelC.refl wr).alloc _
                  have g0 := BelC.old h5 (htr.blk.cells.1 0)
                  have g1 := BelC.old h5 f2
                  have hrow5 : RowG srtI 3 wr.heap.size (wr.alloc (.cells #[] 3)) (fun _ => False) (.slice (some ⟨wr.heap.size, 0, none⟩) 0 0) [] := RowG.empty (Blk.new' _ _ _ rfl) (Nat.le_refl _)
                  have hl5 : LiesAt srtI (wr.alloc (.cells #[] 3)) (fun _ => False) zs zA := lies_ints (IntsO.keep (S' := OldNew S1 w4.heap.size hb mb wr) (fun q hq => ⟨hq, Below.block h5 q (htr.apart (Nat.le_refl _) q hq).1⟩) _ _ hZi)
                  have HRow5 := Lib.hid hrow5
                  have HL5 := Lib.hid hl5
                  have zh := htr.blk.lt
                  have zm := htr.nb_lt
                  have zB4 := Below.size htr.bel
                  have hil : (i : Int) < ((g.nodes.length + 1 : Nat) : Int) := by omega
                  clear htr hZ hset hset2 hZd hZi hZv f0 f1 f3 f4 hrow5 hl5 h5 d0
                  have harm : ∀ (w7 : World) (v7 : Value), RowG srtI 3 wr.heap.size w7 (fun _ => False) v7 zs → Keeps (fun q => (Value.slice (some ⟨wr.heap.size, 0, none⟩) 0 0).ownBlock = some q) (wr.alloc (.cells #[] 3)) w7 → BelC wr w7 := fun w7 v7 _ h2 =>
                    Below.trans ((BelC.refl wr).alloc _) (h2.below (by simp) (fun q hq e => by simp [Value.ownBlock] at e; omega))
                  have HArm := Lib.hid harm
                  clear harm
                  by_cases hzn : zs = []
                  · subst hzn
                    go_wp2_with (at_builtin; refine wpList_cat2 (T := srtI) (base := wr.heap.size) (v := .slice (some ⟨wr.heap.size, 0, none⟩) 0 0) (S := fun _ => False) (es := []) (ms := []) rfl (.tmp 126) (.tmp 132) 31 3 rfl j0 _ 8 Try.underlying31 hj hj0 hj1 hj2 rfl rfl (by simp) HRow5.out zA zB rfl HL5.out ?_ ?_ ?_ ?_; (· simp [maxLen]); (· simp); (· simp); intro v7 w7 hrow7 hk7 hb7; rw [List.nil_append] at hrow7; have hb17 := HArm.out _ _ hrow7 hk7; obtain ⟨A7, c7, rfl, hn7, hm7⟩ := hrow7.form; have ht7 := HTr3.out.later hb17; have s0 := ht7.blk.cells.1 0; obtain ⟨⟨t0, ht0⟩, t1⟩ := ht7.row.cellN hfl (i * 5 + 2) (by omega); have HT7 := Lib.hid ht7; clear hrow7 hk7 hb7 hb17 ht7)
                    go_roundw
                    case rel =>
                      have hp := HT7.out.putA (l := []) (A := A7) (cA := c7) (i := i) hfl (by omega) hn7 hm7 trivial
                      exact ⟨i + 1, by go_num, by omega, by rw [← HSet.out]; exact hp⟩
                    case measure => simp [intOf]; omega
                  · have hpos : 0 < zs.length := by
                      cases zs with
                      | nil => exact absurd rfl hzn
                      | cons a r => simp
                    obtain ⟨a0, ha0⟩ : ∃ a0, a0 = zs[0] := ⟨_, rfl⟩
                    have HA0 := Lib.hid ha0
                    clear ha0
                    by_cases hak : a0 = (k : Int)
                    · go_wp2_with (at_builtin; refine wpList_cat2 (T := srtI) (base := wr.heap.size) (v := .slice (some ⟨wr.heap.size, 0, none⟩) 0 0) (S := fun _ => False) (es := []) (ms := zs) rfl (.tmp 126) (.tmp 132) 31 3 rfl j0 _ 8 Try.underlying31 hj hj0 hj1 hj2 rfl rfl (by simp) HRow5.out zA zB rfl HL5.out ?_ ?_ ?_ ?_; (· simp [maxLen]; omega); (· simp; omega); (· simp); intro v7 w7 hrow7 hk7 hb7; rw [List.nil_append] at hrow7; have hb17 := HArm.out _ _ hrow7 hk7; obtain ⟨q, c7, rfl, hn7, hm7, hqB, hqS⟩ := hrow7.posBlock hpos; obtain ⟨s2, s3⟩ := hrow7.cellI rfl hpos; rw [← HA0.out, hak] at s2; have hb18 : BelC wr (w7.setCell ⟨q, 0, none⟩ (.int .i64 (g.nodes.length : Int))) := hb17.setCell hqB _; have hrow8 := hrow7.setI (y := (g.nodes.length : Int)) rfl hpos; have ht8 := HTr3.out.later hb18; have s0 := ht8.blk.cells.1 0; obtain ⟨⟨t0, ht0⟩, t1⟩ := ht8.row.cellN hfl (i * 5 + 2) (by omega); have HT8 := Lib.hid ht8; have HRow8 := Lib.hid hrow8; have HQB := Lib.hid hqB; clear hrow7 hk7 hb7 hb17 hb18 ht8 hrow8)
                      go_roundw
                      case rel =>
                        obtain ⟨A9, c9, e9, _, _, hI⟩ := HRow8.out.ints (S' := OldNew S1 w4.heap.size hb mb (w7.setCell ⟨q, 0, none⟩ (.int .i64 (g.nodes.length : Int)))) (fun _ e => e.elim) (fun x h1 h2 => .inr ⟨by omega, h2, by omega, by omega⟩)
                        simp only [Value.slice.injEq] at e9
                        obtain ⟨rfl, _, rfl⟩ := e9
                        rw [redirI_set hpos (by rw [← HA0.out]; exact hak)] at hI
                        have hp := HT8.out.putA (cA := c7) (i := i) hfl (by omega) (by rw [redirI_len]; exact hn7) hm7 hI
                        rw [redirI_len] at hp
                        exact ⟨i + 1, by go_num, by omega, by rw [← HSet.out]; exact hp⟩
                      case measure => simp [intOf]; omega
                    · have hakb : (a0 == (k : Int)) = false := by rw [beq_eq_false_iff_ne]; exact hak
                      go_wp2_with (at_builtin; refine wpList_cat2 (T := srtI) (base := wr.heap.size) (v := .slice (some ⟨wr.heap.size, 0, none⟩) 0 0) (S := fun _ => False) (es := []) (ms := zs) rfl (.tmp 126) (.tmp 132) 31 3 rfl j0 _ 8 Try.underlying31 hj hj0 hj1 hj2 rfl rfl (by simp) HRow5.out zA zB rfl HL5.out ?_ ?_ ?_ ?_; (· simp [maxLen]; omega); (· simp; omega); (· simp); intro v7 w7 hrow7 hk7 hb7; rw [List.nil_append] at hrow7; have hb17 := HArm.out _ _ hrow7 hk7; obtain ⟨q, c7, rfl, hn7, hm7, hqB, hqS⟩ := hrow7.posBlock hpos; obtain ⟨s2, s3⟩ := hrow7.cellI rfl hpos; rw [← HA0.out] at s2; have ht7 := HTr3.out.later hb17; have s0 := ht7.blk.cells.1 0; obtain ⟨⟨t0, ht0⟩, t1⟩ := ht7.row.cellN hfl (i * 5 + 2) (by omega); have HT7 := Lib.hid ht7; have HRow7 := Lib.hid hrow7; have HQB := Lib.hid hqB; clear hrow7 hk7 hb7 hb17 ht7)
                      go_roundw
                      case rel =>
                        obtain ⟨A9, c9, e9, _, _, hI⟩ := HRow7.out.ints (S' := OldNew S1 w4.heap.size hb mb w7) (fun _ e => e.elim) (fun x h1 h2 => .inr ⟨by omega, h2, by omega, by omega⟩)
                        simp only [Value.slice.injEq, true_and] at e9
                        obtain ⟨rfl, rfl⟩ := e9
                        have hr := redirI_not (n := g.nodes.length) hpos (by rw [← HA0.out]; exact hak)
                        have hp := HT7.out.putA (l := redirI k g.nodes.length zs) (cA := c7) (i := i) hfl (by omega) (by rw [redirI_len]; exact hn7) hm7 (by rw [hr]; exact hI)
                        rw [redirI_len] at hp
                        exact ⟨i + 1, by go_num, by omega, by rw [← HSet.out]; exact hp⟩
                      case measure => simp [intOf]; omega
                · have hi' : i = g.nodes.length + 1 := by omega
                  subst hi'
                  have htw := htr
                  have hall := H.fillR_all k
                  rw [HHl.out] at hall
                  rw [hall] at htw hfl
                  have hvT := htw.grV hfl
                  have hwr' : BelC w1 wr := Below.trans HB4.out (Below.mono htr.bel (Below.size HB4.out))
                  have hgr := HGW.out.keep (w' := wr) (S' := S1) (fun q hq => ⟨hq, Below.block hwr' q (HT1.out q hq)⟩)
                  have hS : ∀ q, S1 q → q < wr.heap.size := fun q hq => Nat.lt_of_lt_of_le (HT1.out q hq) (Below.size hwr')
                  have hTok : (H.twice k).ok = true := RGr.twice_ok HHok.out (by rw [HHl.out]; exact hkl) (by rw [HHl.out]; omega)
                  have hTs : G.Same g.gr.f g.root.toNat (H.twice k).gr.f (H.twice k).root.toNat := by
                    rw [HH.out]
                    exact RGr.twice_same HOk.out hkl (by rw [← HH.out, HYd.out]; exact HYf.out)
                  have K9 := Lib.hid (dsame_c (h := H.twice k) (b := true) hS hgr (fun _ h => h) hvT ⟨fun _ => ⟨HOk.out, hTok, hTs⟩, fun _ => rfl⟩ (BelC.refl wr))
                  rw [hrg] at K9
                  obtain ⟨u0, u1⟩ := HX4.out wr htr.bel
                  have v0 := htr.blk.cells.1 0
                  have v1 := htr.blk.cells.1 1
                  have KB9 := Lib.hid (HB1.out.trans (Below.mono hwr' HB1.out.size) : Below w.heap.size w wr)
                  clear htr htw hfl hall hvT hwr' hgr hS hTok hTs HTr3 d0
                  go_wp2_with (go_at_call 21; (with_reducible refine K9.out.mono ?_); rintro e w30 ⟨rfl, hb30⟩; have HB30 := Lib.hid hb30; clear hb30)
                  go_ret
                  exact ⟨rfl, KB9.out.trans (Below.mono HB30.out KB9.out.size)⟩
            have HK2 := Lib.hid hK2
            clear hK2 hKi2
            go_region_law (refine step_growB (T := srtN) (base := w4.heap.size) (v := .slice (some ⟨nb, 0, none⟩) g.nodes.length g.nodes.length) (ms := [Y]) rfl (.tmp 111) (.tmp 117) 22 36 rfl i0 _ 80 Try.underlying22 hi0 hz0 hz1 hz2 rfl rfl (HRowK.out _ ?_) ⟨w20.heap.size, 0, none⟩ 1 [.int .i64 Y.kind, .string Y.name, .slice yA Y.args.length yB, .slice yL Y.labels.length yM, .bool false] rfl (fun j u hj => gcell_new _ _ _ _ rfl j u hj) (Items.one srtN (HYK.out _ ?_)) ?_ ?_ ?_ (by simp) ?_; (· show BelC _ _; repeat (first | with_reducible assumption | with_reducible exact BelC.refl _ | with_reducible refine BelC.alloc ?_ _ | with_reducible refine BelC.drew ?_)); (· show BelC _ _; repeat (first | with_reducible assumption | with_reducible exact BelC.refl _ | with_reducible refine BelC.alloc ?_ _ | with_reducible refine BelC.drew ?_)); (· rw [HHl.out]; simp [maxLen]; omega); (· rw [HHl.out]; simp; omega); (· simp; omega); intro v6 w6 hrow6 hk6 hb6; obtain ⟨mb, c6, hv6, hn6, hm6, hmB, hmS⟩ := hrow6.posBlock (by simp); rw [List.length_append, HHl.out, List.length_singleton] at hv6 hn6; subst hv6; refine cut_ (HT20.out.grow (W1 := _) ?_ hrow6 hk6 ?_) (fun hst => ?_); (· show BelC _ _; repeat (first | with_reducible assumption | with_reducible exact BelC.refl _ | with_reducible refine BelC.alloc ?_ _ | with_reducible refine BelC.drew ?_)); (· rcases hb6 with e | e <;> (simp only [Value.ownBlock, Option.some.injEq] at e; first | exact .inl e | exact .inr e)); refine cut_ (P := Blk w6 hb _) ((hk6.block hb ?_ ?_).trans (Eq.trans ?_ HT20.out.blk)) (fun hbq => ?_); (· simp; omega); (· intro e; simp [Value.ownBlock] at e; omega); (· refine Below.heap_alloc _ _ _ hzb); obtain ⟨hcq, hfq⟩ := Blk.cells hbq; have hcq0 := hcq 0; have hfq0 := hfq 0; have HSt := Lib.hid hst; clear hst hbq hrow6 hk6 hb6 hcq hfq)
            all_goals first
              | with_reducible exact HK2.out _ _ _ HSt.out
              | with_reducible exact HK2.out _ _ _ HSt.out.drew
          · go_wp2_with (go_at_call 21; (with_reducible refine K1.out.mono ?_); rintro e w20 ⟨rfl, hb20⟩; have HB20 := Lib.hid hb20; obtain ⟨r0, r1, r2, r3, r4, r5, r6, r7, r8⟩ := KC.out w20 hb20; clear hb20)
            go_ret
            exact ⟨rfl, KB.out _ HB20.out⟩
  have HK := Lib.hid hK
  clear hK hKi
  go_region_held3 (fun W => W.cell? ⟨w.heap.size, 0, none⟩ = some (.slice gA g.nodes.length gc) ∧ W.cell? ⟨w.heap.size, 1, none⟩ = some (.int .i64 (rg : Int)))
    (first | with_reducible exact hx4 | (with_reducible refine HX4.out _ ?_; (· repeat (first | with_reducible assumption | with_reducible exact BelC.refl _ | with_reducible refine BelC.alloc ?_ _ | with_reducible refine BelC.drew ?_))))
    (first | fail)
  · exact HK.out _ _ _ (Trn.first (by omega) HS4.out).drew
  · exact HK.out _ _ _ (Trn.second (by omega) HS4.out).drew

theorem u8_in6 {n : Int} (h : (Lit.int .u8 n).wf = true) : 0 ≤ n ∧ n ≤ 255 := by
  simpa [Lit.wf, IntKind.min, IntKind.max, IntKind.signed, IntKind.bits] using h

set_option maxRecDepth 100000 in
theorem graphturns_lifted (os : Os) (started : os.Started) (H : Type) (enc : TypeId × Value → H) (F : Stop.Interp) :
    ReturnsInHanded {} Try.checked os 6 .any ((Rows.OpenSpec.upto Rows.graphTurnsSpec).pre6 enc Try.prog Try.f6 Rows.graphTurnsUptoRow.domain false) (((Rows.OpenSpec.upto Rows.graphTurnsSpec).at F).post enc Try.prog Try.f6 false true false false) := by
  refine returnsInHanded_of_cond_sized (C := Try.checked) (s := Rows.OpenSpec.upto Rows.graphTurnsSpec) (k := Rows.uptoSmall) rfl lawOwn started (by kernel_rfl) Try.func6
    (OpenSpec.witness (enc := enc) (C := Try.checked) (s := Rows.OpenSpec.upto Rows.graphTurnsSpec) (k := Rows.uptoSmall) rfl false ⟨#[], #[.agg #[.slice none 0 0, .int .i64 0], .int .u8 0, .int .u8 0], []⟩ 8 (by kernel_rfl) (by kernel_rfl) (by kernel_rfl)
      (x := ([.agg [.nil, .lit (.int .i64 0)], .lit (.int .u8 0), .lit (.int .u8 0)], [], [])) (by kernel_rfl) rfl (by kernel_rfl)) ?_
  intro W base args ds gs before hval0 hW _ hk hsz0 _
  have hsz : (DataW.weightsEach Try.prog (Try.f6.params.toList ++ Rows.graphTurnsSpec.plain.varTypes Try.prog) (ds ++ gs)).all (· ≤ reachBytes) = true := hsz0
  clear hsz0
  have hval : ∀ (j : Nat) t v, Try.f6.params[j]? = some t → args[j]? = some v → Value.okWide Try.prog W .any base t v := hval0
  have hW' := hW
  obtain ⟨p, q, hA0, hV, rfl, _, _⟩ := hW
  have hA : DataW.TrodAll enc Try.prog W 0 (fun _ => true) true Try.f6.params.toList args.toList ds p := hA0
  rw [Try.params6] at hA hval hsz
  obtain ⟨v0, v1, v2, d0, d1, d2, p0, p1, p2, rfl, rfl, rfl, h0, h1, h2⟩ := trodAll_three hA
  obtain ⟨rfl, rfl⟩ := trodVars_none hV
  have hsz1 : (DataW.weightsEach Try.prog [24, 5, 5] [d0, d1, d2]).all (· ≤ reachBytes) = true := hsz
  have hwt := fun n hn => of_decide_eq_true (List.all_eq_true.1 hsz1 n hn)
  obtain ⟨g, hg, hF, _, dn, dr, rfl, hdn⟩ := open_graph (hval 0 24 v0 rfl rfl) h0 (fun n hn => hwt n (DataW.weights_mem_each (j := 0) (t := 24) (d := d0) rfl rfl n hn))
  have hn : g.nodes.length + 3 ≤ 1048576 := bulk_graph (hdn.imp (fun h => by rw [h]; rfl) id) hk
  obtain ⟨n1, rfl, rfl, rfl, wn⟩ := open_int Try.underlying5 (hval 1 5 v1 rfl rfl) h1
  obtain ⟨n2, rfl, rfl, rfl, wm⟩ := open_int Try.underlying5 (hval 2 5 v2 rfl rfl) h2
  clear hA0 hval0
  simp only [List.append_nil] at hW'
  have hlt : ∀ x ∈ p0, x.block < W.heap.size := fun x hx => by simpa using hW'.lt x (by simpa using hx)
  have bn := u8_in6 wn
  have bm := u8_in6 wm
  obtain ⟨b, hb⟩ : ∃ b : Nat, n1 = b := ⟨n1.toNat, by omega⟩
  obtain ⟨t, ht⟩ : ∃ t : Nat, n2 = t := ⟨n2.toNat, by omega⟩
  subst hb ht
  refine (lawturns_any W _ g v0 b t ⟨by omega, by omega⟩ hn hF (fun _ h => h) hg).mono fun e W' ⟨he, hnx⟩ => ?_
  subst he
  refine ⟨_, rfl, _, _, _, [], p0, [], hW', ?_, ?_, rfl, hnx.frame _, fun h => by cases h⟩
  · exact trodAll_mk1 (shut_bool Try.underlying4 true)
  · have h3 := trodAll_mk3 (Below.trod lawLaid (by kernel_rfl) (of_decide_eq_true (by kernel_rfl)) h0 hnx hlt) (shut_int Try.underlying5 wn) (shut_int Try.underlying5 wm)
    simp only [List.append_nil] at h3
    exact h3

theorem graphturns_holds : Rows.GraphTurnsUptoSaid :=
  OpenClaim.holds_of_cond 6 Try.f6 rfl rfl rfl rfl rfl rfl rfl ⟨rfl, rfl, rfl, rfl, rfl⟩ rfl rfl rfl rfl rfl (by kernel_rfl) Try.func6 (by kernel_rfl)
    (of_decide_eq_true (by kernel_rfl)) (by unfold Func.isWrapper; first | (rw [if_pos (by decide +kernel)]; kernel_rfl) | (rw [if_neg (by decide +kernel)]; exact ⟨rfl, rfl⟩))
    (fun os started H enc _ F => graphturns_lifted os started H enc F)

#print axioms graphturns_holds
end Go.Proofs.Ytipehahfbcbigaa

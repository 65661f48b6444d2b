/-
  trefoilref06.Same.
-/
import Derived.Test.YtipehahfbcbigaaDSameU
import Derived.Test.YtipehahfbcbigaaDRs
namespace Go.Proofs.Ytipehahfbcbigaa
open Go.RowKit

theorem infoArr : (Try.prog.info? 51).map (fun i => (i.zero, i.size, i.bytes)) = some (some (.agg #[.int .i64 0, .int .i64 0]), 2, 16) := by kernel_rfl

theorem Items.at {α : Type} {T : Srt α} {w : World} {S : Nat → Prop} : ∀ (es : List α) (xs : List Value), Items T w S es xs → ∀ j (hj : j < es.length), ∃ v, T.V w S es[j] v ∧ ∀ i, i < T.size → xs[j * T.size + i]? = v.cells.toList[i]?
  | a :: r, xs, ⟨v, ys, h1, h2, h3⟩, j, hj => by
    have e1 := T.cells _ _ _ _ h2
    cases j with
    | zero =>
      refine ⟨v, h2, fun i hi => ?_⟩
      rw [h1, Nat.zero_mul, Nat.zero_add, List.getElem?_append_left (by omega)]
    | succ j =>
      obtain ⟨v', h4, h5⟩ := Items.at r ys h3 j (by simpa using hj)
      refine ⟨v', h4, fun i hi => ?_⟩
      rw [h1, List.getElem?_append_right (by rw [e1, Nat.succ_mul]; omega), ← h5 i hi, e1, Nat.succ_mul]
      congr 1
      omega
theorem pairs_get {t : TypeId} {base : Nat} {w : World} {S : Nat → Prop} {A : Option Addr} {n c : Nat} {es : List (Nat × Nat)} (h : RowG srtP t base w S (.slice A n c) es) (j : Nat) (hj : j < es.length) : ∃ g, A = some ⟨g, 0, none⟩ ∧
    w.cell? ⟨g, j * 2, none⟩ = some (.int .i64 (es[j].1 : Int)) ∧ w.cell? ⟨g, j * 2 + 1, none⟩ = some (.int .i64 (es[j].2 : Int)) ∧ g < w.heap.size ∧ base ≤ g := by
  obtain ⟨xs, h1, h2⟩ := h.raw
  obtain ⟨v, e2, e3⟩ := Items.at es xs h2 j hj
  have e2' : v = pairV es[j] := e2
  subst e2'
  obtain ⟨g, c', hv, _, _⟩ := own_pos h1 (by omega)
  simp only [Value.slice.injEq] at hv
  obtain ⟨rfl, hn, hc⟩ := hv
  subst hn
  subst hc
  have hlt := h1.lt g rfl
  have c0 := h1.cellAt (j * 2) (by simp [srtP]; omega)
  have c1 := h1.cellAt (j * 2 + 1) (by simp [srtP]; omega)
  have f0 := e3 0 (by decide)
  have f1 := e3 1 (by decide)
  refine ⟨g, rfl, ?_, ?_, hlt.2, hlt.1⟩
  · rw [c0]; exact f0
  · rw [c1]; exact f1
theorem RowG.one2 {w : World} {base a b : Nat} (hb : base ≤ w.heap.size) : RowG srtP 51 base (w.alloc (.cells #[.int .i64 (a : Int), .int .i64 (b : Int)] 51)) (fun _ => False) (.slice (some ⟨w.heap.size, 0, none⟩) 1 1) [(a, b)] :=
  ⟨⟨[.int .i64 (a : Int), .int .i64 (b : Int)], ⟨rfl, .inr ⟨w.heap.size, 1, _, rfl, hb, heap_alloc_new w _, by simp, by unfold maxLen; omega, by simp [srtP], by simp [srtP]⟩⟩, Items.one srtP (a := (a, b)) (v := pairV (a, b)) rfl⟩, fun _ h => h.elim, fun _ h => h.elim⟩

theorem RNd.free_iff {x : RNd} : x.free = true ↔ x.nd.free := by
  unfold RNd.free G.Nd.free RNd.nd
  simp
theorem RNd.alike_iff {x y : RNd} : x.alike y ↔ x.nd.alike y.nd := by simp [RNd.alike, G.Nd.alike, RNd.nd]

@[go_sem] theorem eqArr (a b c d : Int) (w : World) : (Op.equalIn 10000 51 (.agg #[.int .i64 a, .int .i64 b]) (.agg #[.int .i64 c, .int .i64 d])).run Try.prog w = .ok (a == c && b == d) w := by
  have u3 := Try.underlying3
  have a3 := Try.isAgg3
  have z3 := Try.sizeOf3
  rw [show (10000 : Nat) = 9999 + 1 from rfl, Op.equalIn]
  simp only [Sem.run_bind, run_underlying Try.underlying51, Result.andThen_ok]
  simp only [Std.Legacy.Range.forIn_eq_forIn_range', Std.Legacy.Range.size, Nat.sub_zero, Nat.add_sub_cancel, Nat.div_one, List.range'_succ, List.range'_zero, List.forIn_cons, List.forIn_nil]
  go_simp
  by_cases h1 : a = c <;> by_cases h2 : b = d <;> simp [h1, h2]

set_option maxRecDepth 100000 in
set_option maxHeartbeats 4000000 in
theorem rsame_r (w : World) (S1 S2 : Nat → Prop) (g h : RGr) (gv hv : Value) (b : Bool) (hS1 : ∀ k, S1 k → k < w.heap.size) (hS2 : ∀ k, S2 k → k < w.heap.size) (hg : GrV w S1 g gv) (hh : GrV w S2 h hv)
    (hb : b = true ↔ g.ok = true ∧ h.ok = true ∧ G.Same g.gr.f g.root.toNat h.gr.f h.root.toNat) :
    Calls Try.prog 22 #[gv, hv] w fun e w' => e = .returned (.bool b) ∧ Below w.heap.size w w' := by
  have hgr : ∀ W, Below w.heap.size w W → GrV W S1 g gv ∧ GrV W S2 h hv ∧ (∀ k, S1 k → k < W.heap.size) ∧ (∀ k, S2 k → k < W.heap.size) := fun W hW =>
    ⟨hg.keep (fun k hk => ⟨hk, hW.block k (hS1 k hk)⟩), hh.keep (fun k hk => ⟨hk, hW.block k (hS2 k hk)⟩), fun k hk => Nat.lt_of_lt_of_le (hS1 k hk) hW.size, fun k hk => Nat.lt_of_lt_of_le (hS2 k hk) hW.size⟩
  obtain ⟨gA, gc, rfl, hgc, hgm, oG⟩ := hg
  obtain ⟨hA, hc, rfl, hhc, hhm, oH⟩ := hh
  unfold maxLen at hgm hhm
  obtain ⟨w1, hw1⟩ : ∃ w1, w1 = (w.alloc (.cells #[.slice gA g.nodes.length gc, .int .i64 g.root] 24)).alloc (.cells #[.slice hA h.nodes.length hc, .int .i64 h.root] 24) := ⟨_, rfl⟩
  have hsz1 : w1.heap.size = w.heap.size + 2 := by rw [hw1]; simp
  have hb1 : Below w.heap.size w w1 := by rw [hw1]; exact ((Below.refl _ _).alloc (Nat.le_refl _) _).alloc (by simp) _
  have hq0 : Blk w1 w.heap.size (.cells #[.slice gA g.nodes.length gc, .int .i64 g.root] 24 (0, 0)) := by rw [hw1]; exact (Blk.new' _ _ _ rfl).alloc _
  have hq1 : Blk w1 (w.heap.size + 1) (.cells #[.slice hA h.nodes.length hc, .int .i64 h.root] 24 (0, 0)) := by rw [hw1]; exact Blk.new' _ _ _ (by simp)
  have hcell : ∀ W, BelC w1 W → (W.cell? ⟨w.heap.size, 0, none⟩ = some (.slice gA g.nodes.length gc) ∧ W.cell? ⟨w.heap.size, 1, none⟩ = some (.int .i64 g.root) ∧ W.cell? ⟨w.heap.size + 1, 0, none⟩ = some (.slice hA h.nodes.length hc) ∧ W.cell? ⟨w.heap.size + 1, 1, none⟩ = some (.int .i64 h.root)) := fun W hW => ⟨BelC.old hW (hq0.cells.1 0), BelC.old hW (hq0.cells.1 1), BelC.old hW (hq1.cells.1 0), BelC.old hW (hq1.cells.1 1)⟩
  have HC := Lib.hid hcell
  have HGr := Lib.hid (fun W hW => hgr W (hb1.trans (Below.mono (show BelC w1 W from hW) hb1.size)))
  have hc0 := hcell w1 (BelC.refl _)
  have HB := Lib.hid hb
  have HB1 := Lib.hid hb1
  have HOG := Lib.hid (NdsO.keep (fun k hk => ⟨hk, hb1.block k (hS1 k hk)⟩) _ _ oG : NdsO w1 S1 g.nodes gA)
  have HOH := Lib.hid (NdsO.keep (fun k hk => ⟨hk, hb1.block k (hS2 k hk)⟩) _ _ oH : NdsO w1 S2 h.nodes hA)
  have HS1 := Lib.hid (fun k hk => by have := hS1 k hk; omega : ∀ k, S1 k → k < w1.heap.size)
  have HS2 := Lib.hid (fun k hk => by have := hS2 k hk; omega : ∀ k, S2 k → k < w1.heap.size)
  clear hS1 hS2 hgr hb hb1 hq0 hq1 hcell oG oH
  go_enter Try.func22, Try.ntmps22
  go_wp2_with fail
  rw [← hw1]
  clear hw1
  refine (gcheck_r w1 S1 g _ (HGr.out _ (BelC.refl _)).2.2.1 (HGr.out _ (BelC.refl _)).1).mono ?_
  rcases hok : g.ok with _ | _
  · have hb0 : b = false := by
      rcases hbb : b with _ | _
      · rfl
      · have := (HB.out.1 hbb).1; rw [hok] at this; cases this
    rcases RGr.code_no hok with hcd | hcd <;> rw [hcd] <;> clear hcd hok
    all_goals
     rintro e w2 ⟨rfl, hb2⟩
     go_wp2
     go_ret
     exact ⟨by rw [hb0]; rfl, HB1.out.trans (hb2.mono HB1.out.size)⟩
  · rw [RGr.code_ok hok]
    rintro e w2 ⟨rfl, hb2⟩
    have hchk := gcheck_r w2 S2 h _ (HGr.out _ hb2).2.2.2 (HGr.out _ hb2).2.1
    have HChk := Lib.hid hchk
    have HB2 := Lib.hid (show BelC w1 w2 from hb2)
    obtain ⟨k0, k1, k2, k3⟩ := HC.out w2 hb2
    have HOk := Lib.hid hok
    clear hok hchk hb2
    rcases hok2 : h.ok with _ | _
    · have hb0 : b = false := by
        rcases hbb : b with _ | _
        · rfl
        · have := (HB.out.1 hbb).2.1; rw [hok2] at this; cases this
      have hchk := HChk.out
      rcases RGr.code_no hok2 with hcd | hcd <;> rw [hcd] at hchk <;> have HC2 := Lib.hid hchk <;> clear hcd hok2 hchk
      all_goals
       go_wp2_with (go_at_call 14; refine HC2.out.mono ?_; rintro e w3 ⟨rfl, hb3⟩)
       go_ret
       exact ⟨by rw [hb0]; rfl, HB1.out.trans ((Below.trans HB2.out (hb3.mono (Below.size HB2.out))).mono HB1.out.size)⟩
    · have hchk := HChk.out
      rw [RGr.code_ok hok2] at hchk
      have HC2 := Lib.hid hchk
      have HOk2 := Lib.hid hok2
      clear hchk hok2
      have hgN : g.nodes.length ≤ 1048576 := RGr.ok_len HOk.out
      have hhN : h.nodes.length ≤ 1048576 := RGr.ok_len HOk2.out
      have hrtg : 0 ≤ g.root ∧ g.root < g.nodes.length := by
        have h := HOk.out
        simp only [RGr.ok, Bool.and_eq_true, decide_eq_true_eq] at h
        exact h.2.1
      have hrth : 0 ≤ h.root ∧ h.root < h.nodes.length := by
        have h := HOk2.out
        simp only [RGr.ok, Bool.and_eq_true, decide_eq_true_eq] at h
        exact h.2.1
      obtain ⟨rg, hrg⟩ : ∃ rg : Nat, g.root = (rg : Int) := ⟨g.root.toNat, by omega⟩
      obtain ⟨rh, hrh⟩ : ∃ rh : Nat, h.root = (rh : Int) := ⟨h.root.toNat, by omega⟩
      have hrgN : rg < g.nodes.length := by omega
      have hrhM : rh < h.nodes.length := by omega
      have hb' : b = true ↔ G.Same g.gr.f rg h.gr.f rh := by
        have h1 := HB.out
        rw [show g.root.toNat = rg by omega, show h.root.toNat = rh by omega] at h1
        exact ⟨fun e => (h1.1 e).2.2, fun e => h1.2 ⟨HOk.out, HOk2.out, e⟩⟩
      have hcc : ∀ W, BelC w1 W → (W.cell? ⟨w.heap.size, 0, none⟩ = some (.slice gA g.nodes.length gc) ∧ W.cell? ⟨w.heap.size, 1, none⟩ = some (.int .i64 (rg : Int)) ∧ W.cell? ⟨w.heap.size + 1, 0, none⟩ = some (.slice hA h.nodes.length hc) ∧ W.cell? ⟨w.heap.size + 1, 1, none⟩ = some (.int .i64 (rh : Int))) := fun W hW => by
        have h1 := HC.out W hW
        rwa [hrg, hrh] at h1
      have HCC := Lib.hid hcc
      have HB' := Lib.hid hb'
      obtain ⟨Q, hQ⟩ : ∃ Q, Q = g.nodes.length * h.nodes.length := ⟨_, rfl⟩
      have hQ9 : Q ≤ 1099511627776 := by
        rw [hQ]
        exact Nat.le_trans (Nat.mul_le_mul hgN hhN) (by decide)
      have hfg : ∀ a, a < g.nodes.length → ∀ y, y ∈ (g.gr.f a).args → y < g.nodes.length := by
        have hN : g.gr.nodes.length = g.nodes.length := by simp [RGr.gr]
        rw [← hN]; exact (RGr.ok_fit HOk.out).args
      have hfh : ∀ a, a < h.nodes.length → ∀ y, y ∈ (h.gr.f a).args → y < h.nodes.length := by
        have hN : h.gr.nodes.length = h.nodes.length := by simp [RGr.gr]
        rw [← hN]; exact (RGr.ok_fit HOk2.out).args
      have HFg := Lib.hid hfg
      have HFh := Lib.hid hfh
      have HQ := Lib.hid hQ
      clear hcc hb' hrtg hrth hrg hrh hQ hfg hfh hc0
      obtain ⟨i0, hi, hz0, hz1, hz2⟩ := info_parts infoArr
      go_wp2_with (go_at_call 14; refine HC2.out.mono ?_; rintro e w3 ⟨rfl, hb3⟩; have HB3 := Lib.hid (show BelC w1 w3 from Below.trans HB2.out (hb3.mono (Below.size HB2.out))); obtain ⟨j0, j1, j2, j3⟩ := HCC.out w3 HB3.out; clear hb3)
      clear j0 j1 j2 j3 k0 k1 k2 k3
      have hrow0 := RowG.one2 (a := rg) (b := rh) (Below.size HB3.out)
      have HRow0 := Lib.hid hrow0
      clear hrow0
      go_loopw [5, 6] (fun v5 v6 wr => ∃ (A : Option Addr) (c k : Nat) (L : List (Nat × Nat)), v5 = .slice A L.length c ∧ v6 = .int .i64 k ∧ RowG srtP 51 w1.heap.size wr (fun _ => False) (.slice A L.length c) L ∧ BelC w1 wr ∧ G.Rs g.gr.f h.gr.f g.nodes.length h.nodes.length rg rh L k) (fun _ v6 _ => Q - (intOf v6).toNat)
      case atStart => exact ⟨_, 1, 0, [(rg, rh)], rfl, rfl, HRow0.out, HB3.out.alloc _, G.Rs.start hrgN hrhM⟩
      case round =>
        obtain ⟨A, c, k, L, rfl, rfl, hrow, hbr, hrs⟩ := hrel
        have hlc : L.length ≤ c ∧ c ≤ 2 ^ 63 - 1 := by
          obtain ⟨A', c', e, h1, h2⟩ := hrow.form
          simp only [Value.slice.injEq] at e
          obtain ⟨_, _, rfl⟩ := e
          exact ⟨h1, by unfold maxLen at h2; exact h2⟩
        obtain ⟨hlc1, hlc2⟩ := hlc
        have hLQ : L.length ≤ Q := by
          rw [HQ.out]
          exact pairs_len _ _ hrs.nd (fun p hp => ⟨(hrs.lk p hp).1, (hrs.lk p hp).2.1⟩)
        have HRow := Lib.hid hrow
        have HBr := Lib.hid hbr
        have HRs := Lib.hid hrs
        have hkL := hrs.le
        clear hbr hrs
        by_cases hlt : k < L.length
        · obtain ⟨lb, rfl, c0, c1, hlb, hlB⟩ := pairs_get hrow k hlt
          obtain ⟨⟨a, d⟩, hp⟩ : ∃ q, q = L[k] := ⟨_, rfl⟩
          rw [← hp] at c0 c1
          simp only [] at c0 c1
          have hpk : L[k]? = some (a, d) := by rw [List.getElem?_eq_getElem hlt, ← hp]
          have hpm : (a, d) ∈ L := List.mem_of_getElem? hpk
          obtain ⟨haN, hdM, hPr⟩ := HRs.out.lk _ hpm
          simp only [] at haN hdM hPr
          have HPk := Lib.hid hpk
          clear hp hpk hpm hPr hrow
          obtain ⟨X, hX⟩ : ∃ X, X = g.nodes[a] := ⟨_, rfl⟩
          obtain ⟨Y, hY⟩ : ∃ Y, Y = h.nodes[d] := ⟨_, rfl⟩
          have hXok : X.ok g.nodes.length = true := by rw [hX]; exact ok_node HOk.out a haN
          have hYok : Y.ok h.nodes.length = true := by rw [hY]; exact ok_node HOk2.out d hdM
          have hXf : g.gr.f a = X.nd := by rw [gr_nd, g.nd_eq a haN, hX]
          have hYf : h.gr.f d = Y.nd := by rw [gr_nd, h.nd_eq d hdM, hY]
          obtain ⟨b1, o1, rfl, p1⟩ := NdsO.get _ _ HOG.out a haN
          obtain ⟨b2, o2, rfl, p2⟩ := NdsO.get _ _ HOH.out d hdM
          rw [← hX] at p1
          rw [← hY] at p2
          obtain ⟨xA, xB, xL, xM, f0, f1, f2, f3, f4, hxs⟩ := p1.val
          obtain ⟨yA, yB, yL, yM, g0, g1, g2, g3, g4, hys⟩ := p2.val
          obtain ⟨u1, u2, u3, u4, u5, u6, u7, uS⟩ := hxs
          obtain ⟨v1, v2, v3, v4, v5, v6, v7, vS⟩ := hys
          have hnx : NdV w1 S1 X (.agg #[.int .i64 X.kind, .string X.name, .slice xA X.args.length xB, .slice xL X.labels.length xM, .bool X.op]) := ⟨xA, xB, xL, xM, rfl, u1, u2, u3, u4, u5, u6, u7⟩
          have hny : NdV w1 S2 Y (.agg #[.int .i64 Y.kind, .string Y.name, .slice yA Y.args.length yB, .slice yL Y.labels.length yM, .bool Y.op]) := ⟨yA, yB, yL, yM, rfl, v1, v2, v3, v4, v5, v6, v7⟩
          obtain ⟨q, hq⟩ : ∃ q : Bool, (q = true ↔ X.alike Y) := by
            by_cases h : X.alike Y
            · exact ⟨true, by simp [h]⟩
            · exact ⟨false, by simp [h]⟩
          have hal : ∀ W, BelC wr W → Calls Try.prog 32 #[.agg #[.int .i64 X.kind, .string X.name, .slice xA X.args.length xB, .slice xL X.labels.length xM, .bool X.op], .agg #[.int .i64 Y.kind, .string Y.name, .slice yA Y.args.length yB, .slice yL Y.labels.length yM, .bool Y.op]] W fun e w' => e = .returned (.bool q) ∧ BelC wr w' := fun W hW => by
            have hbW : BelC w1 W := Below.trans HBr.out (Below.mono hW (Below.size HBr.out))
            exact (alike_r W S1 S2 X Y _ _ q (fun k hk => Nat.lt_of_lt_of_le (HS1.out k hk) (Below.size hbW)) (fun k hk => Nat.lt_of_lt_of_le (HS2.out k hk) (Below.size hbW)) (hnx.keep (fun k hk => ⟨hk, Below.block hbW k (HS1.out k hk)⟩)) (hny.keep (fun k hk => ⟨hk, Below.block hbW k (HS2.out k hk)⟩)) hq).mono fun _ _ h => ⟨h.1, Below.trans hW (h.2.mono (Below.size hW))⟩
          have HAl := Lib.hid hal
          have hcl : ∀ W, BelC w1 W → W.cell? ⟨w.heap.size, 0, none⟩ = some (.slice (some ⟨b1, o1, none⟩) g.nodes.length gc) ∧ W.cell? ⟨w.heap.size + 1, 0, none⟩ = some (.slice (some ⟨b2, o2, none⟩) h.nodes.length hc) ∧ W.cell? ⟨b1, o1 + a * 5, none⟩ = some (.int .i64 X.kind) ∧ W.cell? ⟨b1, o1 + a * 5 + 1, none⟩ = some (.string X.name) ∧ W.cell? ⟨b1, o1 + a * 5 + 2, none⟩ = some (.slice xA X.args.length xB) ∧ W.cell? ⟨b1, o1 + a * 5 + 3, none⟩ = some (.slice xL X.labels.length xM) ∧ W.cell? ⟨b1, o1 + a * 5 + 4, none⟩ = some (.bool X.op) ∧ W.cell? ⟨b2, o2 + d * 5, none⟩ = some (.int .i64 Y.kind) ∧ W.cell? ⟨b2, o2 + d * 5 + 1, none⟩ = some (.string Y.name) ∧ W.cell? ⟨b2, o2 + d * 5 + 2, none⟩ = some (.slice yA Y.args.length yB) ∧ W.cell? ⟨b2, o2 + d * 5 + 3, none⟩ = some (.slice yL Y.labels.length yM) ∧ W.cell? ⟨b2, o2 + d * 5 + 4, none⟩ = some (.bool Y.op) := fun W hW =>
            ⟨(HCC.out W hW).1, (HCC.out W hW).2.2.1, hW.old f0, hW.old f1, hW.old f2, hW.old f3, hW.old f4, hW.old g0, hW.old g1, hW.old g2, hW.old g3, hW.old g4⟩
          have HCl := Lib.hid hcl
          have hcr : ∀ W, BelC wr W → W.cell? ⟨w.heap.size, 0, none⟩ = some (.slice (some ⟨b1, o1, none⟩) g.nodes.length gc) ∧ W.cell? ⟨w.heap.size + 1, 0, none⟩ = some (.slice (some ⟨b2, o2, none⟩) h.nodes.length hc) ∧ W.cell? ⟨b1, o1 + a * 5, none⟩ = some (.int .i64 X.kind) ∧ W.cell? ⟨b1, o1 + a * 5 + 1, none⟩ = some (.string X.name) ∧ W.cell? ⟨b1, o1 + a * 5 + 2, none⟩ = some (.slice xA X.args.length xB) ∧ W.cell? ⟨b1, o1 + a * 5 + 3, none⟩ = some (.slice xL X.labels.length xM) ∧ W.cell? ⟨b1, o1 + a * 5 + 4, none⟩ = some (.bool X.op) ∧ W.cell? ⟨b2, o2 + d * 5, none⟩ = some (.int .i64 Y.kind) ∧ W.cell? ⟨b2, o2 + d * 5 + 1, none⟩ = some (.string Y.name) ∧ W.cell? ⟨b2, o2 + d * 5 + 2, none⟩ = some (.slice yA Y.args.length yB) ∧ W.cell? ⟨b2, o2 + d * 5 + 3, none⟩ = some (.slice yL Y.labels.length yM) ∧ W.cell? ⟨b2, o2 + d * 5 + 4, none⟩ = some (.bool Y.op) := fun W hW => hcl W (Below.trans HBr.out (Below.mono hW (Below.size HBr.out)))
          have HCr := Lib.hid hcr
          have hx0 := hcr wr (BelC.refl _)
          have HXf := Lib.hid hXf
          have HYf := Lib.hid hYf
          have HXok := Lib.hid hXok
          have HYok := Lib.hid hYok
          have HQq := Lib.hid hq
          have HU6 := Lib.hid u6
          have HV6 := Lib.hid v6
          unfold maxLen at u3 v3
          clear hX hY hXok hYok hXf hYf p1 p2 f0 f1 f2 f3 f4 g0 g1 g2 g3 g4 u1 u4 u5 u6 u7 v1 v4 v5 v6 v7 hnx hny hq hal hcl hcr
          have hbrr := BelC.refl wr
          have hp0 := And.intro c0 c1
          clear c0 c1
          go_wp2_with fail
          go_region_held3 (fun W => W.cell? ⟨lb, k * 2, none⟩ = some (.int .i64 (a : Int)) ∧ W.cell? ⟨lb, k * 2 + 1, none⟩ = some (.int .i64 (d : Int))) (exact hp0) (fail)
          go_wp2_with fail
          go_region_held3 (fun W => W.cell? ⟨w.heap.size, 0, none⟩ = some (.slice (some ⟨b1, o1, none⟩) g.nodes.length gc) ∧ W.cell? ⟨w.heap.size + 1, 0, none⟩ = some (.slice (some ⟨b2, o2, none⟩) h.nodes.length hc) ∧ W.cell? ⟨b1, o1 + a * 5, none⟩ = some (.int .i64 X.kind) ∧ W.cell? ⟨b1, o1 + a * 5 + 1, none⟩ = some (.string X.name) ∧ W.cell? ⟨b1, o1 + a * 5 + 2, none⟩ = some (.slice xA X.args.length xB) ∧ W.cell? ⟨b1, o1 + a * 5 + 3, none⟩ = some (.slice xL X.labels.length xM) ∧ W.cell? ⟨b1, o1 + a * 5 + 4, none⟩ = some (.bool X.op) ∧ W.cell? ⟨b2, o2 + d * 5, none⟩ = some (.int .i64 Y.kind) ∧ W.cell? ⟨b2, o2 + d * 5 + 1, none⟩ = some (.string Y.name) ∧ W.cell? ⟨b2, o2 + d * 5 + 2, none⟩ = some (.slice yA Y.args.length yB) ∧ W.cell? ⟨b2, o2 + d * 5 + 3, none⟩ = some (.slice yL Y.labels.length yM) ∧ W.cell? ⟨b2, o2 + d * 5 + 4, none⟩ = some (.bool Y.op))
            (first | with_reducible exact hx0 | (with_reducible refine HCr.out _ ?_; (· (repeat (first | with_reducible assumption | with_reducible exact BelC.refl _ | with_reducible refine BelC.alloc ?_ _ | with_reducible refine BelC.drew ?_)))))
            (first | (go_at_call 32; with_reducible refine (HAl.out _ ?_).mono ?_; (· (repeat (first | with_reducible assumption | with_reducible exact BelC.refl _ | with_reducible refine BelC.alloc ?_ _ | with_reducible refine BelC.drew ?_))); rintro e w5 ⟨rfl, hb5⟩))
          cases q with
          | false =>
            have hb0 : b = false := by
              rcases hbb : b with _ | _
              · rfl
              · have h1 := HB'.out.1 hbb
                refine absurd h1 (HRs.out.differ (List.mem_of_getElem? HPk.out) (fun e => ?_))
                simp only [] at e
                rw [HXf.out, HYf.out] at e
                have := HQq.out.2 (RNd.alike_iff.2 e)
                cases this
            go_wp2
            go_ret
            exact ⟨by rw [hb0]; rfl, HB1.out.trans ((Below.trans HBr.out (Below.mono hb5 (Below.size HBr.out))).mono HB1.out.size)⟩
          | true =>
            have hal2 : (g.gr.f a).alike (h.gr.f d) := by rw [HXf.out, HYf.out]; exact RNd.alike_iff.1 (HQq.out.1 rfl)
            have hXY : X.args.length = Y.args.length := (HQq.out.1 rfl).2.2.2.1
            obtain ⟨qs, hqs⟩ : ∃ qs, qs = List.zip (g.gr.f a).args (h.gr.f d).args := ⟨_, rfl⟩
            have hql : qs.length = X.args.length := by rw [hqs, HXf.out, HYf.out, List.length_zip]; simp [RNd.nd, hXY]
            have hqk : ∀ k (hk : k < X.args.length) (hq : k < qs.length), ∃ (hk' : k < Y.args.length), X.args[k] = ((qs[k].1 : Nat) : Int) ∧ Y.args[k] = ((qs[k].2 : Nat) : Int) := fun k hk hq => by
              have hk' : k < Y.args.length := by omega
              refine ⟨hk', ?_⟩
              have e1 : qs[k] = ((X.args[k]).toNat, (Y.args[k]).toNat) := by
                subst hqs
                simp [HXf.out, HYf.out, RNd.nd]
              have a1 := RNd.within_args HXok.out _ (List.getElem_mem hk)
              have a2 := RNd.within_args HYok.out _ (List.getElem_mem hk')
              rw [e1]
              simp only []
              omega
            have hdur : ∀ i, (G.addAll L (qs.take i)).length ≤ Q := fun i => by
              rw [HQ.out, hqs]
              obtain ⟨r1, r2⟩ := HRs.out.during HFg.out HFh.out HPk.out i
              exact pairs_len _ _ r2 r1
            have hbr5 : BelC w1 w5 := Below.trans HBr.out (Below.mono hb5 (Below.size HBr.out))
            have hrow5 : RowG srtP 51 w1.heap.size w5 (fun _ => False) (.slice (some ⟨lb, 0, none⟩) L.length c) L := HRow.out.keep (F := fun _ => False) (Keeps.of_below0 hb5) (fun _ e _ => e.elim)
            have hcl5 := HCl.out w5 hbr5
            have HAl2 := Lib.hid hal2
            have HQs := Lib.hid hqs
            have HQl := Lib.hid hql
            have HQk := Lib.hid hqk
            have HDur := Lib.hid hdur
            have HBr5 := Lib.hid hbr5
            have HRow5 := Lib.hid hrow5
            have HXY := Lib.hid hXY
            clear hal2 hXY hqs hql hqk hdur hbr5 hrow5 hb5 hx0 hbrr hp0
            go_wp2
            go_loopw [5, 67] (fun v5 v67 wi => ∃ (A : Option Addr) (c i : Nat) (L' : List (Nat × Nat)), v5 = .slice A L'.length c ∧ v67 = .int .i64 i ∧ i ≤ X.args.length ∧ L' = G.addAll L (qs.take i) ∧ RowG srtP 51 w1.heap.size wi (fun _ => False) (.slice A L'.length c) L' ∧ BelC w1 wi) (fun _ v67 _ => X.args.length - (intOf v67).toNat)
            case atStart => exact ⟨_, c, 0, L, rfl, rfl, Nat.zero_le _, by rw [List.take_zero]; rfl, HRow5.out, HBr5.out⟩
            case round =>
              obtain ⟨A6, c6, i, L', rfl, rfl, hiX, hL', hrow6, hb6⟩ := hrel
              have hlc6 : L'.length ≤ c6 ∧ c6 ≤ 2 ^ 63 - 1 := by
                obtain ⟨A', c', e, h1, h2⟩ := hrow6.form
                simp only [Value.slice.injEq] at e
                obtain ⟨_, _, rfl⟩ := e
                exact ⟨h1, by unfold maxLen at h2; exact h2⟩
              obtain ⟨hlc61, hlc62⟩ := hlc6
              have hLQ6 : L'.length ≤ Q := by rw [hL']; exact HDur.out i
              have HRow6 := Lib.hid hrow6
              have HB6 := Lib.hid hb6
              have HL' := Lib.hid hL'
              have hbi := BelC.refl wr
              have hx6 := HCl.out wr hb6
              clear hrow6 hb6 hL'
              by_cases hlt2 : i < X.args.length
              · have hlq : i < qs.length := by rw [HQl.out]; exact hlt2
                obtain ⟨hltY, hxk, hyk⟩ := HQk.out i hlt2 hlq
                obtain ⟨⟨x, y⟩, hq⟩ : ∃ q, q = qs[i] := ⟨_, rfl⟩
                rw [← hq] at hxk hyk
                simp only [] at hxk hyk
                obtain ⟨xb, xo, rfl, hsx, d1⟩ := IntsO.get _ _ HU6.out i hlt2
                obtain ⟨yb, yo, rfl, hsy, d2⟩ := IntsO.get _ _ HV6.out i hltY
                rw [hxk] at d1
                rw [hyk] at d2
                have htk : qs.take (i + 1) = qs.take i ++ [(x, y)] := by rw [List.take_add_one, List.getElem?_eq_getElem hlq, ← hq]; rfl
                have HTk := Lib.hid htk
                have hltY' : (i : Int) < (Y.args.length : Int) := by omega
                have hcd : ∀ W, BelC wr W → W.cell? ⟨w.heap.size, 0, none⟩ = some (.slice (some ⟨b1, o1, none⟩) g.nodes.length gc) ∧ W.cell? ⟨w.heap.size + 1, 0, none⟩ = some (.slice (some ⟨b2, o2, none⟩) h.nodes.length hc) ∧ W.cell? ⟨b1, o1 + a * 5 + 2, none⟩ = some (.slice (some ⟨xb, xo, none⟩) X.args.length xB) ∧ W.cell? ⟨b2, o2 + d * 5 + 2, none⟩ = some (.slice (some ⟨yb, yo, none⟩) Y.args.length yB) ∧ W.cell? ⟨xb, xo + i, none⟩ = some (.int .i64 (x : Int)) ∧ W.cell? ⟨yb, yo + i, none⟩ = some (.int .i64 (y : Int)) := fun W hW => by
                  have hbW : BelC w1 W := Below.trans HB6.out (Below.mono hW (Below.size HB6.out))
                  have h1 := HCl.out W hbW
                  exact ⟨h1.1, h1.2.1, h1.2.2.2.2.1, h1.2.2.2.2.2.2.2.2.2.1, hbW.old d1, hbW.old d2⟩
                have HCd := Lib.hid hcd
                have hx7 := hcd wr (BelC.refl _)
                clear hx6 hcl5 hxk hyk hq htk d1 d2 hsx hsy hcd hlq
                go_wp2_with fail
                go_region_held3 (fun W => W.cell? ⟨w.heap.size, 0, none⟩ = some (.slice (some ⟨b1, o1, none⟩) g.nodes.length gc) ∧ W.cell? ⟨w.heap.size + 1, 0, none⟩ = some (.slice (some ⟨b2, o2, none⟩) h.nodes.length hc) ∧ W.cell? ⟨b1, o1 + a * 5 + 2, none⟩ = some (.slice (some ⟨xb, xo, none⟩) X.args.length xB) ∧ W.cell? ⟨b2, o2 + d * 5 + 2, none⟩ = some (.slice (some ⟨yb, yo, none⟩) Y.args.length yB) ∧ W.cell? ⟨xb, xo + i, none⟩ = some (.int .i64 (x : Int)) ∧ W.cell? ⟨yb, yo + i, none⟩ = some (.int .i64 (y : Int)))
                  (first | with_reducible exact hx7 | (with_reducible refine HCd.out _ ?_; (· (repeat (first | with_reducible assumption | with_reducible exact BelC.refl _ | with_reducible refine BelC.alloc ?_ _ | with_reducible refine BelC.drew ?_ | (with_reducible refine BelC.setCell ?_ ?_ _; rotate_left; (· first | omega | (simp <;> omega))))))))
                  (fail)
                have hbn : BelC wr (wr.alloc (.cells #[.int .i64 (x : Int), .int .i64 (y : Int)] 51)).drew := ((BelC.refl wr).alloc _).drew
                have hqn : Blk (wr.alloc (.cells #[.int .i64 (x : Int), .int .i64 (y : Int)] 51)).drew wr.heap.size (.cells #[.int .i64 (x : Int), .int .i64 (y : Int)] 51 (0, 0)) := Blk.new' _ _ _ rfl
                generalize (wr.alloc (.cells #[.int .i64 (x : Int), .int .i64 (y : Int)] 51)).drew = wn at hbn hqn ⊢
                obtain ⟨nb, hnb⟩ : ∃ nb, nb = wr.heap.size := ⟨_, rfl⟩
                rw [← hnb] at hqn ⊢
                have hnbB : w1.heap.size ≤ nb := by rw [hnb]; exact Below.size HB6.out
                have hrown : RowG srtP 51 w1.heap.size wn (fun _ => False) (.slice A6 L'.length c6) L' := HRow6.out.keep (F := fun _ => False) (Keeps.of_below0 hbn) (fun _ e _ => e.elim)
                have hbn1 : BelC w1 wn := Below.trans HB6.out (Below.mono hbn (Below.size HB6.out))
                have hcn : ∀ W, BelC wn W → W.cell? ⟨nb, 0, none⟩ = some (.int .i64 (x : Int)) ∧ W.cell? ⟨nb, 1, none⟩ = some (.int .i64 (y : Int)) := fun W hW => ⟨BelC.old hW (hqn.cells.1 0), BelC.old hW (hqn.cells.1 1)⟩
                have hrn : nb < wn.heap.size := hqn.lt
                have hro : ∀ k, (Value.slice A6 L'.length c6).ownBlock = some k → k ≠ nb := fun k e e2 => by
                  have := (HRow6.out.block e).2
                  omega
                have HCn := Lib.hid hcn
                have HRown := Lib.hid hrown
                have HBn1 := Lib.hid hbn1
                have HRo := Lib.hid hro
                have hcn0 := hcn wn (BelC.refl _)
                clear hbn hqn hnb hrown hbn1 hcn hro hx7 hbi
                go_wp2
                go_loopw [11, 91] (fun v11 v91 wm => ∃ (j : Nat), v11 = .bool (decide ((x, y) ∈ L'.take j)) ∧ v91 = .int .i64 j ∧ j ≤ L'.length ∧ BelC wn wm) (fun _ v91 _ => L'.length - (intOf v91).toNat)
                case atStart => exact ⟨0, by simp, rfl, Nat.zero_le _, BelC.refl _⟩
                case round =>
                  obtain ⟨j, rfl, rfl, hjL, hbm⟩ := hrel
                  have HBm := Lib.hid hbm
                  have hcm := HCn.out wr hbm
                  obtain ⟨m1, m2⟩ := hcm
                  have hrowm : RowG srtP 51 w1.heap.size wr (fun _ => False) (.slice A6 L'.length c6) L' := HRown.out.keep (F := fun _ => False) (Keeps.of_below0 hbm) (fun _ e _ => e.elim)
                  have hnm : nb < wr.heap.size := Nat.lt_of_lt_of_le hrn (Below.size hbm)
                  have HRowm := Lib.hid hrowm
                  clear hbm
                  by_cases hlt3 : j < L'.length
                  · obtain ⟨rb, rfl, r0, r1, hrb, hrB⟩ := pairs_get hrowm j hlt3
                    obtain ⟨⟨px, py⟩, hpp⟩ : ∃ q, q = L'[j] := ⟨_, rfl⟩
                    have htj : L'.take (j + 1) = L'.take j ++ [(px, py)] := by rw [List.take_add_one, List.getElem?_eq_getElem hlt3, ← hpp]; rfl
                    have HTj := Lib.hid htj
                    rw [← hpp] at r0 r1
                    simp only [] at r0 r1
                    clear hpp htj hrowm
                    rcases hdm : decide ((x, y) ∈ L'.take j) with _ | _
                    · have heq : ((px : Int) == (x : Int) && (py : Int) == (y : Int)) = decide ((x, y) ∈ L'.take (j + 1)) := by
                        have hdm' := of_decide_eq_false hdm
                        rw [HTj.out, Bool.eq_iff_iff]
                        simp only [List.mem_append, List.mem_singleton, Prod.mk.injEq, Bool.and_eq_true, beq_iff_eq, decide_eq_true_eq, hdm', false_or]
                        omega
                      have HEq := Lib.hid heq
                      clear heq hdm
                      go_wp2
                      all_goals go_roundw
                      case rel => exact ⟨j + 1, by rw [HEq.out], by go_num, by omega, HBm.out.alloc _⟩
                      case measure => simp [intOf]; omega
                    · have heq : true = decide ((x, y) ∈ L'.take (j + 1)) := by
                        rw [HTj.out]
                        symm
                        rw [decide_eq_true_eq]
                        exact List.mem_append_left _ (of_decide_eq_true hdm)
                      have HEq := Lib.hid heq
                      clear heq hdm
                      go_wp2
                      all_goals go_roundw
                      case rel => exact ⟨j + 1, by rw [← HEq.out], by go_num, by omega, HBm.out.alloc _⟩
                      case measure => simp [intOf]; omega
                  · have hj' : j = L'.length := by omega
                    have htl : L'.take j = L' := by rw [hj', List.take_length]
                    rw [htl]
                    have hLn : G.addAll L (qs.take (i + 1)) = G.add1 L' (x, y) := by rw [HTk.out, G.addAll_snoc, ← HL'.out]
                    have HLn := Lib.hid hLn
                    clear hj' htl hLn
                    rcases hdm : decide ((x, y) ∈ L') with _ | _
                    · have hLn : G.addAll L (qs.take (i + 1)) = L' ++ [(x, y)] := by rw [HLn.out]; unfold G.add1; rw [if_neg (of_decide_eq_false hdm)]
                      have hbm1 : BelC w1 wr := Below.trans HBn1.out (Below.mono HBm.out (Below.size HBn1.out))
                      have HBm1 := Lib.hid hbm1
                      have HLn2 := Lib.hid hLn
                      have HRowK := Lib.hid (fun W (hW : BelC wr W) => (HRowm.out.keep (F := fun _ => False) (Keeps.of_below0 hW) (fun _ e _ => e.elim) : RowG srtP 51 w1.heap.size W (fun _ => False) (.slice A6 L'.length c6) L'))
                      have hzw : w1.heap.size ≤ wr.heap.size := Below.size hbm1
                      clear hdm hLn hrowm hbm1
                      go_wp2_with (at_builtin; (refine wpList_growB (T := srtP) (ms := [(x, y)]) rfl (.tmp 104) (.tmp 106) 52 51 rfl i0 _ 16 Try.underlying52 hi hz0 hz1 hz2 rfl rfl (HRowK.out _ ((BelC.refl wr).alloc _)) ⟨wr.heap.size, 0, none⟩ 1 [.int .i64 (x : Int), .int .i64 (y : Int)] rfl (fun j u hj => gcell_new _ _ _ _ rfl j u hj) (Items.one srtP (a := (x, y)) (v := pairV (x, y)) rfl) ?_ ?_ ?_ (by simp) ?_; (· simp [maxLen]; omega); (· simp; omega); (· simp; omega)); intro v8 w8 hrow8 hk8 hb8; obtain ⟨A8, c8, hv8, _, _⟩ := hrow8.form; rw [List.length_append, List.length_singleton] at hv8; subst hv8; have HRow8 := Lib.hid hrow8; have HB8 := Lib.hid (Below.trans (HBm1.out.alloc (.cells #[.int .i64 (x : Int), .int .i64 (y : Int)] 51)) (hk8.below (by simp; omega) (fun i hi e => by have := (HRowm.out.block e).1; omega)) : BelC w1 w8); clear hrow8 hk8 hb8)
                      all_goals go_roundw
                      case rel => exact ⟨A8, c8, i + 1, L' ++ [(x, y)], by simp, by go_num, by omega, HLn2.out.symm, by rw [List.length_append, List.length_singleton]; exact HRow8.out, HB8.out⟩
                      case measure => simp [intOf]; omega
                    · have hLn : G.addAll L (qs.take (i + 1)) = L' := by rw [HLn.out]; unfold G.add1; rw [if_pos (of_decide_eq_true hdm)]
                      have hbm1 : BelC w1 wr := Below.trans HBn1.out (Below.mono HBm.out (Below.size HBn1.out))
                      have HBm1 := Lib.hid hbm1
                      have HLn2 := Lib.hid hLn
                      clear hdm hLn hrowm hbm1
                      go_wp2
                      all_goals go_roundw
                      case rel => exact ⟨A6, c6, i + 1, L', rfl, by go_num, by omega, HLn2.out.symm, HRowm.out, HBm1.out⟩
                      case measure => simp [intOf]; omega
              · have hi' : i = X.args.length := by omega
                have hL2 : L' = G.addAll L (List.zip (g.gr.f a).args (h.gr.f d).args) := by
                  have h1 := HL'.out
                  rw [hi', ← HQl.out, List.take_length, HQs.out] at h1
                  exact h1
                have HL2 := Lib.hid hL2
                clear hi' hL2 hx6 hcl5
                go_wp2
                go_roundw
                case rel => exact ⟨A6, c6, k + 1, L', rfl, by go_num, HRow6.out, HB6.out, by rw [HL2.out]; exact HRs.out.added HFg.out HFh.out HPk.out HAl2.out⟩
                case measure => simp [intOf]; omega
        · have hk' : k = L.length := by omega
          have hsame : b = true ↔ ∀ p, p ∈ L → ∀ q, q ∈ L → (g.gr.f p.1).free → (p.1 = q.1 ↔ p.2 = q.2) := by
            have h1 := HRs.out
            rw [hk'] at h1
            rw [HB'.out]
            exact h1.same
          have hin : ∀ j (hj : j < L.length), L[j].1 < g.nodes.length ∧ L[j].2 < h.nodes.length := fun j hj => ⟨(HRs.out.lk _ (List.getElem_mem hj)).1, (HRs.out.lk _ (List.getElem_mem hj)).2.1⟩
          obtain ⟨wo, hwo⟩ : ∃ x, x = wr := ⟨_, rfl⟩
          rw [← hwo] at HBr HRow ⊢
          have HSm := Lib.hid hsame
          have HIn := Lib.hid hin
          clear hk' hsame hin hrow hwo
          go_wp2
          go_loopw [111] (fun v111 wm => ∃ (i : Nat), v111 = .int .i64 i ∧ i ≤ L.length ∧ (∀ p, p ∈ L.take i → ∀ q, q ∈ L → (g.gr.f p.1).free → (p.1 = q.1 ↔ p.2 = q.2)) ∧ BelC wo wm) (fun v111 _ => L.length - (intOf v111).toNat)
          case atStart => exact ⟨0, rfl, Nat.zero_le _, by simp, BelC.refl _⟩
          case round =>
            obtain ⟨i, rfl, hiL, hci, hbm⟩ := hrel
            have HCi := Lib.hid hci
            have HBm := Lib.hid hbm
            have hrowm : RowG srtP 51 w1.heap.size wr (fun _ => False) (.slice A L.length c) L := HRow.out.keep (F := fun _ => False) (Keeps.of_below0 hbm) (fun _ e _ => e.elim)
            clear hci hbm
            by_cases hlt2 : i < L.length
            · obtain ⟨lb, rfl, c0, c1, hlb, hlB⟩ := pairs_get hrowm i hlt2
              obtain ⟨haN, hdM⟩ := HIn.out i hlt2
              have hti : L.take (i + 1) = L.take i ++ [L[i]] := by rw [List.take_add_one, List.getElem?_eq_getElem hlt2]; rfl
              obtain ⟨⟨px, py⟩, hpp⟩ : ∃ q, q = L[i] := ⟨_, rfl⟩
              rw [← hpp] at c0 c1 haN hdM hti
              simp only [] at c0 c1 haN hdM
              obtain ⟨X, hX⟩ : ∃ X, X = g.nodes[px] := ⟨_, rfl⟩
              have hXf : g.gr.f px = X.nd := by rw [gr_nd, g.nd_eq px haN, hX]
              obtain ⟨b1, o1, rfl, p1⟩ := NdsO.get _ _ HOG.out px haN
              rw [← hX] at p1
              obtain ⟨xA, xB, xL, xM, f0, f1, f2, f3, f4, hxs⟩ := p1.val
              have hcl : ∀ W, BelC w1 W → W.cell? ⟨w.heap.size, 0, none⟩ = some (.slice (some ⟨b1, o1, none⟩) g.nodes.length gc) ∧ W.cell? ⟨b1, o1 + px * 5, none⟩ = some (.int .i64 X.kind) ∧ W.cell? ⟨b1, o1 + px * 5 + 1, none⟩ = some (.string X.name) ∧ W.cell? ⟨b1, o1 + px * 5 + 2, none⟩ = some (.slice xA X.args.length xB) ∧ W.cell? ⟨b1, o1 + px * 5 + 3, none⟩ = some (.slice xL X.labels.length xM) ∧ W.cell? ⟨b1, o1 + px * 5 + 4, none⟩ = some (.bool X.op) := fun W hW =>
                ⟨(HCC.out W hW).1, hW.old f0, hW.old f1, hW.old f2, hW.old f3, hW.old f4⟩
              have HCl := Lib.hid hcl
              have HTi := Lib.hid hti
              have HXf := Lib.hid hXf
              have hbn : BelC wr (wr.alloc (.cells #[.int .i64 (px : Int), .int .i64 (py : Int)] 51)) := (BelC.refl wr).alloc _
              have hqn : Blk (wr.alloc (.cells #[.int .i64 (px : Int), .int .i64 (py : Int)] 51)) wr.heap.size (.cells #[.int .i64 (px : Int), .int .i64 (py : Int)] 51 (0, 0)) := Blk.new' _ _ _ rfl
              have hb1lt : b1 < w1.heap.size := World.block_lt_of_cell? w1 _ f0
              clear hpp hti hX hXf p1 f0 f1 f2 f3 f4 hxs hcl hrowm
              go_wp2
              generalize (wr.alloc (.cells #[.int .i64 (px : Int), .int .i64 (py : Int)] 51)) = wn at hbn hqn ⊢
              obtain ⟨nb, hnb⟩ : ∃ nb, nb = wr.heap.size := ⟨_, rfl⟩
              rw [← hnb] at hqn ⊢
              have hon : BelC wo wn := Below.trans HBm.out (Below.mono hbn (Below.size HBm.out))
              have hcn : ∀ W, BelC wn W → W.cell? ⟨nb, 0, none⟩ = some (.int .i64 (px : Int)) ∧ W.cell? ⟨nb, 1, none⟩ = some (.int .i64 (py : Int)) := fun W hW => ⟨BelC.old hW (hqn.cells.1 0), BelC.old hW (hqn.cells.1 1)⟩
              have hrn : nb < wn.heap.size := hqn.lt
              have HCn := Lib.hid hcn
              have HOn := Lib.hid hon
              clear hbn hqn hnb hcn hon c0 c1
              go_loopw [117] (fun v117 wm => ∃ (j : Nat), v117 = .int .i64 j ∧ j ≤ L.length ∧ (∀ q, q ∈ L.take j → (g.gr.f px).free → (px = q.1 ↔ py = q.2)) ∧ BelC wn wm) (fun v117 _ => L.length - (intOf v117).toNat)
              case atStart => exact ⟨0, rfl, Nat.zero_le _, by simp, BelC.refl _⟩
              case round =>
                obtain ⟨j, rfl, hjL, hcj, hbj⟩ := hrel
                have HCj := Lib.hid hcj
                have HBj := Lib.hid hbj
                have hboj : BelC wo wr := Below.trans HOn.out (Below.mono hbj (Below.size HOn.out))
                have hb1j : BelC w1 wr := Below.trans HBr.out (Below.mono hboj (Below.size HBr.out))
                have hrowj : RowG srtP 51 w1.heap.size wr (fun _ => False) (.slice (some ⟨lb, 0, none⟩) L.length c) L := HRow.out.keep (F := fun _ => False) (Keeps.of_below0 hboj) (fun _ e _ => e.elim)
                have HBoj := Lib.hid hboj
                have HB1j := Lib.hid hb1j
                obtain ⟨k0, k1, k2, k3, k4, k5⟩ := HCl.out wr hb1j
                obtain ⟨m1, m2⟩ := HCn.out wr hbj
                have hnj : nb < wr.heap.size := Nat.lt_of_lt_of_le hrn (Below.size hbj)
                clear hcj hbj hboj hb1j
                by_cases hlt3 : j < L.length
                · obtain ⟨lb', e', r0, r1, hrb, hrB⟩ := pairs_get hrowj j hlt3
                  simp only [Option.some.injEq, Addr.mk.injEq, and_true] at e'
                  subst e'
                  have htj : L.take (j + 1) = L.take j ++ [L[j]] := by rw [List.take_add_one, List.getElem?_eq_getElem hlt3]; rfl
                  obtain ⟨⟨qx, qy⟩, hqq⟩ : ∃ q, q = L[j] := ⟨_, rfl⟩
                  rw [← hqq] at r0 r1 htj
                  simp only [] at r0 r1
                  have HTj := Lib.hid htj
                  clear hqq htj hrowj
                  have hbq : BelC wr (wr.alloc (.cells #[.int .i64 (qx : Int), .int .i64 (qy : Int)] 51)) := (BelC.refl wr).alloc _
                  have hqq : Blk (wr.alloc (.cells #[.int .i64 (qx : Int), .int .i64 (qy : Int)] 51)) wr.heap.size (.cells #[.int .i64 (qx : Int), .int .i64 (qy : Int)] 51 (0, 0)) := Blk.new' _ _ _ rfl
                  have hcq : ∀ W, BelC (wr.alloc (.cells #[.int .i64 (qx : Int), .int .i64 (qy : Int)] 51)) W → W.cell? ⟨wr.heap.size, 0, none⟩ = some (.int .i64 (qx : Int)) ∧ W.cell? ⟨wr.heap.size, 1, none⟩ = some (.int .i64 (qy : Int)) ∧ W.cell? ⟨nb, 0, none⟩ = some (.int .i64 (px : Int)) ∧ W.cell? ⟨nb, 1, none⟩ = some (.int .i64 (py : Int)) ∧ BelC wn W ∧ BelC wo W := fun W hW => by
                    have h1 : BelC wr W := Below.trans hbq (Below.mono hW (Below.size hbq))
                    have h2 : BelC wn W := Below.trans HBj.out (Below.mono h1 (Below.size HBj.out))
                    exact ⟨BelC.old hW (hqq.cells.1 0), BelC.old hW (hqq.cells.1 1), (HCn.out W h2).1, (HCn.out W h2).2, h2, Below.trans HBoj.out (Below.mono h1 (Below.size HBoj.out))⟩
                  have HCq := Lib.hid hcq
                  have hz1r := Below.size HB1j.out
                  have hne : nb ≠ wr.heap.size := by omega
                  have hne1 : b1 ≠ wr.heap.size := by omega
                  have hne2 : w.heap.size ≠ wr.heap.size := by omega
                  have hne3 : b1 < wr.heap.size := by omega
                  have hne4 : w.heap.size < wr.heap.size := by omega
                  clear hbq hqq hcq
                  rcases hxf : X.free with _ | _
                  · have hcj2 : ∀ q, q ∈ L.take (j + 1) → (g.gr.f px).free → (px = q.1 ↔ py = q.2) := by
                      intro q hq hfr
                      rw [HXf.out, ← RNd.free_iff, hxf] at hfr
                      cases hfr
                    have HCj2 := Lib.hid hcj2
                    have HXx := Lib.hid hxf
                    clear hcj2 hxf
                    go_wp2_with (go_at_call 31; refine (isFree_r _ X xA xL _ xB _ xM).mono ?_; rw [HXx.out]; rintro e w5 ⟨rfl, hb5⟩; obtain ⟨n1, n2, n3, n4, n5, n6⟩ := HCq.out w5 hb5; have HN5 := Lib.hid n5; clear hb5 n5 n6)
                    go_roundw
                    case rel => exact ⟨j + 1, by go_num, by omega, HCj2.out, HN5.out⟩
                    case measure => simp [intOf]; omega
                  · have HXx := Lib.hid hxf
                    have hfr : (g.gr.f px).free := by rw [HXf.out, ← RNd.free_iff]; exact hxf
                    have HFr := Lib.hid hfr
                    clear hxf hfr
                    rcases hnq : (!(((px : Int) == (qx : Int)) == ((py : Int) == (qy : Int)))) with _ | _
                    · have hcj2 : ∀ q, q ∈ L.take (j + 1) → (g.gr.f px).free → (px = q.1 ↔ py = q.2) := by
                        rw [HTj.out]
                        intro q hq hfr
                        rcases List.mem_append.1 hq with e | e
                        · exact HCj.out q e hfr
                        · simp at e
                          subst e
                          have h1 : ((px : Int) == (qx : Int)) = ((py : Int) == (qy : Int)) := by simpa using hnq
                          rw [Bool.eq_iff_iff] at h1
                          simp only [beq_iff_eq] at h1
                          simp only []
                          omega
                      have HCj2 := Lib.hid hcj2
                      clear hcj2
                      go_wp2_with (go_at_call 31; refine (isFree_r _ X xA xL _ xB _ xM).mono ?_; rw [HXx.out]; rintro e w5 ⟨rfl, hb5⟩; obtain ⟨n1, n2, n3, n4, n5, n6⟩ := HCq.out w5 hb5; have HN5 := Lib.hid n5; clear hb5 n5 n6)
                      go_roundw
                      case rel => exact ⟨j + 1, by go_num, by omega, HCj2.out, HN5.out⟩
                      case measure => simp [intOf]; omega
                    · have hb0 : b = false := by
                        rcases hbb : b with _ | _
                        · rfl
                        · exfalso
                          have h1 := HSm.out.1 hbb (px, py) (List.mem_of_mem_take (i := i + 1) (by rw [HTi.out]; simp)) (qx, qy) (List.mem_of_mem_take (i := j + 1) (by rw [HTj.out]; simp)) HFr.out
                          simp only [] at h1
                          have h2 : ((px : Int) == (qx : Int)) ≠ ((py : Int) == (qy : Int)) := by simpa using hnq
                          apply h2
                          rw [Bool.eq_iff_iff]
                          simp only [beq_iff_eq]
                          omega
                      have HB0 := Lib.hid hb0
                      clear hb0
                      go_wp2_with (go_at_call 31; refine (isFree_r _ X xA xL _ xB _ xM).mono ?_; rw [HXx.out]; rintro e w5 ⟨rfl, hb5⟩; obtain ⟨n1, n2, n3, n4, n5, n6⟩ := HCq.out w5 hb5; have HN6 := Lib.hid n6; clear hb5 n5 n6)
                      go_ret
                      exact ⟨by rw [HB0.out]; rfl, HB1.out.trans ((Below.trans HBr.out (Below.mono HN6.out (Below.size HBr.out))).mono HB1.out.size)⟩
                · have hj' : j = L.length := by omega
                  have hall : ∀ p, p ∈ L.take (i + 1) → ∀ q, q ∈ L → (g.gr.f p.1).free → (p.1 = q.1 ↔ p.2 = q.2) := by
                    rw [HTi.out]
                    intro p hp
                    rcases List.mem_append.1 hp with e | e
                    · exact HCi.out p e
                    · simp at e
                      subst e
                      have h1 := HCj.out
                      rw [hj', List.take_length] at h1
                      exact h1
                  have HAll := Lib.hid hall
                  clear hj' hall hrowj
                  go_wp2
                  go_roundw
                  case rel => exact ⟨i + 1, by go_num, by omega, HAll.out, HBoj.out⟩
                  case measure => simp [intOf]; omega
            · have hi' : i = L.length := by omega
              have hb1 : b = true := by
                rw [HSm.out]
                have h1 := HCi.out
                rw [hi', List.take_length] at h1
                exact h1
              clear hi' hrowm
              go_wp2
              go_ret
              exact ⟨by rw [hb1]; rfl, HB1.out.trans ((Below.trans HBr.out (Below.mono HBm.out (Below.size HBr.out))).mono HB1.out.size)⟩
end Go.Proofs.Ytipehahfbcbigaa

/-
  tree.Same. The region with both starts (12 orders) and the loop.
-/
import Derived.Test.YthgbldkcgfggfaaSame8
namespace Go.Proofs.Ythgbldkcgfggfaa
open Go.RowKit

set_option maxRecDepth 100000 in
set_option maxHeartbeats 4000000 in
theorem same_vals (w : World) (S1 S2 : Nat → Prop) (hS1 : ∀ k, S1 k → k < w.heap.size) (hS2 : ∀ k, S2 k → k < w.heap.size) (x y : Ex) (u1 u2 u3 u4 u5 u6 u7 v1 v2 v3 v4 v5 v6 v7 : Value) (r : Bool) (hr : r = true ↔ x = y) (hN : x.size ≤ 1000000) (hN2 : y.size ≤ 1000000) (hNT : x.tsize ≤ 1000000)
   (h1 : ExV w S1 x (.agg #[u1, u2, u3, u4, u5, u6, u7]))
   (h2 : ExV w S2 y (.agg #[v1, v2, v3, v4, v5, v6, v7])) : Calls Try.prog 21 #[.agg #[u1, u2, u3, u4, u5, u6, u7], .agg #[v1, v2, v3, v4, v5, v6, v7]] w fun e w' => e = .returned (.bool r) ∧ Below w.heap.size w w' := by
  have HR := Lib.hid hr
  obtain ⟨N, hNe⟩ : ∃ N, N = x.size := ⟨_, rfl⟩
  obtain ⟨N2, hN2e⟩ : ∃ N, N = y.size := ⟨_, rfl⟩
  obtain ⟨NT, hNTe⟩ : ∃ N, N = x.tsize := ⟨_, rfl⟩
  rw [← hNe] at hN
  rw [← hN2e] at hN2
  rw [← hNTe] at hNT
  have HNe := Lib.hid hNe
  have HN2e := Lib.hid hN2e
  have HNTe := Lib.hid hNTe
  clear hr hNe hN2e hNTe
  have H1 := Lib.hid h1
  have H2 := Lib.hid h2
  clear h1 h2
  go_enter Try.func21, Try.ntmps21
  go_wp2_with fail
  obtain ⟨wB, hwB⟩ : ∃ wB, wB = ((((w.alloc (.cells #[u1, u2, u3, u4, u5, u6, u7] 31)).alloc (.cells #[v1, v2, v3, v4, v5, v6, v7] 31)).alloc (.cells #[.slice none 0 0] 58)).alloc (.cells #[.slice none 0 0] 58)) := ⟨_, rfl⟩
  have hBz : wB.heap.size = w.heap.size + 4 := by rw [hwB]; simp
  have hb1 : wB.heap[w.heap.size]? = some (.cells #[u1, u2, u3, u4, u5, u6, u7] 31 (0, 0)) := by
    rw [hwB]; exact (Below.heap_alloc _ _ _ (by simp; omega)).trans ((Below.heap_alloc _ _ _ (by simp; omega)).trans ((Below.heap_alloc _ _ _ (by simp)).trans (heap_alloc_new w _)))
  have hz : (w.alloc (.cells #[u1, u2, u3, u4, u5, u6, u7] 31)).heap.size = w.heap.size + 1 := by simp
  have hb2 : wB.heap[w.heap.size + 1]? = some (.cells #[v1, v2, v3, v4, v5, v6, v7] 31 (0, 0)) := by
    rw [hwB, ← hz]; exact (Below.heap_alloc _ _ _ (by simp)).trans ((Below.heap_alloc _ _ _ (by simp)).trans (heap_alloc_new _ _))
  have hT1 : Box wB (w.heap.size + 1 + 1) 58 (.slice none 0 0) := by rw [hwB]; exact Box.alloc (Box.new' _ _ _ _ (by simp)) _
  have hT2 : Box wB (w.heap.size + 1 + 1 + 1) 58 (.slice none 0 0) := by rw [hwB]; exact Box.new' _ _ _ _ (by simp)
  have hcell : ∀ W, Below wB.heap.size wB W → (∀ j, W.cell? ⟨w.heap.size, j, none⟩ = (#[u1, u2, u3, u4, u5, u6, u7] : Array Value)[j]?) ∧ (∀ j, W.cell? ⟨w.heap.size + 1, j, none⟩ = (#[v1, v2, v3, v4, v5, v6, v7] : Array Value)[j]?) := fun W hW =>
    ⟨fun j => cell_of_row W _ j _ _ _ ((hW.block _ (by omega)).trans hb1), fun j => cell_of_row W _ j _ _ _ ((hW.block _ (by omega)).trans hb2)⟩
  have HC := Lib.hid hcell
  have HT1 := Lib.hid hT1
  have HT2 := Lib.hid hT2
  have HBw := Lib.hid (by rw [hwB]; exact ((((Below.refl _ w).alloc (Nat.le_refl _) _).alloc (by simp) _).alloc (by simp; omega) _).alloc (by simp; omega) _ : Below w.heap.size w wB)
  have HBz := Lib.hid hBz
  have HwB := Lib.hid hwB
  rw [← hwB]
  clear hb1 hb2 hcell hz hBz hwB hT1 hT2
  have HS1 := Lib.hid (fun k hk => Nat.lt_of_lt_of_le (hS1 k hk) HBw.out.size : ∀ k, S1 k → k < wB.heap.size)
  have HS2 := Lib.hid (fun k hk => Nat.lt_of_lt_of_le (hS2 k hk) HBw.out.size : ∀ k, S2 k → k < wB.heap.size)
  have H1' := Lib.hid (ExV.keep (fun k hk => ⟨hk, HBw.out.block k (hS1 k hk)⟩) _ _ H1.out : ExV wB S1 _ _)
  have H2' := Lib.hid (ExV.keep (fun k hk => ⟨hk, HBw.out.block k (hS2 k hk)⟩) _ _ H2.out : ExV wB S2 _ _)
  have hx0 := (HC.out wB (Below.refl _ _))
  rename_i Q' K hKi
  have hK : ∀ (A1 A2 : Option Addr) (c1' c2' g1 g2 : Nat) (S1' S2' : Nat → Prop) (W : World), Ready wB W S1 S2 S1' S2' g1 g2 (.slice A1 1 c1') (.slice A2 1 c2') x y →
      Exit.then K Q' Exit.normal { tmps := #[.agg #[u1, u2, u3, u4, u5, u6, u7], .agg #[v1, v2, v3, v4, v5, v6, v7], .pointer (some ⟨w.heap.size, 0, none⟩), .pointer (some ⟨w.heap.size + 1, 0, none⟩), .bool false,
        .pointer (some ⟨w.heap.size + 1 + 1, 0, none⟩), .pointer (some ⟨w.heap.size + 1 + 1 + 1, 0, none⟩), .pointer (some ⟨g1, 0, none⟩), .pointer (some ⟨g2, 0, none⟩), undef, undef, undef, undef,
        .agg #[u1, u2, u3, u4, u5, u6, u7], .agg #[.slice A1 1 c1'], .agg #[v1, v2, v3, v4, v5, v6, v7], .agg #[.slice A2 1 c2'], undef, undef, undef, undef, undef, undef, undef, undef, undef, undef, undef, undef, undef, undef, undef, undef, undef, undef], defers := [] } W := by
    intro A1 A2 c1' c2' g1 g2 S1' S2' W hrd
    have h4 := Ready.four hrd hS1 hS2 HBw.out HBz.out HT1.out HT2.out
    have H4 := Lib.hid h4
    clear h4 hrd hx0
    go_wp2
    go_loopg [9, 10, 11, 12] N (fun k _ _ _ _ wr => ∃ (q1 q2 qA qB : Value) (t1 t2 : List (List Ex × Int)) (T U : List (List Ty × Int)), Four w wr S1' S2' g1 g2 (w.heap.size + 1 + 1) (w.heap.size + 1 + 1 + 1) q1 q2 qA qB t1 t2 T U ∧
      (shp t1 = shp t2 ∧ shp T = shp U ∧ stOk Ex.sizes (2 * N + 1) t1 ∧ stSize Ex.sizes t1 ≤ k ∧ k ≤ N ∧ stOk Ty.sizes (2 * NT + 1) T ∧ stSize Ty.sizes T + stSize Ex.tsizes t1 = NT ∧ stOk Ex.sizes (2 * N2 + 1) t2 ∧ stSize Ex.sizes t2 ≤ N2) ∧ (r = true ↔ t1 = t2 ∧ T = U))
    case atStart =>
      refine ⟨_, _, _, _, _, _, _, _, H4.out, ⟨rfl, rfl, ?_, ?_, Nat.le_refl _, ?_, ?_, ?_, ?_⟩, ?_⟩
      · intro z hz
        simp at hz
        subst hz
        exact ⟨by simp, by simp, by simp only [Ex.sizes]; rw [HNe.out]; omega⟩
      · rw [HNe.out]; simp [stSize, Ex.sizes]
      · intro z hz; simp at hz
      · rw [HNTe.out]; simp [stSize, Ex.tsizes]
      · intro z hz
        simp at hz
        subst hz
        exact ⟨by simp, by simp, by simp only [Ex.sizes]; rw [HN2e.out]; omega⟩
      · rw [HN2e.out]; simp [stSize, Ex.sizes]
      · rw [HR.out]; simp
    case round =>
      obtain ⟨q1, q2, qA, qB, t1, t2, T, U, h4, hnum, hsem⟩ := hrel
      have H5 := Lib.hid h4
      have HNum := Lib.hid hnum
      have HSem := Lib.hid hsem
      clear h4 hnum hsem H4
      rcases snoc_cases t1 with rfl | ⟨s1, ⟨l, d⟩, rfl⟩
      · have ht2 := shp_nil HNum.out.1
        subst ht2
        have hTU : r = true ↔ T = U := by have := HSem.out; simpa using this
        have HTU := Lib.hid hTU
        have hsz : stSize Ty.sizes T ≤ NT := by have := HNum.out; omega
        clear hTU
        go_wp2_with fail
        refine (moreE _ S1' g1 q1 [] false rfl H5.out.w1).mono ?_
        rintro e w2 ⟨rfl, rfl⟩
        go_wp2_with fail
        refine (sameTypes_r _ S1' S2' _ _ qA qB T U NT r H5.out.wA H5.out.wB H5.out.aT H5.out.dA H5.out.dB HNum.out.2.1 HNum.out.2.2.2.2.2.1 hsz hNT HTU.out).mono ?_
        rintro e w3 ⟨rfl, hk⟩
        have hb3 := H5.out.hb.trans (hk.below H5.out.hb.size (by
          rintro i hi ((rfl | e) | (rfl | e))
          · have := H5.out.fA.1; omega
          · have := H5.out.fA.2 i e; omega
          · have := H5.out.fB.1; omega
          · have := H5.out.fB.2 i e; omega))
        have HB3 := Lib.hid hb3
        clear hk hb3
        go_wp2
        go_ret
        exact ⟨rfl, HB3.out⟩
      · obtain ⟨x0, l, rfl⟩ := List.exists_cons_of_ne_nil (HNum.out.2.2.1.snoc).2.1
        obtain ⟨s2, y0, m, rfl, hs12, hlm⟩ := shp_unsnoc HNum.out.1
        have HS12 := Lib.hid hs12
        have HLM := Lib.hid hlm
        clear hs12 hlm
        obtain ⟨n1, n2, n3⟩ := nextSt_bound HNum.out.2.2.1 (by have := HNum.out; omega) hN
        obtain ⟨m1, m2, m3⟩ := nextSt_bound HNum.out.2.2.2.2.2.2.2.1 HNum.out.2.2.2.2.2.2.2.2 hN2
        go_wp2_with fail
        refine (moreE _ S1' g1 q1 _ true (by simp) H5.out.w1).mono ?_
        rintro e w2 ⟨rfl, rfl⟩
        go_wp2_with fail
        refine (nextE _ S1' g1 q1 s1 x0 l d H5.out.w1 n1 (by omega) n3).mono ?_
        rintro e w3 ⟨b1, o1, rfl, hp1, q3, hw3, hs3⟩
        have H6 := Lib.hid (H5.out.step1 (show WalkE w3 S1' g1 q3 (nextSt s1 l d x0) from hw3) hs3)
        have HP1 := Lib.hid hp1
        clear hp1 hw3 hs3 H5
        go_wp2_with fail
        refine (nextE _ S2' g2 q2 s2 y0 m d H6.out.w2 m1 (by omega) m3).mono ?_
        rintro e w4 ⟨b2, o2, rfl, hp2, q4, hw4, hs4⟩
        have H7 := Lib.hid (H6.out.step2 (show WalkE w4 S2' g2 q4 (nextSt s2 m d y0) from hw4) hs4)
        have HP1' := Lib.hid (HP1.out.keep (fun k hk => ⟨hk, hs4.keeps.block k (H6.out.w1.old k hk) (fun e => H6.out.d2 k e hk)⟩))
        have HP2 := Lib.hid hp2
        clear hp2 hw4 hs4 H6 HP1
        rcases hn : exLoc x0 y0 with _ | _
        · have hrr : false = r := by
            have h1 := HSem.out
            cases r with
            | false => rfl
            | true => exact absurd (h1.1 rfl).1 (exLoc_ne hn)
          subst hrr
          have HN := Lib.hid hn
          clear hn
          go_wp2_with fail
          refine (sameExpr_r _ S1' S2' b1 o1 b2 o2 x0 y0 false H7.out.w1.old H7.out.w2.old HP1'.out HP2.out HN.out).mono ?_
          rintro e w5 ⟨rfl, hb5⟩
          have HB5 := Lib.hid (H7.out.hb.trans (hb5.mono H7.out.hb.size))
          clear hb5
          go_wp2
          go_ret
          exact ⟨rfl, HB5.out⟩
        · have HNx := Lib.hid (nextSt_eq (d := d) HS12.out HNum.out.2.1 HLM.out hn)
          have HN := Lib.hid hn
          clear hn
          go_wp2_with fail
          refine (sameExpr_r _ S1' S2' b1 o1 b2 o2 x0 y0 true H7.out.w1.old H7.out.w2.old HP1'.out HP2.out HN.out).mono ?_
          rintro e w5 ⟨rfl, hb5⟩
          have H8 := Lib.hid (H7.out.later hb5)
          have HP1a := Lib.hid (HP1'.out.keep (fun k hk => ⟨hk, hb5.block k (H7.out.w1.old k hk)⟩))
          have HP2a := Lib.hid (HP2.out.keep (fun k hk => ⟨hk, hb5.block k (H7.out.w2.old k hk)⟩))
          have hTl : T.length ≤ NT := by
            have h1 := HNum.out.2.2.2.2.2.1.length Ty.sizes_pos
            have h2 := HNum.out.2.2.2.2.2.2.1
            omega
          have hUl : U.length = T.length := by
            have := congrArg List.length HNum.out.2.1
            simp [shp] at this
            omega
          have hx9 : x0.mems.length ≤ 1000000 := by
            have h1 := nextSt_size s1 l d x0
            have h2 := HNum.out.2.2.2.1
            have h3 := HNum.out.2.2.2.2.1
            omega
          have hy9 : y0.mems.length ≤ 1000000 := by
            have h1 := nextSt_size s2 m d y0
            have h2 := HNum.out.2.2.2.2.2.2.2.2
            omega
          clear hb5 H7 HP1' HP2
          go_wp2_with fail
          refine (addTypes _ S1' S1' _ qA T b1 o1 x0 H8.out.wA HP1a.out (fun _ h => h) (by omega)).mono ?_
          rintro e w6 ⟨rfl, qA6, hw6, hs6⟩
          have H9 := Lib.hid (H8.out.stepA (show WalkT w6 S1' _ qA6 (nextTT T x0) from hw6) hs6)
          have HP2b := Lib.hid (HP2a.out.keep (fun k hk => ⟨hk, hs6.keeps.block k (H8.out.w2.old k hk) (fun e => H8.out.dA k e hk)⟩))
          clear hw6 hs6 H8 HP2a HP1a
          go_wp2_with fail
          refine (addTypes _ S2' S2' _ qB U b2 o2 y0 H9.out.wB HP2b.out (fun _ h => h) (by omega)).mono ?_
          rintro e w7 ⟨rfl, qB7, hw7, hs7⟩
          have H10 := Lib.hid (H9.out.stepB (show WalkT w7 S2' _ qB7 (nextTT U y0) from hw7) hs7)
          clear hw7 hs7 H9 HP2b
          go_wp2
          go_roundg (gk - 1)
          case measure => have h1 := HNum.out.2.2.2.1; have h2 := nextSt_size s1 l d x0; omega
          case rel =>
            refine ⟨q3, q4, qA6, qB7, nextSt s1 l d x0, nextSt s2 m d y0, nextTT T x0, nextTT U y0, H10.out, ⟨HNx.out.1.1, HNx.out.1.2, nextSt_ok HNum.out.2.2.1, ?_, ?_, next_tok HNum.out.2.2.2.2.2.1 ?_, ?_, nextSt_ok HNum.out.2.2.2.2.2.2.2.1, ?_⟩, ?_⟩
            · have h1 := HNum.out.2.2.2.1; have h2 := nextSt_size s1 l d x0; omega
            · have h1 := HNum.out.2.2.2.2.1; omega
            · have h1 := HNum.out.2.2.2.2.2.2.1
              rw [stSize_snoc] at h1
              simp only [Ex.tsizes] at h1
              omega
            · have h1 := HNum.out.2.2.2.2.2.2.1; have h2 := next_tsize T s1 l d x0; omega
            · have h1 := HNum.out.2.2.2.2.2.2.2.2; have h2 := nextSt_size s2 m d y0; omega
            · rw [HSem.out, HNx.out.2]
  have HK := Lib.hid hK
  clear hK hKi
  go_region_held3 (fun W => (∀ j, W.cell? ⟨w.heap.size, j, none⟩ = (#[u1, u2, u3, u4, u5, u6, u7] : Array Value)[j]?) ∧ (∀ j, W.cell? ⟨w.heap.size + 1, j, none⟩ = (#[v1, v2, v3, v4, v5, v6, v7] : Array Value)[j]?))
    (first | exact hx0 | exact HC.out _ (by repeat (first | assumption | exact BelC.refl _ | refine BelC.alloc ?_ _ | refine BelC.drew ?_ | refine BelC.setCell ?_ (by simp <;> omega) _)))
    (first | (go_at_call 28; refine (startE_at wB _ S1 x (.agg #[u1, u2, u3, u4, u5, u6, u7]) HS1.out H1'.out ?_).mono ?_; (· repeat (first | assumption | exact BelC.refl _ | refine BelC.alloc ?_ _ | refine BelC.drew ?_)); rintro e wc1 ⟨A1, c1', rfl, S1', hc11, hc12, hrow1, hbc1, hbel1, hown1⟩; have hsb1 := Below.size hbc1; obtain ⟨hcl1, hfl1⟩ := bcell hbel1; have hsz1 := hbel1.size; (try simp at hsz1); (try have hy0 : wB.heap.size < wc1.heap.size := by omega); (try have hy1 : wB.heap.size + 1 < wc1.heap.size := by omega)) | (go_at_call 28; refine (startE_at wB _ S2 y (.agg #[v1, v2, v3, v4, v5, v6, v7]) HS2.out H2'.out ?_).mono ?_; (· repeat (first | assumption | exact BelC.refl _ | refine BelC.alloc ?_ _ | refine BelC.drew ?_)); rintro e wc2 ⟨A2, c2', rfl, S2', hc21, hc22, hrow2, hbc2, hbel2, hown2⟩; have hsb2 := Below.size hbc2; obtain ⟨hcl2, hfl2⟩ := bcell hbel2; have hsz2 := hbel2.size; (try simp at hsz2); (try have hz0 : wB.heap.size < wc2.heap.size := by omega); (try have hz1 : wB.heap.size + 1 < wc2.heap.size := by omega); (try have hz2 : wc1.heap.size < wc2.heap.size := by omega); (try have hz3 : wc1.heap.size + 1 < wc2.heap.size := by omega)))
  all_goals refine HK.out A1 A2 c1' c2' _ _ S1' S2' _ (ready_at (wB := wB) (wc1 := wc1) (wc2 := wc2) HS1.out HS2.out hc12 hc22 hrow1 hrow2 hown1 hown2 ?_ ?_ ?_ ?_ ?_ ?_)
  all_goals first
    | (· first | exact hbel2 | exact Below.trans ((Below.refl _ wc1).alloc (Nat.le_refl _) _) (hbel2.mono (by (first | omega | (simp <;> omega) | (dsimp only; omega)))) | exact Below.trans (((Below.refl _ wc1).alloc (Nat.le_refl _) _).alloc (by (first | omega | (simp <;> omega) | (dsimp only; omega))) _) (hbel2.mono (by (first | omega | (simp <;> omega) | (dsimp only; omega)))))
    | (· repeat (first | exact hbc2 | with_reducible refine BelC.alloc ?_ _ | (with_reducible refine BelC.setCell ?_ ?_ _; rotate_left; (· (first | omega | (simp <;> omega) | (dsimp only; omega))))))
    | (· repeat (first | exact Keeps.refl _ _ | with_reducible refine Keeps.alloc ?_ _ | (refine Keeps.setCell ?_ (fun _ => ?_) _; rotate_left; (· first | exact .inl rfl | exact .inr rfl))))
    | (· repeat (first | (refine Box.new' _ _ _ _ ?_; (· (first | omega | (simp <;> omega) | (dsimp only; omega)))) | (with_reducible refine Box.set0 ?_ _) | (with_reducible refine Box.far ?_ ?_ _; rotate_left; (· (first | omega | (simp <;> omega) | (dsimp only; omega)))) | (with_reducible refine Box.alloc ?_ _) | (with_reducible refine Box.drew ?_) | (with_reducible refine Box.thru hbel2 ?_ ?_; (· (first | omega | (simp <;> omega) | (dsimp only; omega)))) | (with_reducible refine Box.thru hbel1 ?_ ?_; (· (first | omega | (simp <;> omega) | (dsimp only; omega))))))
    | (· refine ⟨?_, ?_, ?_, ?_, ⟨?_, ?_, ?_⟩, ?_, ?_, ?_⟩ <;> (first | omega | (simp <;> omega) | (dsimp only; omega)))


/-- tree.Same: whether two terms are the same. -/
theorem same_any (w : World) (S1 S2 : Nat → Prop) (x y : Ex) (vx vy : Value) (hS1 : ∀ k, S1 k → k < w.heap.size) (hS2 : ∀ k, S2 k → k < w.heap.size) (hx : ExV w S1 x vx) (hy : ExV w S2 y vy) (hN : x.size ≤ 1000000) (hN2 : y.size ≤ 1000000) (hNT : x.tsize ≤ 1000000) (r : Bool) (hr : r = true ↔ x = y) :
    Calls Try.prog 21 #[vx, vy] w fun e w' => e = .returned (.bool r) ∧ Below w.heap.size w w' := by
  have h1 := hx
  have h2 := hy
  obtain ⟨fk, fs, fn, fargs, fnames, ftypes, fmems⟩ := x
  obtain ⟨gk, gs, gn, gargs, gnames, gtypes, gmems⟩ := y
  unfold ExV at hx hy
  obtain ⟨aA, cA, aN, cN, aT, cT, aM, cM, rfl, _⟩ := hx
  obtain ⟨bA, dA, bN, dN, bT, dT, bM, dM, rfl, _⟩ := hy
  exact same_vals w S1 S2 hS1 hS2 _ _ _ _ _ _ _ _ _ _ _ _ _ _ _ _ r hr hN hN2 hNT h1 h2

end Go.Proofs.Ythgbldkcgfggfaa

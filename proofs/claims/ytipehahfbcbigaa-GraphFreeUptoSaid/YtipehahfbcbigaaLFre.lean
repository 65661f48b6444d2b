/-
  trefoillaw06.GraphFree is true for every input whose values and letters are 1048576 at most, and leaves its arguments as they were.
-/
import Derived.Test.YtipehahfbcbigaaLCom
import Derived.Test.YtipehahfbcbigaaLFreP
import Derived.Test.YtipehahfbcbigaaDRen
import Derived.Deep.CondSized
namespace Go.Proofs.Ytipehahfbcbigaa
open Go.ChangeShapes Go.WideShapes Go.ChangeAt Go.RowKit Go.Deep

def cVar : List Value := [.int .i64 1, .string ⟨#[]⟩, .slice none 0 0, .slice none 0 0, .bool false]
def cPair (i : Nat) : List Value := [.int .i64 2, .string ⟨#[42]⟩, .slice (some ⟨i, 0, none⟩) 2 2, .slice none 0 0, .bool false]
theorem ndV_var (W : World) (S : Nat → Prop) : NdV W S varR (.agg #[.int .i64 1, .string ⟨#[]⟩, .slice none 0 0, .slice none 0 0, .bool false]) :=
  ⟨none, 0, none, 0, rfl, by decide, Nat.le_refl _, by decide, Nat.le_refl _, by decide, trivial, trivial⟩
theorem ndV_pair {W : World} {S : Nat → Prop} {i : Nat} {x y : Int} (hS : S i) (k0 : W.cell? ⟨i, 0, none⟩ = some (.int .i64 x)) (k1 : W.cell? ⟨i, 1, none⟩ = some (.int .i64 y)) : NdV W S (pairR x y) (.agg #[.int .i64 2, .string ⟨#[42]⟩, .slice (some ⟨i, 0, none⟩) 2 2, .slice none 0 0, .bool false]) :=
  ⟨_, 2, none, 0, rfl, (show (1 : Nat) ≤ maxLen by decide), Nat.le_refl _, by decide, Nat.le_refl _, by decide, ⟨i, 0, rfl, hS, k0, i, 1, rfl, hS, k1, trivial⟩, trivial⟩
theorem items_one {W : World} {S : Nat → Prop} {i : Nat} {x y : Int} (hS : S i) (k0 : W.cell? ⟨i, 0, none⟩ = some (.int .i64 x)) (k1 : W.cell? ⟨i, 1, none⟩ = some (.int .i64 y)) : Items srtN W S [varR, pairR x y] (cVar ++ cPair i) :=
  ⟨_, cPair i, rfl, ndV_var W S, _, [], rfl, ndV_pair hS k0 k1, rfl⟩
theorem items_two {W : World} {S : Nat → Prop} {i : Nat} {x y : Int} (hS : S i) (k0 : W.cell? ⟨i, 0, none⟩ = some (.int .i64 x)) (k1 : W.cell? ⟨i, 1, none⟩ = some (.int .i64 y)) : Items srtN W S [varR, varR, pairR x y] (cVar ++ (cVar ++ cPair i)) :=
  ⟨_, cVar ++ cPair i, rfl, ndV_var W S, _, cPair i, rfl, ndV_var W S, _, [], rfl, ndV_pair hS k0 k1, rfl⟩
theorem row_later {t : TypeId} {base : Nat} {w : World} {S : Nat → Prop} {v : Value} {es : List RNd} (h : RowG srtN t base w S v es) (o1 o2 : Obj) : RowG srtN t base ((w.alloc o1).alloc o2) (fun k => S k ∨ k = w.heap.size) v es := by
  have h1 : RowG srtN t base ((w.alloc o1).alloc o2) S v es := h.keep (F := fun _ => False) (((Keeps.refl _ _).alloc _).alloc _) (fun _ e _ => e.elim)
  refine h1.wide (fun k hk => .inl hk) (fun k hk => ?_)
  rcases hk with hk | rfl
  · exact ⟨h1.old k hk, h1.apart k hk⟩
  · refine ⟨by simp <;> omega, fun e => ?_⟩
    have := (h.block e).2
    omega
theorem pair_cells {t : TypeId} (w : World) (a b : Value) (o : Obj) : ((w.alloc (.cells #[a, b] t)).alloc o).cell? ⟨w.heap.size, 0, none⟩ = some a ∧ ((w.alloc (.cells #[a, b] t)).alloc o).cell? ⟨w.heap.size, 1, none⟩ = some b := by
  have h : Blk ((w.alloc (.cells #[a, b] t)).alloc o) w.heap.size (.cells #[a, b] t (0, 0)) := (Blk.new' _ _ _ rfl).alloc _
  exact ⟨h.cells.1 0, h.cells.1 1⟩
/-- A graph that was made. -/
structure Made (w1 W : World) (h : RGr) (hb : Nat) (A : Option Addr) (c : Nat) : Prop where
  bel : BelC w1 W
  blk : Blk W hb (.cells #[.slice A h.nodes.length c, .int .i64 h.root] 24 (0, 0))
  val : GrV W (fun k => k < W.heap.size) h (.agg #[.slice A h.nodes.length c, .int .i64 h.root])
theorem Made.of {w1 w4 w6 W7 w7 : World} {S1 : Nat → Prop} {h : RGr} {A A6 : Option Addr} {c c6 n : Nat} {o1 o2 : Obj} (h14 : BelC w1 w4) (h46 : Keeps (fun k => (Value.slice (some ⟨w4.heap.size, 0, none⟩) 0 0).ownBlock = some k) (w4.alloc (.cells #[] 36)) w6) (e7 : W7 = (w6.alloc o1).alloc o2) (h67 : Keeps (fun k => (Value.slice A6 n c6).ownBlock = some k) W7 w7)
    (hs : ∀ k, (Value.slice A6 n c6).ownBlock = some k → w4.heap.size ≤ k) (hr : RowG srtN 36 w4.heap.size w7 (fun k => S1 k ∨ k = w6.heap.size) (.slice A h.nodes.length c) h.nodes) :
    Made w1 (w7.alloc (.cells #[.slice A h.nodes.length c, .int .i64 h.root] 24)) h w7.heap.size A c := by
  subst e7
  have b46 : BelC w4 w6 := Below.trans ((BelC.refl w4).alloc _) (h46.below (by simp) (fun k hk e => by simp [Value.ownBlock] at e; omega))
  have b47 : BelC w4 w7 := Below.trans ((b46.alloc _).alloc _) (h67.below (Below.size ((b46.alloc o1).alloc o2)) (fun k hk e => by have := hs k e; omega))
  have hb : BelC w1 w7 := Below.trans h14 (Below.mono b47 (Below.size h14))
  refine ⟨hb.alloc _, Blk.new' _ _ _ rfl, ?_⟩
  obtain ⟨A', c', e', r1, r2, r3⟩ := hr.nds (S' := fun k => k < w7.heap.size) (fun k hk => hr.old k hk) (fun k _ hk => hk)
  simp only [Value.slice.injEq, true_and] at e'
  obtain ⟨rfl, rfl⟩ := e'
  exact ⟨_, _, rfl, r1, r2, NdsO.keep (fun k hk => ⟨by simp <;> omega, Below.heap_alloc _ _ _ hk⟩) _ _ r3⟩
theorem free_c {w1 W : World} {S : Nat → Prop} {g : RGr} {gv : Value} {n : Nat} (hn : (g.reachU.filter g.fr).length = n) (hS : ∀ k, S k → k < w1.heap.size) (hg : GrV w1 S g gv) (hW : BelC w1 W) : Calls Try.prog 18 #[gv] W fun e w' => ∃ A c, e = .returned (.slice A n c) ∧ BelC w1 w' :=
  (dfree_r W S g gv (fun k hk => Nat.lt_of_lt_of_le (hS k hk) (Below.size hW)) (hg.keep (fun k hk => ⟨hk, Below.block hW k (hS k hk)⟩))).mono fun _ _ ⟨A, c, h1, _, _, _, h5⟩ => ⟨A, c, by rw [← hn]; exact h1, Below.trans hW (h5.mono (Below.size hW))⟩

set_option maxRecDepth 100000 in
set_option maxHeartbeats 2000000 in
theorem lawfree_any (w : World) (S1 : Nat → Prop) (g : RGr) (gv : Value) (hn : g.nodes.length + 3 ≤ 1048576) (hS1 : ∀ k, S1 k → k < w.heap.size) (hg : GrV w S1 g gv) :
    Calls Try.prog 7 #[gv] w fun e w' => e = .returned (.bool true) ∧ Below w.heap.size w w' := by
  have hgK := hg
  obtain ⟨gA, gc, rfl, hgc, hgm, oG⟩ := hg
  have hA : gA = none → g.nodes = [] := fun e => by
    subst e
    cases h : g.nodes with
    | nil => rfl
    | cons x r => rw [h] at oG; obtain ⟨_, _, e, _⟩ := oG; cases e
  unfold maxLen at hgm
  obtain ⟨w1, hw1⟩ : ∃ w1, w1 = w.alloc (.cells #[.slice gA g.nodes.length gc, .int .i64 g.root] 24) := ⟨_, rfl⟩
  have hsz1 : w1.heap.size = w.heap.size + 1 := by rw [hw1]; simp
  have hb1 : Below w.heap.size w w1 := by rw [hw1]; exact (Below.refl _ _).alloc (Nat.le_refl _) _
  have hq0 : Blk w1 w.heap.size (.cells #[.slice gA g.nodes.length gc, .int .i64 g.root] 24 (0, 0)) := by rw [hw1]; exact Blk.new' _ _ _ rfl
  have hcell : ∀ W, BelC w1 W → (W.cell? ⟨w.heap.size, 0, none⟩ = some (.slice gA g.nodes.length gc) ∧ W.cell? ⟨w.heap.size, 1, none⟩ = some (.int .i64 g.root)) := fun W hW => ⟨BelC.old hW (hq0.cells.1 0), BelC.old hW (hq0.cells.1 1)⟩
  have hgW := hgK.keep (w' := w1) (S' := S1) (fun k hk => ⟨hk, hb1.block k (hS1 k hk)⟩)
  have hT1 : ∀ k, S1 k → k < w1.heap.size := fun k hk => Nat.lt_of_lt_of_le (hS1 k hk) hb1.size
  have hlies : ∀ W, BelC w1 W → LiesAt srtN W S1 g.nodes gA := fun W hW => lies_nds (NdsO.keep (fun k hk => ⟨hk, (hb1.trans (Below.mono (show BelC w1 W from hW) hb1.size)).block k (hS1 k hk)⟩) _ _ oG) hA
  obtain ⟨cg, hcg⟩ : ∃ c, g.code = c := ⟨_, rfl⟩
  have HLies := Lib.hid hlies
  have HGg := Lib.hid (fun W (hW : BelC w1 W) => great_c hT1 hgW hW)
  have hKg := fun W (hW : BelC w1 W) => check_c hT1 hgW hW
  rw [hcg] at hKg
  have HKg := Lib.hid hKg
  have HC := Lib.hid hcell
  have HB1 := Lib.hid hb1
  have HCg := Lib.hid hcg
  have HT1 := Lib.hid hT1
  obtain ⟨i0, hi, hz0, hz1, hz2⟩ := info_parts infoNode
  clear hgK hS1 hb1 hq0 hcell hgW hT1 oG hA hlies hcg hKg
  go_enter Try.func7, Try.ntmps7
  go_wp2_with fail
  rw [← hw1]
  clear hw1
  refine (alive_c (BelC.refl w1)).mono ?_
  rintro e w2 ⟨rfl, hb2⟩
  have HB2 := Lib.hid hb2
  obtain ⟨k0, k1⟩ := HC.out w2 hb2
  clear hb2
  go_upto_region 5 with (first
    | (go_at_call 10; (with_reducible refine (HGg.out w2 HB2.out).mono ?_); rintro e w3 ⟨⟨z, rfl⟩, hb3⟩; have HB3 := Lib.hid hb3; obtain ⟨j0, j1⟩ := HC.out w3 hb3; clear hb3; by_cases hz : (300 : Int) < z)
    | (go_at_call 13; (with_reducible refine (HKg.out w3 HB3.out).mono ?_); rintro e w4 ⟨rfl, hb4⟩; have HB4 := Lib.hid hb4; have hx4 := HC.out w4 hb4; clear hb4; by_cases hc1 : cg = 0 <;> (first | subst hc1 | have hc1b : (cg != 0) = true := bne_iff_ne.2 hc1)))
  all_goals try (go_ret; first | exact ⟨rfl, HB1.out.trans (Below.mono HB3.out HB1.out.size)⟩ | exact ⟨rfl, HB1.out.trans (Below.mono HB4.out HB1.out.size)⟩)
  have hok := RGr.ok_of_code HCg.out
  have HOk := Lib.hid hok
  obtain ⟨x0, x1⟩ := hx4
  have hs4 := Below.size HB4.out
  have hS4 : ∀ k, S1 k → k < w4.heap.size := fun k hk => Nat.lt_of_lt_of_le (HT1.out k hk) hs4
  have HS4 := Lib.hid hS4
  have HL4 := Lib.hid (HLies.out)
  have hb41 := HB4.out
  clear hok k0 k1 j0 j1 HGg HKg HB2 HB3 hS4
  go_upto_region 6 with fail
  obtain ⟨y0, y1⟩ := HC.out (w4.alloc (.cells #[] 36)) (hb41.alloc _)
  have hrow5 : RowG srtN 36 w4.heap.size (w4.alloc (.cells #[] 36)) S1 (.slice (some ⟨w4.heap.size, 0, none⟩) 0 0) [] := RowG.emptyS (Blk.new' _ _ _ rfl) (Nat.le_refl _) HS4.out
  have hl5 := HL4.out (w4.alloc (.cells #[] 36)) (hb41.alloc _)
  have HRow5 := Lib.hid hrow5
  have HL5 := Lib.hid hl5
  clear hrow5 hl5
  go_upto_region 7 with (first
    | (at_builtin; refine wpList_cat2 (T := srtN) (base := w4.heap.size) (v := .slice (some ⟨w4.heap.size, 0, none⟩) 0 0) (S := S1) (es := []) (ms := g.nodes) rfl (.tmp 21) (.tmp 23) 22 36 rfl i0 _ 80 Try.underlying22 hi hz0 hz1 hz2 rfl rfl (by simp) HRow5.out gA gc rfl HL5.out ?_ ?_ ?_ ?_; (· simp [maxLen]; omega); (· simp; omega); (· simp); intro v6 w6 hrow6 hk6 hb6; rw [List.nil_append] at hrow6; obtain ⟨A6, c6, rfl, hn6, hm6⟩ := hrow6.form; have HRow6 := Lib.hid hrow6; have HK6 := Lib.hid hk6; have HO6 := Lib.hid (fun k (hk : (Value.slice A6 g.nodes.length c6).ownBlock = some k) => (hrow6.block hk).1); clear hrow6 hk6 hb6)
    | (at_builtin; refine wpList_growB (T := srtN) (base := w4.heap.size) (ms := [varR, pairR g.nodes.length g.nodes.length]) rfl (.tmp 24) (.tmp 30) 22 36 rfl i0 _ 80 Try.underlying22 hi hz0 hz1 hz2 rfl rfl (row_later HRow6.out _ _) ⟨w6.heap.size + 1, 0, none⟩ 2 (cVar ++ cPair w6.heap.size) rfl (fun j u hj => gcell_new _ _ _ _ (by simp) j u hj) (items_one (.inr rfl) (pair_cells _ _ _ _).1 (pair_cells _ _ _ _).2) ?_ ?_ ?_ (by simp) ?_; (· simp [maxLen]; omega); (· simp; omega); (· have := HK6.out.size; simp at this ⊢; omega); intro v7 w7 hrow7 hk7 hb7; obtain ⟨A7, c7, rfl, hn7, hm7⟩ := hrow7.form; have HRow7 := Lib.hid hrow7; have HK7 := Lib.hid hk7; clear hrow7 hk7 hb7))
  have hm1 := Made.of (h := g.one) HB4.out HK6.out rfl HK7.out HO6.out (by have h := HRow7.out; simpa [RGr.one] using h)
  have e1 : g.one.nodes.length = g.nodes.length + 2 := by simp [RGr.one]
  have e2 : g.one.root = (g.nodes.length : Int) + 1 := rfl
  rw [e1, e2] at hm1
  have hb48 : BelC w1 (w7.alloc (.cells #[.slice A7 (g.nodes.length + 2) c7, .int .i64 ((g.nodes.length : Int) + 1)] 24)) := hm1.bel
  obtain ⟨w8, hw8⟩ : ∃ x, x = w7.alloc (.cells #[.slice A7 (g.nodes.length + 2) c7, .int .i64 ((g.nodes.length : Int) + 1)] 24) := ⟨_, rfl⟩
  rw [← hw8] at hm1 hb48 ⊢
  obtain ⟨ob, hob⟩ : ∃ x, x = w7.heap.size := ⟨_, rfl⟩
  rw [← hob] at hm1 ⊢
  have HM1 := Lib.hid hm1
  have hb81 := hb48
  have HB8 := Lib.hid hb48
  have hs8 := Below.size hb48
  have hS8 : ∀ k, S1 k → k < w8.heap.size := fun k hk => Nat.lt_of_lt_of_le (HT1.out k hk) hs8
  have HS8 := Lib.hid hS8
  have HL8 := Lib.hid (HLies.out)
  clear hm1 hb48 hS8 hw8 hob HRow6 HRow7 HK6 HK7 HO6 HL4 HL5 HRow5 y0 y1 hb41 hn6 hm6 hn7 hm7
  obtain ⟨z0, z1⟩ := HC.out (w8.alloc (.cells #[] 36)) (hb81.alloc _)
  have hrow9 : RowG srtN 36 w8.heap.size (w8.alloc (.cells #[] 36)) S1 (.slice (some ⟨w8.heap.size, 0, none⟩) 0 0) [] := RowG.emptyS (Blk.new' _ _ _ rfl) (Nat.le_refl _) HS8.out
  have hl9 := HL8.out (w8.alloc (.cells #[] 36)) (hb81.alloc _)
  have HRow9 := Lib.hid hrow9
  have HL9 := Lib.hid hl9
  clear hrow9 hl9
  go_upto_region 8 with (first
    | (at_builtin; refine wpList_cat2 (T := srtN) (base := w8.heap.size) (v := .slice (some ⟨w8.heap.size, 0, none⟩) 0 0) (S := S1) (es := []) (ms := g.nodes) rfl (.tmp 35) (.tmp 37) 22 36 rfl i0 _ 80 Try.underlying22 hi hz0 hz1 hz2 rfl rfl (by simp) HRow9.out gA gc rfl HL9.out ?_ ?_ ?_ ?_; (· simp [maxLen]; omega); (· simp; omega); (· simp); intro v10 w10 hrow10 hk10 hb10; rw [List.nil_append] at hrow10; obtain ⟨A10, c10, rfl, hn10, hm10⟩ := hrow10.form; have HRow10 := Lib.hid hrow10; have HK10 := Lib.hid hk10; have HO10 := Lib.hid (fun k (hk : (Value.slice A10 g.nodes.length c10).ownBlock = some k) => (hrow10.block hk).1); clear hrow10 hk10 hb10)
    | (at_builtin; refine wpList_growB (T := srtN) (base := w8.heap.size) (ms := [varR, varR, pairR g.nodes.length ((g.nodes.length : Int) + 1)]) rfl (.tmp 38) (.tmp 46) 22 36 rfl i0 _ 80 Try.underlying22 hi hz0 hz1 hz2 rfl rfl (row_later HRow10.out _ _) ⟨w10.heap.size + 1, 0, none⟩ 3 (cVar ++ (cVar ++ cPair w10.heap.size)) rfl (fun j u hj => gcell_new _ _ _ _ (by simp) j u hj) (items_two (.inr rfl) (pair_cells _ _ _ _).1 (pair_cells _ _ _ _).2) ?_ ?_ ?_ (by simp) ?_; (· simp [maxLen]; omega); (· simp; omega); (· have := HK10.out.size; simp at this ⊢; omega); intro v11 w11 hrow11 hk11 hb11; obtain ⟨A11, c11, rfl, hn11, hm11⟩ := hrow11.form; have HRow11 := Lib.hid hrow11; have HK11 := Lib.hid hk11; clear hrow11 hk11 hb11))
  have hm2 := Made.of (w1 := w8) (h := g.two) (BelC.refl w8) HK10.out rfl HK11.out HO10.out (by have h := HRow11.out; simpa [RGr.two] using h)
  have e3 : g.two.nodes.length = g.nodes.length + 3 := by simp [RGr.two]
  have e4 : g.two.root = (g.nodes.length : Int) + 2 := rfl
  rw [e3, e4] at hm2
  obtain ⟨w12, hw12⟩ : ∃ x, x = w11.alloc (.cells #[.slice A11 (g.nodes.length + 3) c11, .int .i64 ((g.nodes.length : Int) + 2)] 24) := ⟨_, rfl⟩
  rw [← hw12] at hm2 ⊢
  obtain ⟨tb, htb⟩ : ∃ x, x = w11.heap.size := ⟨_, rfl⟩
  rw [← htb] at hm2 ⊢
  have hv1 := HM1.out.val.keep (w' := w12) (S' := fun k => k < w8.heap.size) (fun k hk => ⟨hk, Below.block hm2.bel k hk⟩)
  have hv2 := hm2.val
  have hq1 := HM1.out.blk
  have hq2 := hm2.blk
  rw [e1, e2] at hv1 hq1
  rw [e3, e4] at hv2 hq2
  have h1lt : ∀ k, k < w8.heap.size → k < w12.heap.size := fun k hk => Nat.lt_of_lt_of_le hk (Below.size hm2.bel)
  have h2lt : ∀ k, k < w12.heap.size → k < w12.heap.size := fun k hk => hk
  have ok1 := RGr.one_ok HOk.out hn
  have ok2 := RGr.two_ok HOk.out hn
  have K1 := Lib.hid (fun W (hW : BelC w12 W) => dsame_c (b := false) h1lt hv1 h2lt hv2 ⟨(fun h => (by cases h)), fun h => absurd h.2.2 g.one_two⟩ hW)
  have K2 := Lib.hid (fun W (hW : BelC w12 W) => free_c (RGr.one_free HOk.out hn) h1lt hv1 hW)
  have K3 := Lib.hid (fun W (hW : BelC w12 W) => free_c (RGr.two_free HOk.out hn) h2lt hv2 hW)
  have hcell : ∀ W, BelC w12 W → (W.cell? ⟨ob, 0, none⟩ = some (.slice A7 (g.nodes.length + 2) c7) ∧ W.cell? ⟨ob, 1, none⟩ = some (.int .i64 ((g.nodes.length : Int) + 1)) ∧ W.cell? ⟨tb, 0, none⟩ = some (.slice A11 (g.nodes.length + 3) c11) ∧ W.cell? ⟨tb, 1, none⟩ = some (.int .i64 ((g.nodes.length : Int) + 2))) := fun W hW =>
    ⟨BelC.old hW (BelC.old hm2.bel (hq1.cells.1 0)), BelC.old hW (BelC.old hm2.bel (hq1.cells.1 1)), BelC.old hW (hq2.cells.1 0), BelC.old hW (hq2.cells.1 1)⟩
  have KC := Lib.hid hcell
  have KB := Lib.hid (HB1.out.trans (Below.mono (Below.trans HB8.out (Below.mono hm2.bel (Below.size HB8.out))) HB1.out.size) : Below w.heap.size w w12)
  obtain ⟨q0, q1, q2, q3⟩ := hcell w12 (BelC.refl _)
  clear hcell hm2 hw12 htb hv1 hv2 hq1 hq2 h1lt h2lt ok1 ok2 HRow10 HRow11 HK10 HK11 HO10 HL9 HRow9 z0 z1 hb81 hn10 hm10 hn11 hm11 x0 x1
  go_wp2_with (first
    | (go_at_call 21; (with_reducible refine (K1.out w12 (BelC.refl _)).mono ?_); rintro e w13 ⟨rfl, hb13⟩; have HB13 := Lib.hid hb13; obtain ⟨q4, q5, q6, q7⟩ := KC.out w13 hb13; clear hb13)
    | (go_at_call 18; (with_reducible refine (K2.out w13 HB13.out).mono ?_); rintro e w14 ⟨A14, c14, rfl, hb14⟩; have HB14 := Lib.hid hb14; obtain ⟨p4, p5, p6, p7⟩ := KC.out w14 hb14; clear hb14)
    | (go_at_call 18; (with_reducible refine (K3.out w14 HB14.out).mono ?_); rintro e w15 ⟨A15, c15, rfl, hb15⟩; have HB15 := Lib.hid hb15; clear hb15))
  go_ret
  exact ⟨rfl, KB.out.trans (Below.mono HB15.out KB.out.size)⟩

set_option maxRecDepth 100000 in
theorem graphfree_lifted (os : Os) (started : os.Started) (H : Type) (enc : TypeId × Value → H) (F : Stop.Interp) :
    ReturnsInHanded {} Try.checked os 7 .any ((Rows.OpenSpec.upto Rows.graphFreeSpec).pre6 enc Try.prog Try.f7 Rows.graphFreeUptoRow.domain false) (((Rows.OpenSpec.upto Rows.graphFreeSpec).at F).post enc Try.prog Try.f7 false true false false) := by
  refine returnsInHanded_of_cond_sized (C := Try.checked) (s := Rows.OpenSpec.upto Rows.graphFreeSpec) (k := Rows.uptoSmall) rfl lawOwn started (by kernel_rfl) Try.func7
    (OpenSpec.witness (enc := enc) (C := Try.checked) (s := Rows.OpenSpec.upto Rows.graphFreeSpec) (k := Rows.uptoSmall) rfl false ⟨#[], #[.agg #[.slice none 0 0, .int .i64 0]], []⟩ 8 (by kernel_rfl) (by kernel_rfl) (by kernel_rfl)
      (x := ([.agg [.nil, .lit (.int .i64 0)]], [], [])) (by kernel_rfl) rfl (by kernel_rfl)) ?_
  intro W base args ds gs before hval0 hW _ hk hsz0 _
  have hsz : (DataW.weightsEach Try.prog (Try.f7.params.toList ++ Rows.graphFreeSpec.plain.varTypes Try.prog) (ds ++ gs)).all (· ≤ reachBytes) = true := hsz0
  clear hsz0
  have hval : ∀ (j : Nat) t v, Try.f7.params[j]? = some t → args[j]? = some v → Value.okWide Try.prog W .any base t v := hval0
  have hW' := hW
  obtain ⟨p, q, hA0, hV, rfl, _, _⟩ := hW
  have hA : DataW.TrodAll enc Try.prog W 0 (fun _ => true) true Try.f7.params.toList args.toList ds p := hA0
  rw [Try.params7] at hA hval hsz
  obtain ⟨v0, d0, rfl, rfl, h0⟩ := trodAll_one hA
  obtain ⟨rfl, rfl⟩ := trodVars_none hV
  have hsz1 : (DataW.weightsEach Try.prog [24] [d0]).all (· ≤ reachBytes) = true := hsz
  have hwt := fun n hn => of_decide_eq_true (List.all_eq_true.1 hsz1 n hn)
  obtain ⟨g, hg, _, _, dn, dr, rfl, hdn⟩ := open_graph (hval 0 24 v0 rfl rfl) h0 (fun n hn => hwt n (DataW.weights_mem_each (j := 0) (t := 24) (d := d0) rfl rfl n hn))
  have hn : g.nodes.length + 3 ≤ 1048576 := bulk_graph (hdn.imp (fun h => by rw [h]; rfl) id) hk
  clear hA0 hval0
  simp only [List.append_nil] at hW'
  have hlt : ∀ x ∈ p, x.block < W.heap.size := fun x hx => by simpa using hW'.lt x (by simpa using hx)
  refine (lawfree_any W _ g v0 hn (fun _ h => h) hg).mono fun e W' ⟨he, hnx⟩ => ?_
  subst he
  refine ⟨_, rfl, _, _, _, [], p, [], hW', ?_, ?_, rfl, hnx.frame _, fun h => by cases h⟩
  · exact trodAll_mk1 (shut_bool Try.underlying4 true)
  · exact trodAll_mk1 (Below.trod lawLaid (by kernel_rfl) (of_decide_eq_true (by kernel_rfl)) h0 hnx hlt)

theorem graphfree_holds : Rows.GraphFreeUptoSaid :=
  OpenClaim.holds_of_cond 7 Try.f7 rfl rfl rfl rfl rfl rfl rfl ⟨rfl, rfl, rfl, rfl, rfl⟩ rfl rfl rfl rfl rfl (by kernel_rfl) Try.func7 (by kernel_rfl)
    (of_decide_eq_true (by kernel_rfl)) (by unfold Func.isWrapper; first | (rw [if_pos (by decide +kernel)]; kernel_rfl) | (rw [if_neg (by decide +kernel)]; exact ⟨rfl, rfl⟩))
    (fun os started H enc _ F => graphfree_lifted os started H enc F)

#print axioms graphfree_holds
end Go.Proofs.Ytipehahfbcbigaa

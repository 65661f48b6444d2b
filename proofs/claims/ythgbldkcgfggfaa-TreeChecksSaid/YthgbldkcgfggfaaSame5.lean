/-
  tree.SameType: two calls of start in one drawn region, then sameTypes.
-/
import Derived.Test.YthgbldkcgfggfaaSame4
import Derived.Test.YthgbldkcgfggfaaSame3
import Derived.Deep.RegionWith
import Derived.Deep.RegionHeld3
namespace Go.Proofs.Ythgbldkcgfggfaa
open Go.RowKit

theorem BelC.refl (w : World) : BelC w w := Below.refl _ _
theorem BelC.alloc {w W : World} (h : BelC w W) (o : Obj) : BelC w (W.alloc o) := Below.alloc h (Below.size h) o
theorem BelC.drew {w W : World} (h : BelC w W) : BelC w W.drew := Below.drew h

theorem BelC.setCell {w W : World} (h : BelC w W) {p : Addr} (hp : w.heap.size ≤ p.block) (u : Value) : BelC w (W.setCell p u) := Below.setCell h hp u
theorem bcell {W w1 : World} (hb : Below W.heap.size W w1) : (∀ b o, b < W.heap.size → w1.cell? ⟨b, o, none⟩ = W.cell? ⟨b, o, none⟩) ∧ (∀ b o, b < W.heap.size → w1.frozen? ⟨b, o, none⟩ = W.frozen? ⟨b, o, none⟩) :=
  ⟨fun b o h => hb.cell (p := ⟨b, o, none⟩) h, fun b o h => hb.frozen (p := ⟨b, o, none⟩) h⟩

/-- start once more, from any world that has what w0 had. -/
theorem startT_at (w0 w : World) (S : Nat → Prop) (e0 : Ty) (ev : Value) (hS : ∀ k, S k → k < w0.heap.size) (he : TyV w0 S e0 ev) (hb : BelC w0 w) :
    Calls Try.prog 46 #[ev] w fun e w' => ∃ A c, e = .returned (.agg #[.slice A 1 c]) ∧ ∃ S', (∀ k, S k → S' k) ∧ (∀ k, S' k → S k ∨ w.heap.size ≤ k) ∧ RowT w' S' (.slice A 1 c) [([e0], 1)] ∧ BelC w0 w' ∧ Below w.heap.size w w' ∧ (∀ k, (Value.slice A 1 c).ownBlock = some k → w.heap.size ≤ k) := by
  refine (startT w S e0 ev (fun k hk => Nat.lt_of_lt_of_le (hS k hk) hb.size) (TyV.keep (fun k hk => ⟨hk, hb.block k (hS k hk)⟩) _ _ he)).mono ?_
  rintro e w' ⟨v, S', he, h1, h2, h3, h4, h5⟩
  obtain ⟨A, c, rfl⟩ := h3.form
  exact ⟨A, c, he, S', h1, h2, h3, Below.trans hb (h4.mono hb.size), h4, h5⟩

theorem Box.below {w w' : World} {g : Nat} {t : TypeId} {v : Value} (h : Box w g t v) (hb : Below w.heap.size w w') : Box w' g t v := (hb.block g h.lt).trans h

/-- Two walks' rows that were made one behind the other, each in a variable of its own. -/
theorem two_walksT {wB wc1 wc2 W : World} {L1 L2 g1 g2 : Nat} {S1 S2 S1' S2' : Nat → Prop} {v1 v2 : Value} {x y : Ty} (hS1 : ∀ k, S1 k → k < wB.heap.size) (hS2 : ∀ k, S2 k → k < wB.heap.size)
    (h12 : ∀ k, S1' k → S1 k ∨ L1 ≤ k) (h22 : ∀ k, S2' k → S2 k ∨ L2 ≤ k) (hr1 : RowT wc1 S1' v1 [([x], 1)]) (hr2 : RowT wc2 S2' v2 [([y], 1)])
    (ho1 : ∀ k, v1.ownBlock = some k → L1 ≤ k) (ho2 : ∀ k, v2.ownBlock = some k → L2 ≤ k) (hL1 : wB.heap.size ≤ L1) (hL2 : wc1.heap.size ≤ L2) (hLc : L1 ≤ wc1.heap.size) (hb12 : Below wc1.heap.size wc1 wc2)
    (hK : Keeps (fun k => k = g1 ∨ k = g2) wc2 W) (hB1 : Box W g1 58 v1) (hB2 : Box W g2 58 v2) (hne : g1 ≠ g2)
    (hg1 : wB.heap.size ≤ g1 ∧ (g1 < L1 ∨ wc1.heap.size ≤ g1) ∧ (g1 < L2 ∨ wc2.heap.size ≤ g1)) (hg2 : wB.heap.size ≤ g2 ∧ (g2 < L1 ∨ wc1.heap.size ≤ g2) ∧ (g2 < L2 ∨ wc2.heap.size ≤ g2)) :
    WalkT W S1' g1 v1 [([x], 1)] ∧ WalkT W S2' g2 v2 [([y], 1)] ∧ (∀ k, Own g1 v1 k → ¬ Own g2 v2 k) ∧ (∀ k, Own g1 v1 k → ¬ S2' k) ∧ (∀ k, Own g2 v2 k → ¬ S1' k) ∧ Fresh wB.heap.size g1 v1 ∧ Fresh wB.heap.size g2 v2 := by
  have lt1 : ∀ k, v1.ownBlock = some k → k < wc1.heap.size := by
    obtain ⟨xs, h, _⟩ := hr1.raw
    exact fun k hk => (h.lt k hk).2
  have lt2 : ∀ k, v2.ownBlock = some k → k < wc2.heap.size := by
    obtain ⟨xs, h, _⟩ := hr2.raw
    exact fun k hk => (h.lt k hk).2
  have s12 := hb12.size
  have hr1c : RowT wc2 S1' v1 [([x], 1)] := hr1.keep (T := fun _ => False) (Keeps.of_below0 hb12) (fun _ h => h.elim)
  have nS1 : ∀ k, (k = g1 ∨ k = g2) → ¬ S1' k := by
    rintro k hk hs
    have h1 := hr1.old k hs
    rcases h12 k hs with h | h
    · have := hS1 k h; omega
    · omega
  have nS2 : ∀ k, (k = g1 ∨ k = g2) → ¬ S2' k := by
    rintro k hk hs
    have h1 := hr2.old k hs
    rcases h22 k hs with h | h
    · have := hS2 k h; omega
    · omega
  have n1 : ∀ k, (k = g1 ∨ k = g2) → v1.ownBlock ≠ some k := fun k hk e => by have h1 := ho1 k e; have h2 := lt1 k e; omega
  have n2 : ∀ k, (k = g1 ∨ k = g2) → v2.ownBlock ≠ some k := fun k hk e => by have h1 := ho2 k e; have h2 := lt2 k e; omega
  have hR1 := hr1c.keep hK (fun k hk => ⟨nS1 k hk, n1 k hk⟩)
  have hR2 := hr2.keep hK (fun k hk => ⟨nS2 k hk, n2 k hk⟩)
  obtain ⟨x1, r1, l1⟩ := hR1.raw
  obtain ⟨x2, r2, l2⟩ := hR2.raw
  refine ⟨⟨⟨x1, ⟨hB1, r1⟩, l1⟩, ?_, hR1.old⟩, ⟨⟨x2, ⟨hB2, r2⟩, l2⟩, ?_, hR2.old⟩, ?_, ?_, ?_, ⟨hg1.1, fun k hk => by have := ho1 k hk; omega⟩, ⟨hg2.1, fun k hk => by have := ho2 k hk; omega⟩⟩
  · rintro k hs (e | e)
    · exact nS1 k (.inl e) hs
    · exact hR1.apart k hs e
  · rintro k hs (e | e)
    · exact nS2 k (.inr e) hs
    · exact hR2.apart k hs e
  · rintro k (e | e) (e' | e')
    · omega
    · exact n2 k (.inl e) e'
    · exact n1 k (.inr e') e
    · have h1 := lt1 k e; have h2 := ho2 k e'; omega
  · rintro k (e | e) hs
    · exact nS2 k (.inl e) hs
    · have h1 := lt1 k e
      have h3 := ho1 k e
      rcases h22 k hs with h | h
      · have := hS2 k h; omega
      · omega
  · rintro k (e | e) hs
    · exact nS1 k (.inr e) hs
    · have h1 := ho2 k e
      have h2 := hr1.old k hs
      omega

theorem Box.new' (w : World) (t : TypeId) (v : Value) (g : Nat) (h : g = w.heap.size) : Box (w.alloc (.cells #[v] t)) g t v := h ▸ Box.new w t v
theorem Box.set0 {w : World} {g : Nat} {t : TypeId} (h : Box w g t (.slice none 0 0)) (u : Value) : Box (w.setCell ⟨g, 0, none⟩ u) g t u := h.set u
theorem Box.thru {B : Nat} {w w' : World} {g : Nat} {t : TypeId} {v : Value} (hb : Below B w w') (hg : g < B) (h : Box w g t v) : Box w' g t v := (hb.block g hg).trans h

/-- The call of sameTypes on two walks that were made one behind the other. -/
theorem sameTypes_at {wB wc1 wc2 W : World} {L1 L2 g1 g2 : Nat} {S1 S2 S1' S2' : Nat → Prop} {v1 v2 : Value} {x y : Ty} (r : Bool) (hr : r = true ↔ x = y) (hN : x.size ≤ 1000000) (hS1 : ∀ k, S1 k → k < wB.heap.size) (hS2 : ∀ k, S2 k → k < wB.heap.size)
    (h12 : ∀ k, S1' k → S1 k ∨ L1 ≤ k) (h22 : ∀ k, S2' k → S2 k ∨ L2 ≤ k) (hr1 : RowT wc1 S1' v1 [([x], 1)]) (hr2 : RowT wc2 S2' v2 [([y], 1)])
    (ho1 : ∀ k, v1.ownBlock = some k → L1 ≤ k) (ho2 : ∀ k, v2.ownBlock = some k → L2 ≤ k) (hb12 : Below wc1.heap.size wc1 wc2)
    (hb : BelC wB W) (hK : Keeps (fun k => k = g1 ∨ k = g2) wc2 W) (hB1 : Box W g1 58 v1) (hB2 : Box W g2 58 v2)
    (hnum : wB.heap.size ≤ L1 ∧ wc1.heap.size ≤ L2 ∧ L1 ≤ wc1.heap.size ∧ g1 ≠ g2 ∧ (wB.heap.size ≤ g1 ∧ (g1 < L1 ∨ wc1.heap.size ≤ g1) ∧ (g1 < L2 ∨ wc2.heap.size ≤ g1)) ∧ (wB.heap.size ≤ g2 ∧ (g2 < L1 ∨ wc1.heap.size ≤ g2) ∧ (g2 < L2 ∨ wc2.heap.size ≤ g2))) :
    Calls Try.prog 42 #[.pointer (some ⟨g1, 0, none⟩), .pointer (some ⟨g2, 0, none⟩)] W fun e w' => e = .returned (.bool r) ∧ BelC wB w' := by
  obtain ⟨h1, h2, h3, h4, h5, f1, f2⟩ := two_walksT hS1 hS2 h12 h22 hr1 hr2 ho1 ho2 hnum.1 hnum.2.1 hnum.2.2.1 hb12 hK hB1 hB2 hnum.2.2.2.1 hnum.2.2.2.2.1 hnum.2.2.2.2.2
  refine (sameTypes_r W S1' S2' g1 g2 v1 v2 _ _ x.size r h1 h2 h3 h4 h5 rfl ?_ (by simp [stSize, Ty.sizes]) hN (by simpa using hr)).mono ?_
  · intro z hz
    simp at hz
    subst hz
    exact ⟨by simp, by simp, by simp only [Ty.sizes]; omega⟩
  · rintro e w' ⟨rfl, hk⟩
    refine ⟨rfl, Below.trans hb (hk.below hb.size ?_)⟩
    rintro i hi ((rfl | e) | (rfl | e))
    · have := f1.1; omega
    · have := f1.2 i e; omega
    · have := f2.1; omega
    · have := f2.2 i e; omega

set_option maxRecDepth 100000 in
set_option maxHeartbeats 4000000 in
theorem sameType_vals (w : World) (S1 S2 : Nat → Prop) (hS1 : ∀ k, S1 k → k < w.heap.size) (hS2 : ∀ k, S2 k → k < w.heap.size) (k1 k2 : Int) (s1 s2 : ByteArray) (t1 t2 : List Ty) (l1 l2 : List ByteArray) (o1 o2 : Bool) (aA1 aA2 aL1 aL2 : Option Addr) (c1 c2 d1 d2 : Nat)
   (r : Bool) (hr : r = true ↔ Ty.mk k1 s1 t1 l1 o1 = Ty.mk k2 s2 t2 l2 o2) (hN : (Ty.mk k1 s1 t1 l1 o1).size ≤ 1000000) (h1 : TyV w S1 (.mk k1 s1 t1 l1 o1) (.agg #[.int .i64 k1, .string s1, .slice aA1 t1.length c1, .slice aL1 l1.length d1, .bool o1]))
   (h2 : TyV w S2 (.mk k2 s2 t2 l2 o2) (.agg #[.int .i64 k2, .string s2, .slice aA2 t2.length c2, .slice aL2 l2.length d2, .bool o2])) : Calls Try.prog 23 #[.agg #[.int .i64 k1, .string s1, .slice aA1 t1.length c1, .slice aL1 l1.length d1, .bool o1], .agg #[.int .i64 k2, .string s2, .slice aA2 t2.length c2, .slice aL2 l2.length d2, .bool o2]] w fun e w' => e = .returned (.bool r) ∧ Below w.heap.size w w' := by
  have HR := Lib.hid hr
  have HN := Lib.hid hN
  clear hr hN
  have H1 := Lib.hid h1
  have H2 := Lib.hid h2
  clear h1 h2
  go_enter Try.func23, Try.ntmps23
  go_wp2_with fail
  have hz : (w.alloc (.cells #[.int .i64 k1, .string s1, .slice aA1 t1.length c1, .slice aL1 l1.length d1, .bool o1] 42)).heap.size = w.heap.size + 1 := by simp
  obtain ⟨wB, hwB⟩ : ∃ wB, wB = (w.alloc (.cells #[.int .i64 k1, .string s1, .slice aA1 t1.length c1, .slice aL1 l1.length d1, .bool o1] 42)).alloc (.cells #[.int .i64 k2, .string s2, .slice aA2 t2.length c2, .slice aL2 l2.length d2, .bool o2] 42) := ⟨_, rfl⟩
  have hBz : wB.heap.size = w.heap.size + 2 := by rw [hwB]; simp
  have hb1 : wB.heap[w.heap.size]? = some (.cells #[.int .i64 k1, .string s1, .slice aA1 t1.length c1, .slice aL1 l1.length d1, .bool o1] 42 (0, 0)) := by
    rw [hwB]; exact (Below.heap_alloc _ _ _ (by simp)).trans (heap_alloc_new w _)
  have hb2 : wB.heap[w.heap.size + 1]? = some (.cells #[.int .i64 k2, .string s2, .slice aA2 t2.length c2, .slice aL2 l2.length d2, .bool o2] 42 (0, 0)) := by
    rw [hwB, ← hz]; exact heap_alloc_new _ _
  have hcell : ∀ W, Below wB.heap.size wB W → (∀ j, W.cell? ⟨w.heap.size, j, none⟩ = (#[.int .i64 k1, .string s1, .slice aA1 t1.length c1, .slice aL1 l1.length d1, .bool o1] : Array Value)[j]?) ∧ (∀ j, W.cell? ⟨w.heap.size + 1, j, none⟩ = (#[.int .i64 k2, .string s2, .slice aA2 t2.length c2, .slice aL2 l2.length d2, .bool o2] : Array Value)[j]?) := fun W hW =>
    ⟨fun j => cell_of_row W _ j _ _ _ ((hW.block _ (by omega)).trans hb1), fun j => cell_of_row W _ j _ _ _ ((hW.block _ (by omega)).trans hb2)⟩
  have HC := Lib.hid hcell
  have HBw := Lib.hid (by rw [hwB]; exact ((Below.refl _ w).alloc (Nat.le_refl _) _).alloc (by simp) _ : Below w.heap.size w wB)
  have HBz := Lib.hid hBz
  have HwB := Lib.hid hwB
  rw [← hwB]
  clear hb1 hb2 hcell hz hBz hwB
  have HS1 := Lib.hid (fun k hk => Nat.lt_of_lt_of_le (hS1 k hk) HBw.out.size : ∀ k, S1 k → k < wB.heap.size)
  have HS2 := Lib.hid (fun k hk => Nat.lt_of_lt_of_le (hS2 k hk) HBw.out.size : ∀ k, S2 k → k < wB.heap.size)
  have H1' := Lib.hid (TyV.keep (fun k hk => ⟨hk, HBw.out.block k (hS1 k hk)⟩) _ _ H1.out : TyV wB S1 _ _)
  have H2' := Lib.hid (TyV.keep (fun k hk => ⟨hk, HBw.out.block k (hS2 k hk)⟩) _ _ H2.out : TyV wB S2 _ _)
  have hx0 := (HC.out wB (Below.refl _ _))
  go_region_held3 (fun W => (∀ j, W.cell? ⟨w.heap.size, j, none⟩ = (#[.int .i64 k1, .string s1, .slice aA1 t1.length c1, .slice aL1 l1.length d1, .bool o1] : Array Value)[j]?) ∧ (∀ j, W.cell? ⟨w.heap.size + 1, j, none⟩ = (#[.int .i64 k2, .string s2, .slice aA2 t2.length c2, .slice aL2 l2.length d2, .bool o2] : Array Value)[j]?))
    (first | exact hx0 | exact HC.out _ (by repeat (first | assumption | exact BelC.refl _ | refine BelC.alloc ?_ _ | refine BelC.drew ?_ | refine BelC.setCell ?_ (by simp <;> omega) _)))
    (first | (go_at_call 46; refine (startT_at wB _ S1 (.mk k1 s1 t1 l1 o1) (.agg #[.int .i64 k1, .string s1, .slice aA1 t1.length c1, .slice aL1 l1.length d1, .bool o1]) HS1.out H1'.out ?_).mono ?_; (· repeat (first | assumption | exact BelC.refl _ | refine BelC.alloc ?_ _ | refine BelC.drew ?_)); rintro e wc1 ⟨A1, c1', rfl, S1', hc11, hc12, hrow1, hbc1, hbel1, hown1⟩; have hsb1 := Below.size hbc1; obtain ⟨hcl1, hfl1⟩ := bcell hbel1; have hsz1 := hbel1.size; (try simp at hsz1); (try have hy0 : wB.heap.size < wc1.heap.size := by omega); (try have hy1 : wB.heap.size + 1 < wc1.heap.size := by omega)) | (go_at_call 46; refine (startT_at wB _ S2 (.mk k2 s2 t2 l2 o2) (.agg #[.int .i64 k2, .string s2, .slice aA2 t2.length c2, .slice aL2 l2.length d2, .bool o2]) HS2.out H2'.out ?_).mono ?_; (· repeat (first | assumption | exact BelC.refl _ | refine BelC.alloc ?_ _ | refine BelC.drew ?_)); rintro e wc2 ⟨A2, c2', rfl, S2', hc21, hc22, hrow2, hbc2, hbel2, hown2⟩; have hsb2 := Below.size hbc2; obtain ⟨hcl2, hfl2⟩ := bcell hbel2; have hsz2 := hbel2.size; (try simp at hsz2); (try have hz0 : wB.heap.size < wc2.heap.size := by omega); (try have hz1 : wB.heap.size + 1 < wc2.heap.size := by omega); (try have hz2 : wc1.heap.size < wc2.heap.size := by omega); (try have hz3 : wc1.heap.size + 1 < wc2.heap.size := by omega)))
  all_goals go_wp2_with fail
  all_goals go_at_call 42
  all_goals refine (sameTypes_at (wB := wB) (wc1 := wc1) (wc2 := wc2) r HR.out HN.out HS1.out HS2.out hc12 hc22 hrow1 hrow2 hown1 hown2 ?_ ?_ ?_ ?_ ?_ ?_).mono ?_
  all_goals first
    | (· first | exact hbel2 | exact Below.trans ((Below.refl _ wc1).alloc (Nat.le_refl _) _) (hbel2.mono (by (first | omega | (simp <;> omega) | (dsimp only; omega)))) | exact Below.trans (((Below.refl _ wc1).alloc (Nat.le_refl _) _).alloc (by (first | omega | (simp <;> omega) | (dsimp only; omega))) _) (hbel2.mono (by (first | omega | (simp <;> omega) | (dsimp only; omega)))))
    | (· repeat (first | exact hbc2 | with_reducible refine BelC.alloc ?_ _ | (with_reducible refine BelC.setCell ?_ ?_ _; rotate_left; (· (first | omega | (simp <;> omega) | (dsimp only; omega))))))
    | (· repeat (first | exact Keeps.refl _ _ | with_reducible refine Keeps.alloc ?_ _ | (refine Keeps.setCell ?_ (fun _ => ?_) _; rotate_left; (· first | exact .inl rfl | exact .inr rfl))))
    | (· repeat (first | (refine Box.new' _ _ _ _ ?_; (· (first | omega | (simp <;> omega) | (dsimp only; omega)))) | (with_reducible refine Box.set0 ?_ _) | (with_reducible refine Box.far ?_ ?_ _; rotate_left; (· (first | omega | (simp <;> omega) | (dsimp only; omega)))) | (with_reducible refine Box.alloc ?_ _) | (with_reducible refine Box.drew ?_) | (with_reducible refine Box.thru hbel2 ?_ ?_; (· (first | omega | (simp <;> omega) | (dsimp only; omega)))) | (with_reducible refine Box.thru hbel1 ?_ ?_; (· (first | omega | (simp <;> omega) | (dsimp only; omega))))))
    | (· refine ⟨?_, ?_, ?_, ?_, ⟨?_, ?_, ?_⟩, ?_, ?_, ?_⟩ <;> (first | omega | (simp <;> omega) | (dsimp only; omega)))
    | (· rintro e w' ⟨rfl, hbf⟩; go_wp2; go_ret; exact ⟨rfl, Below.trans HBw.out (hbf.mono HBw.out.size)⟩)

/-- tree.SameType: whether two types are the same. -/
theorem sameType_any (w : World) (S1 S2 : Nat → Prop) (x y : Ty) (vx vy : Value) (hS1 : ∀ k, S1 k → k < w.heap.size) (hS2 : ∀ k, S2 k → k < w.heap.size) (hx : TyV w S1 x vx) (hy : TyV w S2 y vy) (hN : x.size ≤ 1000000) (r : Bool) (hr : r = true ↔ x = y) :
    Calls Try.prog 23 #[vx, vy] w fun e w' => e = .returned (.bool r) ∧ Below w.heap.size w w' := by
  obtain ⟨k1, s1, t1, l1, o1⟩ := x
  obtain ⟨k2, s2, t2, l2, o2⟩ := y
  have h1 := hx
  have h2 := hy
  unfold TyV at hx hy
  obtain ⟨aA1, c1, aL1, d1, rfl, _⟩ := hx
  obtain ⟨aA2, c2, aL2, d2, rfl, _⟩ := hy
  exact sameType_vals w S1 S2 hS1 hS2 k1 k2 s1 s2 t1 t2 l1 l2 o1 o2 aA1 aA2 aL1 aL2 c1 c2 d1 d2 r hr hN h1 h2

end Go.Proofs.Ythgbldkcgfggfaa

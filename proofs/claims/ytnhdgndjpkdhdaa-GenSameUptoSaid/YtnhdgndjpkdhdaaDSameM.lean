/-
  graph.same.
-/
/-
  graph.Same.
-/
import Derived.Test.YtnhdgndjpkdhdaaDLookM
import Derived.Test.YtnhdgndjpkdhdaaDStkM
import Derived.Deep.LoopGhost
namespace Go.Proofs.Ytnhdgndjpkdhdaa
open Go.RowKit

section
variable {t : TypeId} {base : Nat} {w : World} {S : Nat → Prop} {v : Value} {es : List (Nat × Nat)} {q : Nat × Nat}
/-- What is known of the last pair. -/
theorem pairs_last (h : RowG srtP t base w S v (es ++ [q])) : ∃ g c, v = .slice (some ⟨g, 0, none⟩) (es.length + 1) c ∧ es.length + 1 ≤ c ∧ c ≤ maxLen ∧
    w.cell? ⟨g, es.length * 2, none⟩ = some (.int .i64 (q.1 : Int)) ∧ w.cell? ⟨g, es.length * 2 + 1, none⟩ = some (.int .i64 (q.2 : Int)) ∧ g < w.heap.size ∧ base ≤ g := by
  obtain ⟨xs, h1, h2⟩ := h.raw
  obtain ⟨vl, ys, e1, e2, e3⟩ := Items.unsnoc es xs h2
  have e2' : vl = pairV q := e2
  subst e2'
  obtain ⟨g, c, hv, hc, hm⟩ := own_pos h1 (by simp)
  subst hv
  have hyl : ys.length = es.length * 2 := Items.length srtP _ _ e3
  have c0 := h1.cellAt (es.length * 2) (by simp [srtP])
  have c1 := h1.cellAt (es.length * 2 + 1) (by simp [srtP]; omega)
  have hlt := h1.lt g rfl
  rw [e1, List.getElem?_append_right (by omega), hyl] at c0 c1
  refine ⟨g, c, by simp, by simpa using hc, hm, ?_, ?_, hlt.2, hlt.1⟩
  · rw [c0]; simp [Value.cells, pairV]
  · rw [c1, show es.length * 2 + 1 - es.length * 2 = 1 by omega]; simp [Value.cells, pairV]
/-- Without the last pair. -/
theorem pairs_cut {g c : Nat} (h : RowG srtP t base w S (.slice (some ⟨g, 0, none⟩) (es.length + 1) c) (es ++ [q])) : RowG srtP t base w S (.slice (some ⟨g, 0, none⟩) es.length c) es := by
  obtain ⟨xs, h1, h2⟩ := h.raw
  obtain ⟨vl, ys, e1, _, e3⟩ := Items.unsnoc es xs h2
  have hyl : ys.length = es.length * 2 := Items.length srtP _ _ e3
  have hlen : (es ++ [q]).length = es.length + 1 := by simp
  rw [hlen] at h1
  refine ⟨⟨ys, own_cut (k := 1) h1 ?_ (by simp [srtP, hyl]), e3⟩, fun k hk => h.apart k hk, h.old⟩
  rw [e1, List.take_append_of_le_length (by simp [srtP, hyl])]
  exact List.take_of_length_le (by simp [srtP, hyl])
end
theorem MtA.popped {w w0 : World} {g h : RGr} {gA hA : Option Addr} {gc hc B mB mapB pB sB lb lc : Nat} {p s : Nat → Nat} {L left : List (Nat × Nat)} {q : Nat × Nat} (a : MtA g h gA hA gc hc w0 B mB mapB pB sB w (.slice (some ⟨lb, 0, none⟩) (left.length + 1) lc) p s L (left ++ [q])) :
    MtA g h gA hA gc hc w0 B mB mapB pB sB (w.setCell ⟨mB, 3, none⟩ (.slice (some ⟨lb, 0, none⟩) left.length lc)) (.slice (some ⟨lb, 0, none⟩) left.length lc) p s L left :=
  a.pushed (Below.refl _ _) (pairs_cut a.lft) (Keeps.refl _ _) (.inl rfl)
theorem Blk.setNe {w : World} {k : Nat} {o : Obj} {p : Addr} (h : Blk w k o) (hp : k ≠ p.block) (u : Value) : Blk (w.setCell p u) k o := by
  unfold Blk at h ⊢
  rw [Below.heap_setCell _ _ _ _ hp]
  exact h
/-- The match at the start. -/
theorem MtA.start {g h : RGr} {gA hA : Option Addr} {gc hc mB mapB pB sB : Nat} {w0 W : World} {p s : Nat → Nat} (hb : BelC w0 W)
    (hq : Blk W mB (.cells #[.slice gA g.nodes.length gc, .slice hA h.nodes.length hc, .map (some mapB), .slice none 0 0, .slice (some ⟨pB, 0, none⟩) (g.nodes.length + h.nodes.length) (g.nodes.length + h.nodes.length), .slice (some ⟨sB, 0, none⟩) (g.nodes.length + h.nodes.length) (g.nodes.length + h.nodes.length)] 77 (0, 0)))
    (hm : Blk W mapB (.map #[] 0)) (hp : NumAt W pB (g.nodes.length + h.nodes.length) p) (hs : NumAt W sB (g.nodes.length + h.nodes.length) s) (hps : pB ≠ sB) (h1 : w0.heap.size ≤ mB) (h2 : w0.heap.size ≤ mapB) (h3 : w0.heap.size ≤ pB) (h4 : w0.heap.size ≤ sB) :
    MtA g h gA hA gc hc w0 W.heap.size mB mapB pB sB W (.slice none 0 0) p s [] [] :=
  ⟨hb, hq, ⟨#[], 0, hm, ⟨by simp, MapKept.stamped_empty 0, by simp⟩, Nat.le_refl _, rfl⟩, RowG.nil _ _ _, hp, hs, hps, ⟨h1, hq.lt⟩, ⟨h2, hm.lt⟩, ⟨h3, hp.lt⟩, ⟨h4, hs.lt⟩, Nat.le_refl _⟩

theorem NumAt.lay {w : World} {b N : Nat} {f : Nat → Nat} (h : NumAt w b N f) (o : Obj) : NumAt (w.alloc o) b N f := Blk.alloc (show Blk w b _ from h) o
theorem NumAt.setNe {w : World} {b N : Nat} {f : Nat → Nat} {p : Addr} (h : NumAt w b N f) (hp : b ≠ p.block) (u : Value) : NumAt (w.setCell p u) b N f := Blk.setNe (show Blk w b _ from h) hp u
section
variable {g h : RGr} {gA hA : Option Addr} {gc hc mB mapB pB sB : Nat} {w0 W : World} {p s : Nat → Nat}
theorem MtA.start1 (hb : BelC w0 W) (hm : Blk W mapB (.map #[] 0)) (hp : NumAt W pB (g.nodes.length + h.nodes.length) p) (hs : NumAt W sB (g.nodes.length + h.nodes.length) s) (hps : pB ≠ sB) (h2 : w0.heap.size ≤ mapB) (h3 : w0.heap.size ≤ pB) (h4 : w0.heap.size ≤ sB) (hmB : mB = W.heap.size) :
    MtA g h gA hA gc hc w0 (W.alloc (.cells #[.slice gA g.nodes.length gc, .slice hA h.nodes.length hc, .map (some mapB), .slice none 0 0, .slice (some ⟨pB, 0, none⟩) (g.nodes.length + h.nodes.length) (g.nodes.length + h.nodes.length), .slice (some ⟨sB, 0, none⟩) (g.nodes.length + h.nodes.length) (g.nodes.length + h.nodes.length)] 77)).heap.size mB mapB pB sB (W.alloc (.cells #[.slice gA g.nodes.length gc, .slice hA h.nodes.length hc, .map (some mapB), .slice none 0 0, .slice (some ⟨pB, 0, none⟩) (g.nodes.length + h.nodes.length) (g.nodes.length + h.nodes.length), .slice (some ⟨sB, 0, none⟩) (g.nodes.length + h.nodes.length) (g.nodes.length + h.nodes.length)] 77)) (.slice none 0 0) p s [] [] :=
  by
  subst hmB
  exact MtA.start (hb.alloc _) (Blk.new' _ _ _ rfl) (hm.alloc _) (hp.lay _) (hs.lay _) hps hb.size h2 h3 h4
theorem MtA.start4 (hb : BelC w0 W) (hp : NumAt W pB (g.nodes.length + h.nodes.length) p) (hs : NumAt W sB (g.nodes.length + h.nodes.length) s) (hps : pB ≠ sB) (h3 : w0.heap.size ≤ pB) (h4 : w0.heap.size ≤ sB) :
    MtA g h gA hA gc hc w0 ((W.alloc (.cells #[.slice gA g.nodes.length gc, .slice hA h.nodes.length hc, .map (some (W.heap.size + 1)), .slice none 0 0, .slice (some ⟨pB, 0, none⟩) (g.nodes.length + h.nodes.length) (g.nodes.length + h.nodes.length), .slice (some ⟨sB, 0, none⟩) (g.nodes.length + h.nodes.length) (g.nodes.length + h.nodes.length)] 77)).alloc (.map #[] 0)).heap.size W.heap.size (W.heap.size + 1) pB sB ((W.alloc (.cells #[.slice gA g.nodes.length gc, .slice hA h.nodes.length hc, .map (some (W.heap.size + 1)), .slice none 0 0, .slice (some ⟨pB, 0, none⟩) (g.nodes.length + h.nodes.length) (g.nodes.length + h.nodes.length), .slice (some ⟨sB, 0, none⟩) (g.nodes.length + h.nodes.length) (g.nodes.length + h.nodes.length)] 77)).alloc (.map #[] 0)) (.slice none 0 0) p s [] [] :=
  MtA.start ((hb.alloc _).alloc _) ((Blk.new' _ _ _ rfl).alloc _) (Blk.new' _ _ _ (by simp)) ((hp.lay _).lay _) ((hs.lay _).lay _) hps hb.size (by have := hb.size; omega) h3 h4
/-- The match filled in, field by field. -/
def filled (W : World) (g h : RGr) (gA hA : Option Addr) (gc hc mB mapB pB sB : Nat) : World := (((((W.setCell ⟨mB, 0, none⟩ (.slice gA g.nodes.length gc)).setCell ⟨mB, 1, none⟩ (.slice hA h.nodes.length hc)).setCell ⟨mB, 2, none⟩ (.map (some mapB))).setCell ⟨mB, 3, none⟩ (.slice none 0 0)).setCell ⟨mB, 4, none⟩ (.slice (some ⟨pB, 0, none⟩) (g.nodes.length + h.nodes.length) (g.nodes.length + h.nodes.length))).setCell ⟨mB, 5, none⟩ (.slice (some ⟨sB, 0, none⟩) (g.nodes.length + h.nodes.length) (g.nodes.length + h.nodes.length))
theorem filled_facts (hb : BelC w0 W) (hq : Blk W mB (.cells #[.slice none 0 0, .slice none 0 0, .map none, .slice none 0 0, .slice none 0 0, .slice none 0 0] 77 (0, 0))) (h1 : w0.heap.size ≤ mB) :
    BelC w0 (filled W g h gA hA gc hc mB mapB pB sB) ∧ Blk (filled W g h gA hA gc hc mB mapB pB sB) mB (.cells #[.slice gA g.nodes.length gc, .slice hA h.nodes.length hc, .map (some mapB), .slice none 0 0, .slice (some ⟨pB, 0, none⟩) (g.nodes.length + h.nodes.length) (g.nodes.length + h.nodes.length), .slice (some ⟨sB, 0, none⟩) (g.nodes.length + h.nodes.length) (g.nodes.length + h.nodes.length)] 77 (0, 0)) ∧
      (∀ b o, Blk W b o → b ≠ mB → Blk (filled W g h gA hA gc hc mB mapB pB sB) b o) ∧ (filled W g h gA hA gc hc mB mapB pB sB).heap.size = W.heap.size := by
  unfold filled
  refine ⟨?_, ?_, fun b o h hne => ?_, by simp [World.setCell]⟩
  · exact (((((hb.setCell h1 _).setCell h1 _).setCell h1 _).setCell h1 _).setCell h1 _).setCell h1 _
  · exact (((((hq.set 0 _).set 1 _).set 2 _).set 3 _).set 4 _).set 5 _
  · exact (((((h.setNe hne _).setNe hne _).setNe hne _).setNe hne _).setNe hne _).setNe hne _
theorem MtA.start2 (hb : BelC w0 W) (hq : Blk W mB (.cells #[.slice none 0 0, .slice none 0 0, .map none, .slice none 0 0, .slice none 0 0, .slice none 0 0] 77 (0, 0))) (hm : Blk W mapB (.map #[] 0)) (hp : NumAt W pB (g.nodes.length + h.nodes.length) p) (hs : NumAt W sB (g.nodes.length + h.nodes.length) s) (hps : pB ≠ sB) (h1 : w0.heap.size ≤ mB) (h2 : w0.heap.size ≤ mapB) (h3 : w0.heap.size ≤ pB) (h4 : w0.heap.size ≤ sB) (n2 : mapB ≠ mB) (n3 : pB ≠ mB) (n4 : sB ≠ mB) :
    MtA g h gA hA gc hc w0 (filled W g h gA hA gc hc mB mapB pB sB).heap.size mB mapB pB sB (filled W g h gA hA gc hc mB mapB pB sB) (.slice none 0 0) p s [] [] := by
  obtain ⟨f1, f2, f3, _⟩ := filled_facts (g := g) (h := h) (gA := gA) (hA := hA) (gc := gc) (hc := hc) (mapB := mapB) (pB := pB) (sB := sB) hb hq h1
  exact MtA.start f1 f2 (f3 _ _ hm n2) (f3 _ _ hp n3) (f3 _ _ hs n4) hps h1 h2 h3 h4
theorem MtA.start6 (hb : BelC w0 W) (hq : Blk W mB (.cells #[.slice none 0 0, .slice none 0 0, .map none, .slice none 0 0, .slice none 0 0, .slice none 0 0] 77 (0, 0))) (hp : NumAt W pB (g.nodes.length + h.nodes.length) p) (hs : NumAt W sB (g.nodes.length + h.nodes.length) s) (hps : pB ≠ sB) (h1 : w0.heap.size ≤ mB) (h3 : w0.heap.size ≤ pB) (h4 : w0.heap.size ≤ sB) (n3 : pB ≠ mB) (n4 : sB ≠ mB) :
    MtA g h gA hA gc hc w0 ((filled W g h gA hA gc hc mB W.heap.size pB sB).alloc (.map #[] 0)).heap.size mB W.heap.size pB sB ((filled W g h gA hA gc hc mB W.heap.size pB sB).alloc (.map #[] 0)) (.slice none 0 0) p s [] [] := by
  obtain ⟨f1, f2, f3, f4⟩ := filled_facts (g := g) (h := h) (gA := gA) (hA := hA) (gc := gc) (hc := hc) (mapB := W.heap.size) (pB := pB) (sB := sB) hb hq h1
  exact MtA.start (f1.alloc _) (f2.alloc _) (Blk.new' _ _ _ f4.symm) ((f3 _ _ hp n3).alloc _) ((f3 _ _ hs n4).alloc _) hps h1 hb.size h3 h4
end

set_option maxRecDepth 100000 in
set_option maxHeartbeats 4000000 in
theorem same_r (w : World) (g h : RGr) (S1 S2 : Nat → Prop) (gv hv : Value) (hgok : g.ok = true) (hhok : h.ok = true) (hS1 : ∀ k, S1 k → k < w.heap.size) (hS2 : ∀ k, S2 k → k < w.heap.size) (hg : GrV w S1 g gv) (hh : GrV w S2 h hv) (b : Bool) (hb : b = true ↔ G.Same g.gr.f g.root.toNat h.gr.f h.root.toNat) :
    Calls Try.prog 40 #[gv, hv] w fun e w' => e = .returned (.bool b) ∧ Below w.heap.size w w' := by
  have hgN : g.nodes.length ≤ 1048576 := RGr.ok_len hgok
  have hhN : h.nodes.length ≤ 1048576 := RGr.ok_len hhok
  obtain ⟨gA, gc, rfl, hgc, hgm, oG⟩ := hg
  obtain ⟨hA, hc, rfl, hhc, hhm, oH⟩ := hh
  unfold maxLen at hgm hhm
  have hrtg : 0 ≤ g.root ∧ g.root < g.nodes.length := by
    have h := hgok
    simp only [RGr.ok, Bool.and_eq_true, decide_eq_true_eq] at h
    exact h.2.1
  have hrth : 0 ≤ h.root ∧ h.root < h.nodes.length := by
    have h := hhok
    simp only [RGr.ok, Bool.and_eq_true, decide_eq_true_eq] at h
    exact h.2.1
  obtain ⟨rg, hrg⟩ : ∃ rg : Nat, g.root = (rg : Int) := ⟨g.root.toNat, by omega⟩
  obtain ⟨rh, hrh⟩ : ∃ rh : Nat, h.root = (rh : Int) := ⟨h.root.toNat, by omega⟩
  have hrgN : rg < g.nodes.length := by omega
  have hrhM : rh < h.nodes.length := by omega
  have hrg' : g.root.toNat = rg := by omega
  have hrh' : h.root.toNat = rh := by omega
  rw [hrg', hrh'] at hb
  have HRg := Lib.hid hrg'
  have HRh := Lib.hid hrh'
  rw [hrg, hrh]
  clear hrtg hrth hrg hrh hrg' hrh'
  have HGok := Lib.hid hgok
  have HHok := Lib.hid hhok
  have HS1 := Lib.hid hS1
  have HS2 := Lib.hid hS2
  have HOG := Lib.hid oG
  have HOH := Lib.hid oH
  have HB := Lib.hid hb
  obtain ⟨w1, hw1⟩ : ∃ w1, w1 = (w.alloc (.cells #[.slice gA g.nodes.length gc, .int .i64 (rg : Int)] 24)).alloc (.cells #[.slice hA h.nodes.length hc, .int .i64 (rh : Int)] 24) := ⟨_, rfl⟩
  have hsz1 : w1.heap.size = w.heap.size + 2 := by rw [hw1]; simp
  have hb1 : Below w.heap.size w w1 := by rw [hw1]; exact ((Below.refl _ _).alloc (Nat.le_refl _) _).alloc (by simp) _
  have hq0 : Blk w1 w.heap.size (.cells #[.slice gA g.nodes.length gc, .int .i64 (rg : Int)] 24 (0, 0)) := by rw [hw1]; exact (Blk.new' _ _ _ rfl).alloc _
  have hq1 : Blk w1 (w.heap.size + 1) (.cells #[.slice hA h.nodes.length hc, .int .i64 (rh : Int)] 24 (0, 0)) := by rw [hw1]; exact Blk.new' _ _ _ (by simp)
  have hcell : ∀ W, BelC w1 W → (W.cell? ⟨w.heap.size, 0, none⟩ = some (.slice gA g.nodes.length gc) ∧ W.cell? ⟨w.heap.size + 1, 0, none⟩ = some (.slice hA h.nodes.length hc)) := fun W hW => ⟨BelC.old hW (hq0.cells.1 0), BelC.old hW (hq1.cells.1 0)⟩
  have HC := Lib.hid hcell
  have HB1 := Lib.hid hb1
  have HQ0 := Lib.hid hq0
  have HQ1 := Lib.hid hq1
  have hx0 := hcell w1 (BelC.refl _)
  clear hgok hhok hS1 hS2 oG oH hb hb1 hq0 hq1 hcell
  have hmm := @run_makeMap Try.prog
  have hnew : ∀ W, Calls Try.prog 56 #[.int .i64 (IntKind.i64.wrap ((g.nodes.length : Int) + (h.nodes.length : Int)))] W fun e w' => ∃ pB sB, e = .returned (.agg #[.slice (some ⟨pB, 0, none⟩) (g.nodes.length + h.nodes.length) (g.nodes.length + h.nodes.length), .slice (some ⟨sB, 0, none⟩) (g.nodes.length + h.nodes.length) (g.nodes.length + h.nodes.length)]) ∧ NumAt w' pB (g.nodes.length + h.nodes.length) (fun x => x) ∧ NumAt w' sB (g.nodes.length + h.nodes.length) (fun _ => 1) ∧ pB ≠ sB ∧ W.heap.size ≤ pB ∧ W.heap.size ≤ sB ∧ Below W.heap.size W w' := fun W => by
    rw [IntWalk.i64_in _ (by omega), show ((g.nodes.length : Int) + (h.nodes.length : Int)) = ((g.nodes.length + h.nodes.length : Nat) : Int) by omega]
    exact newClasses_r W _ (by omega)
  have HNew := Lib.hid hnew
  clear hnew
  go_enter Try.func40, Try.ntmps40
  go_wp2_with fail
  rw [← hw1]
  clear hw1
  rename_i Q' K hKi
  have hK : ∀ (mB mapB pB sB : Nat) (W : World), MtA g h gA hA gc hc w1 W.heap.size mB mapB pB sB W (.slice none 0 0) (fun x => x) (fun _ => 1) [] [] → Exit.then K Q' Exit.normal { tmps := #[.agg #[.slice gA g.nodes.length gc, .int .i64 (rg : Int)], .agg #[.slice hA h.nodes.length hc, .int .i64 (rh : Int)], .pointer (some ⟨w.heap.size, 0, none⟩), .pointer (some ⟨w.heap.size + 1, 0, none⟩), .bool false, .pointer (some ⟨mB, 0, none⟩), undef, undef,
        .pointer (some ⟨w.heap.size, 0, none⟩), .slice gA g.nodes.length gc, .pointer (some ⟨w.heap.size + 1, 0, none⟩), .slice hA h.nodes.length hc, .map (some mapB), .pointer (some ⟨w.heap.size, 0, none⟩), .slice gA g.nodes.length gc, .int .i64 (g.nodes.length : Int), .pointer (some ⟨w.heap.size + 1, 0, none⟩), .slice hA h.nodes.length hc, .int .i64 (h.nodes.length : Int), .int .i64 (IntKind.i64.wrap ((g.nodes.length : Int) + (h.nodes.length : Int))),
        .agg #[.slice (some ⟨pB, 0, none⟩) (g.nodes.length + h.nodes.length) (g.nodes.length + h.nodes.length), .slice (some ⟨sB, 0, none⟩) (g.nodes.length + h.nodes.length) (g.nodes.length + h.nodes.length)],
        .agg #[.slice gA g.nodes.length gc, .slice hA h.nodes.length hc, .map (some mapB), .slice none 0 0, .slice (some ⟨pB, 0, none⟩) (g.nodes.length + h.nodes.length) (g.nodes.length + h.nodes.length), .slice (some ⟨sB, 0, none⟩) (g.nodes.length + h.nodes.length) (g.nodes.length + h.nodes.length)],
        undef, undef, undef, undef, undef, undef, undef, undef, undef, undef, undef, undef, undef, undef, undef, undef, undef, undef, undef, undef, undef, undef, undef, undef, undef, undef, undef], defers := [] } W := by
    intro mB mapB pB sB W hma
    obtain ⟨B, hB⟩ : ∃ B, W.heap.size = B := ⟨_, rfl⟩
    rw [hB] at hma
    have HMa := Lib.hid hma
    have hS1' : ∀ k, S1 k → k < w1.heap.size := fun k hk => by have := HS1.out k hk; omega
    have hS2' : ∀ k, S2 k → k < w1.heap.size := fun k hk => by have := HS2.out k hk; omega
    have oG1 : NdsO w1 S1 g.nodes gA := NdsO.keep (fun k hk => ⟨hk, HB1.out.block k (HS1.out k hk)⟩) _ _ HOG.out
    have oH1 : NdsO w1 S2 h.nodes hA := NdsO.keep (fun k hk => ⟨hk, HB1.out.block k (HS2.out k hk)⟩) _ _ HOH.out
    have hrt : ∀ W, BelC w1 W → (W.cell? ⟨w.heap.size, 1, none⟩ = some (.int .i64 (rg : Int)) ∧ W.cell? ⟨w.heap.size + 1, 1, none⟩ = some (.int .i64 (rh : Int))) := fun W hW => ⟨BelC.old hW (HQ0.out.cells.1 1), BelC.old hW (HQ1.out.cells.1 1)⟩
    have HRt := Lib.hid hrt
    have hr0 := hrt W hma.bel
    have hlk : ∀ W', BelC W W' → Calls Try.prog 57 #[.pointer (some ⟨mB, 0, none⟩), .agg #[.int .i64 (rg : Int), .int .i64 (rh : Int)]] W' fun e w' => e = .returned (.tuple #[]) ∧ ∃ lv2, MtA g h gA hA gc hc w1 B mB mapB pB sB w' lv2 (fun x => x) (fun _ => 1) [(rg, rh)] [(rg, rh)] := fun W' hW => by
      refine (look_r W' w1 g h gA hA gc hc B mB mapB pB sB _ _ _ [] [] (rg, rh) (hma.new hW) (fun _ hx => by cases hx) ⟨by simp only []; omega, by simp only []; omega⟩ (by simp) (by simp)).mono ?_
      rintro e w' ⟨he, lv2, h1, _⟩
      exact ⟨he, lv2, h1⟩
    have HLk := Lib.hid hlk
    have hbW := hma.bel
    have HS1' := Lib.hid hS1'
    have HS2' := Lib.hid hS2'
    have HOG1 := Lib.hid oG1
    have HOH1 := Lib.hid oH1
    have hP0 : MtP g h (fun x => x) (fun _ => 1) (fun x => x) (fun _ => 0) 0 [(rg, rh)] [(rg, rh)] := by
      refine ⟨G.UF.start _, fun z hz _ => by rw [G.cnt_id, if_pos hz], ?_⟩
      rw [HRg.out, HRh.out]
      exact G.Mt.start hrgN hrhM
    have HP0 := Lib.hid hP0
    clear hx0 hrt hlk hma hB hS1' hS2' oG1 oH1 hP0
    refine hKi _ _ ?_
    go_wp2_with (go_at_call 57; refine (HLk.out _ ?_).mono ?_; (· repeat (first | with_reducible exact BelC.refl _ | with_reducible refine BelC.drew ?_)); rintro e w10 ⟨rfl, lv2, har2⟩; have hbel10 := har2.bel; have HAr2 := Lib.hid har2; clear har2)
    obtain ⟨U, hU⟩ : ∃ U, U = 2 * (g.nodes.length * h.nodes.length) := ⟨_, rfl⟩
    have HU := Lib.hid hU
    clear hU hr0 hbW hbel10
    go_loopg [6, 7] U (fun kk _ _ wr => ∃ (lv : Value) (p s c r : Nat → Nat) (B0 : Nat) (L left : List (Nat × Nat)), MtA g h gA hA gc hc w1 B mB mapB pB sB wr lv p s L left ∧ MtP g h p s c r B0 L left ∧ left.length ≤ L.length ∧ 2 * (g.nodes.length * h.nodes.length) + left.length ≤ kk + 2 * L.length)
    case atStart => exact ⟨lv2, _, _, _, _, _, _, _, HAr2.out, HP0.out, Nat.le_refl _, by rw [← HU.out]; simp⟩
    case round =>
      obtain ⟨lv, p, s, c, r, B0, L, left, hA0, hP, hll, hkk⟩ := hrel
      have HA := Lib.hid hA0
      have HP := Lib.hid hP
      have HLl := Lib.hid hll
      have HKk := Lib.hid hkk
      have m3 := hA0.blk.cells.1 3
      have z3 := hA0.blk.cells.2 3
      have hbr := hA0.bel
      clear hP hll hkk
      rcases gsnoc left with rfl | ⟨left, q, rfl⟩
      · obtain ⟨vA, vc, hv0, hvc, hvm⟩ := hA0.lft.form
        rw [List.length_nil] at hv0 hvc
        subst hv0
        unfold maxLen at hvm
        clear hA0
        go_wp2
        go_ret
        have hsm := HP.out.mt.same (fun a ha y hy => ?_) (fun a ha y hy => ?_)
        · rw [HRg.out, HRh.out] at hsm
          exact ⟨by rw [HB.out.2 hsm]; rfl, HB1.out.trans (hbr.mono HB1.out.size)⟩
        · have hfit := (RGr.ok_fit HGok.out).args a (by simpa [RGr.gr] using ha) y hy
          simpa [RGr.gr] using hfit
        · have hfit := (RGr.ok_fit HHok.out).args a (by simpa [RGr.gr] using ha) y hy
          simpa [RGr.gr] using hfit
      · obtain ⟨lb, lc, hv0, hvc, hvm, c0, c1, hlb, hlB⟩ := pairs_last hA0.lft
        subst hv0
        obtain ⟨q1, q2⟩ := q
        simp only [] at c0 c1
        unfold maxLen at hvm
        have hml := hA0.blk.lt
        have hmne : mB ≠ wr.heap.size := by omega
        have hpo : MtA g h gA hA gc hc w1 B mB mapB pB sB ((wr.setCell ⟨mB, 3, none⟩ (.slice (some ⟨lb, 0, none⟩) left.length lc)).alloc (.cells #[.int .i64 (q1 : Int), .int .i64 (q2 : Int)] 80)) (.slice (some ⟨lb, 0, none⟩) left.length lc) p s L left := hA0.popped.new (BelC.alloc (BelC.refl _) _)
        have hft := fits_r _ w1 g h S1 S2 gA hA gc hc B mB mapB pB sB _ p s c r B0 L left q1 q2 HGok.out HHok.out hgc (by unfold maxLen; exact hgm) hhc (by unfold maxLen; exact hhm) HS1'.out HS2'.out HOG1.out HOH1.out hpo HP.out (by have := HLl.out; simp at this; omega)
        have HFt := Lib.hid hft
        have hLe : L.length ≤ g.nodes.length * h.nodes.length := pairs_len _ _ HP.out.mt.nd (fun p hp => ⟨(HP.out.mt.lk p hp).1, (HP.out.mt.lk p hp).2.1⟩)
        have HLe := Lib.hid hLe
        clear hA0 hpo hft hLe
        go_wp2_with (go_at_call 58; refine HFt.out.mono ?_; rintro e w9 (⟨rfl, hne, hb9⟩ | ⟨rfl, lv', p', s', c', r', B', L', left', hma9, hmp9, hlen, hle⟩))
        · have hb2 : b = false := by
            rcases hbb : b with _ | _
            · rfl
            · have h1 := HB.out.1 hbb
              rw [HRg.out, HRh.out] at hne
              exact absurd h1 hne
          go_ret
          exact ⟨by rw [hb2]; rfl, HB1.out.trans (hb9.mono HB1.out.size)⟩
        · have HMa9 := Lib.hid hma9
          have HMp9 := Lib.hid hmp9
          have HLen := Lib.hid hlen
          have HLe9 := Lib.hid hle
          clear hma9 hmp9 hlen hle
          go_roundg (gk - 1)
          case measure =>
            have := HKk.out; have := HLe.out
            simp at *; omega
          case rel => exact ⟨lv', p', s', c', r', B', L', left', HMa9.out, HMp9.out, by have := HLen.out; have := HLe9.out; have := HLl.out; simp at this; omega, by have := HLen.out; have := HLe9.out; have := HKk.out; simp at this; omega⟩
  have HK := Lib.hid hK
  clear hK hKi
  go_region_held3 (fun W => W.cell? ⟨w.heap.size, 0, none⟩ = some (.slice gA g.nodes.length gc) ∧ W.cell? ⟨w.heap.size + 1, 0, none⟩ = some (.slice hA h.nodes.length hc))
    (first | with_reducible exact hx0 | (with_reducible refine HC.out _ ?_; (· repeat (first | with_reducible assumption | with_reducible exact BelC.refl _ | with_reducible refine BelC.alloc ?_ _ | with_reducible refine BelC.drew ?_ | (with_reducible refine BelC.setCell ?_ ?_ _; rotate_left; (· first | omega | (simp <;> omega)))))))
    (first | (go_at_call 56; refine (HNew.out _).mono ?_; rintro e w5 ⟨pB, sB, rfl, hp5, hs5, hps, hlp, hls, hb5⟩; refine cut_ (P := BelC w1 w5) (Below.trans ?_ (Below.mono hb5 ?_)) (fun hbc5 => ?_); (· show BelC w1 _; repeat (first | with_reducible assumption | with_reducible exact BelC.refl _ | with_reducible refine BelC.alloc ?_ _ | with_reducible refine BelC.drew ?_)); (· first | omega | (simp <;> omega)); (first | (refine cut_ (P := Blk w5 (w.heap.size + 3) (.cells #[.slice none 0 0, .slice none 0 0, .map none, .slice none 0 0, .slice none 0 0, .slice none 0 0] 77)) ((Below.block hb5 _ ?_).trans ?_) (fun hq5 => ?_); (· first | omega | (simp <;> omega)); (· show Blk _ _ _; (· repeat (first | (with_reducible refine Blk.new' _ _ _ ?_; (· first | omega | (simp <;> omega))) | with_reducible refine Blk.alloc ?_ _ | with_reducible refine Blk.drew ?_))); obtain ⟨hcq, hfq⟩ := hq5.cells; have hzq := hq5.lt) | (refine cut_ (P := Blk w5 (w.heap.size + 2) (.cells #[.slice none 0 0, .slice none 0 0, .map none, .slice none 0 0, .slice none 0 0, .slice none 0 0] 77)) ((Below.block hb5 _ ?_).trans ?_) (fun hq5 => ?_); (· first | omega | (simp <;> omega)); (· show Blk _ _ _; (· repeat (first | (with_reducible refine Blk.new' _ _ _ ?_; (· first | omega | (simp <;> omega))) | with_reducible refine Blk.alloc ?_ _ | with_reducible refine Blk.drew ?_))); obtain ⟨hcq, hfq⟩ := hq5.cells; have hzq := hq5.lt) | skip)))
  all_goals with_reducible refine HK.out _ _ _ _ _ ?_
  all_goals clear HK HNew hmm HC HB HOG HOH HS1 HS2 HQ0 HQ1 HGok HHok
  all_goals have hlp' : w1.heap.size ≤ pB := by simp at hlp; omega
  all_goals have hls' : w1.heap.size ≤ sB := by simp at hls; omega
  · exact MtA.start1 hbc5 ((Below.block hb5 _ (by simp; omega)).trans (show Blk _ _ _ from Blk.new' _ _ _ hsz1.symm)) hp5 hs5 hps (by omega) hlp' hls' rfl
  · exact MtA.start2 hbc5 hq5 ((Below.block hb5 _ (by simp; omega)).trans (show Blk _ _ _ from (Blk.new' _ _ _ hsz1.symm).alloc _)) hp5 hs5 hps (by omega) (by omega) hlp' hls' (by omega) (by simp at hlp; omega) (by simp at hls; omega)
  · exact MtA.start1 (hbc5.alloc _) (Blk.new' _ _ _ rfl) (hp5.lay _) (hs5.lay _) hps hbc5.size hlp' hls' (by simp)
  · exact MtA.start4 hbc5 hp5 hs5 hps hlp' hls'
  · exact MtA.start2 hbc5 hq5 ((Below.block hb5 _ (by simp; omega)).trans (show Blk _ _ _ from Blk.new' _ _ _ (by simp; omega))) hp5 hs5 hps (by omega) (by omega) hlp' hls' (by omega) (by simp at hlp; omega) (by simp at hls; omega)
  · exact MtA.start6 hbc5 hq5 hp5 hs5 hps (by omega) hlp' hls' (by simp at hlp; omega) (by simp at hls; omega)
end Go.Proofs.Ytnhdgndjpkdhdaa
namespace Go.Proofs.Ytnhdgndjpkdhdaa
open Go.RowKit

set_option maxRecDepth 100000 in
set_option maxHeartbeats 1000000 in
theorem dsame_u (w : World) (S1 S2 : Nat → Prop) (g h : RGr) (gv hv : Value) (b : Bool) (hS1 : ∀ k, S1 k → k < w.heap.size) (hS2 : ∀ k, S2 k → k < w.heap.size) (hg : GrV w S1 g gv) (hh : GrV w S2 h hv)
    (hb : b = true ↔ g.ok = true ∧ h.ok = true ∧ G.Same g.gr.f g.root.toNat h.gr.f h.root.toNat) :
    Calls Try.prog 18 #[gv, hv] w fun e w' => e = .returned (.bool b) ∧ Below w.heap.size w w' := by
  have hgr : ∀ W, Below w.heap.size w W → GrV W S1 g gv ∧ GrV W S2 h hv ∧ (∀ k, S1 k → k < W.heap.size) ∧ (∀ k, S2 k → k < W.heap.size) := fun W hW =>
    ⟨hg.keep (fun k hk => ⟨hk, hW.block k (hS1 k hk)⟩), hh.keep (fun k hk => ⟨hk, hW.block k (hS2 k hk)⟩), fun k hk => Nat.lt_of_lt_of_le (hS1 k hk) hW.size, fun k hk => Nat.lt_of_lt_of_le (hS2 k hk) hW.size⟩
  obtain ⟨gA, gc, rfl, _, _, _⟩ := hg
  obtain ⟨hA, hc, rfl, _, _, _⟩ := hh
  obtain ⟨w1, hw1⟩ : ∃ w1, w1 = (w.alloc (.cells #[.slice gA g.nodes.length gc, .int .i64 g.root] 24)).alloc (.cells #[.slice hA h.nodes.length hc, .int .i64 h.root] 24) := ⟨_, rfl⟩
  have hsz1 : w1.heap.size = w.heap.size + 2 := by rw [hw1]; simp
  have hb1 : Below w.heap.size w w1 := by rw [hw1]; exact ((Below.refl _ _).alloc (Nat.le_refl _) _).alloc (by simp) _
  have hq0 : Blk w1 w.heap.size (.cells #[.slice gA g.nodes.length gc, .int .i64 g.root] 24 (0, 0)) := by rw [hw1]; exact (Blk.new' _ _ _ rfl).alloc _
  have hq1 : Blk w1 (w.heap.size + 1) (.cells #[.slice hA h.nodes.length hc, .int .i64 h.root] 24 (0, 0)) := by rw [hw1]; exact Blk.new' _ _ _ (by simp)
  have hcell : ∀ W, BelC w1 W → (W.cell? ⟨w.heap.size, 0, none⟩ = some (.slice gA g.nodes.length gc) ∧ W.cell? ⟨w.heap.size, 1, none⟩ = some (.int .i64 g.root) ∧ W.cell? ⟨w.heap.size + 1, 0, none⟩ = some (.slice hA h.nodes.length hc) ∧ W.cell? ⟨w.heap.size + 1, 1, none⟩ = some (.int .i64 h.root)) := fun W hW => ⟨BelC.old hW (hq0.cells.1 0), BelC.old hW (hq0.cells.1 1), BelC.old hW (hq1.cells.1 0), BelC.old hW (hq1.cells.1 1)⟩
  have HC := Lib.hid hcell
  have HGr := Lib.hid (fun W hW => hgr W (hb1.trans (Below.mono (show BelC w1 W from hW) hb1.size)))
  have hc0 := hcell w1 (BelC.refl _)
  have HB := Lib.hid hb
  have HB1 := Lib.hid hb1
  clear hS1 hS2 hgr hb hb1 hq0 hq1 hcell
  go_enter Try.func18, Try.ntmps18
  go_wp2_with fail
  rw [← hw1]
  clear hw1
  refine (check_r w1 S1 g _ (HGr.out _ (BelC.refl _)).2.2.1 (HGr.out _ (BelC.refl _)).1).mono ?_
  rcases hok : g.ok with _ | _
  · have hb0 : b = false := by
      rcases hbb : b with _ | _
      · rfl
      · have := (HB.out.1 hbb).1; rw [hok] at this; cases this
    rcases RGr.code_no hok with hcd | hcd <;> rw [hcd] <;> clear hcd hok
    all_goals
     rintro e w2 ⟨rfl, hb2⟩
     go_wp2
     go_ret
     exact ⟨by rw [hb0]; rfl, HB1.out.trans (hb2.mono HB1.out.size)⟩
  · rw [RGr.code_ok hok]
    rintro e w2 ⟨rfl, hb2⟩
    have hchk := check_r w2 S2 h _ (HGr.out _ hb2).2.2.2 (HGr.out _ hb2).2.1
    have HChk := Lib.hid hchk
    have HB2 := Lib.hid (show BelC w1 w2 from hb2)
    obtain ⟨k0, k1, k2, k3⟩ := HC.out w2 hb2
    have HOk := Lib.hid hok
    clear hok hchk hb2
    rcases hok2 : h.ok with _ | _
    · have hb0 : b = false := by
        rcases hbb : b with _ | _
        · rfl
        · have := (HB.out.1 hbb).2.1; rw [hok2] at this; cases this
      have hchk := HChk.out
      rcases RGr.code_no hok2 with hcd | hcd <;> rw [hcd] at hchk <;> have HC2 := Lib.hid hchk <;> clear hcd hok2 hchk
      all_goals
       go_wp2_with (go_at_call 17; refine HC2.out.mono ?_; rintro e w3 ⟨rfl, hb3⟩)
       go_ret
       exact ⟨by rw [hb0]; rfl, HB1.out.trans ((Below.trans HB2.out (hb3.mono (Below.size HB2.out))).mono HB1.out.size)⟩
    · have hchk := HChk.out
      rw [RGr.code_ok hok2] at hchk
      have HC2 := Lib.hid hchk
      have HOk2 := Lib.hid hok2
      clear hchk hok2
      go_wp2_with (first | (go_at_call 17; refine HC2.out.mono ?_; rintro e w3 ⟨rfl, hb3⟩; have HB3 := Lib.hid (show BelC w1 w3 from Below.trans HB2.out (hb3.mono (Below.size HB2.out))); obtain ⟨j0, j1, j2, j3⟩ := HC.out w3 HB3.out; clear hb3) | (go_at_call 40; refine (same_r w3 g h S1 S2 _ _ HOk.out HOk2.out (HGr.out _ HB3.out).2.2.1 (HGr.out _ HB3.out).2.2.2 (HGr.out _ HB3.out).1 (HGr.out _ HB3.out).2.1 b ⟨fun e => (HB.out.1 e).2.2, fun e => HB.out.2 ⟨HOk.out, HOk2.out, e⟩⟩).mono ?_; rintro e w4 ⟨rfl, hb4⟩))
      go_ret
      exact ⟨rfl, HB1.out.trans ((Below.trans HB3.out (hb4.mono (Below.size HB3.out))).mono HB1.out.size)⟩
end Go.Proofs.Ytnhdgndjpkdhdaa

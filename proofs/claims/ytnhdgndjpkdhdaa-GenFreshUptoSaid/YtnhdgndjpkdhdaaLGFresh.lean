/-
  trefoillaw13.GenFresh: the fixed nodes, the generic ones and the fresh copy of a graph, or the error, are the document's, and the graph stays: so it returns true, and does not panic, for every graph and every list of monos that it is handed, as long as what it reads is of no more than the bulk that the second form names.
-/
import Derived.Test.YtnhdgndjpkdhdaaNE
import Derived.Test.YtnhdgndjpkdhdaaNRefH
import Derived.Test.YtnhdgndjpkdhdaaGEqual
import Derived.Deep.CondSized
namespace Go.Proofs.Ytnhdgndjpkdhdaa
open Go.ChangeShapes Go.WideShapes Go.ChangeAt Go.RowKit Go.Deep

section
variable {wC W : World} {S S2 : Nat → Prop} {g : RGr} {gv : Value} {M : List Int} {mA : Option Addr} {mc : Nat}
theorem rfixed_e (hS : ∀ k, S k → k < wC.heap.size) (hg : GrV wC S g gv) (hW : BelC wC W) (hS2 : ∀ k, S2 k → k < W.heap.size) (hI : IntsO W S2 M mA) (hmc : M.length ≤ mc) (hmm : mc ≤ maxLen) :
    Calls Try.prog 10 #[gv, .slice mA M.length mc] W fun e w' => ∃ A c, e = .returned (.tuple #[.slice A (g.fixU M).length c, .int .i64 (g.mcode M)]) ∧ (g.fixU M).length ≤ c ∧ c ≤ maxLen ∧ Stays w' ((g.fixU M).map Int.ofNat) A ∧ BelC W w' :=
  (rfixed_r W S S2 g gv M mA mc (fun k hk => Nat.lt_of_lt_of_le (hS k hk) (Below.size hW)) (hg.keep (fun k hk => ⟨hk, Below.block hW k (hS k hk)⟩)) hS2 hI hmc hmm).mono fun _ _ ⟨A, c, h1, h2, h3, h4, h5⟩ => ⟨A, c, h1, h2, h3, .of h4, h5⟩
theorem rgeneric_e (hS : ∀ k, S k → k < wC.heap.size) (hg : GrV wC S g gv) (hW : BelC wC W) (hS2 : ∀ k, S2 k → k < W.heap.size) (hI : IntsO W S2 M mA) (hmc : M.length ≤ mc) (hmm : mc ≤ maxLen) :
    Calls Try.prog 12 #[gv, .slice mA M.length mc] W fun e w' => ∃ A c, e = .returned (.tuple #[.slice A (g.genU M).length c, .int .i64 (g.mcode M)]) ∧ (g.genU M).length ≤ c ∧ c ≤ maxLen ∧ Stays w' ((g.genU M).map Int.ofNat) A ∧ BelC W w' :=
  (rgeneric_r W S S2 g gv M mA mc (fun k hk => Nat.lt_of_lt_of_le (hS k hk) (Below.size hW)) (hg.keep (fun k hk => ⟨hk, Below.block hW k (hS k hk)⟩)) hS2 hI hmc hmm).mono fun _ _ ⟨A, c, h1, h2, h3, h4, h5⟩ => ⟨A, c, h1, h2, h3, .of h4, h5⟩
end

/-- What the graph was. -/
structure Was (w3 W : World) (S1 : Nat → Prop) (g : RGr) (pb : Nat) (wA : Option Addr) (wc : Nat) : Prop where
  bel : BelC w3 W
  blk : Blk W pb (.cells #[.slice wA g.nodes.length wc, .int .i64 g.root] 24 (0, 0))
  row : RowG srtN 37 w3.heap.size W S1 (.slice wA g.nodes.length wc) g.nodes
  ne : (Value.slice wA g.nodes.length wc).ownBlock ≠ some pb
  pbB : w3.heap.size ≤ pb
theorem Was.late {w3 w6 : World} {S1 : Nat → Prop} {g : RGr} {wA : Option Addr} {wc : Nat} (hb : BelC w3 w6) (hr : RowG srtN 37 w3.heap.size w6 S1 (.slice wA g.nodes.length wc) g.nodes) :
    Was w3 (w6.alloc (.cells #[.slice wA g.nodes.length wc, .int .i64 g.root] 24)) S1 g w6.heap.size wA wc :=
  ⟨hb.alloc _, Blk.new' _ _ _ rfl, hr.keep (F := fun _ => False) ((Keeps.refl _ _).alloc _) (fun _ e _ => e.elim), fun e => by have := (hr.block e).2; omega, Below.size hb⟩
theorem Was.early {w3 w6 : World} {S1 : Nat → Prop} {g : RGr} {wA : Option Addr} {wc pb : Nat} (hb : BelC w3 w6) (hr : RowG srtN 37 w3.heap.size w6 S1 (.slice wA g.nodes.length wc) g.nodes) (hq : Blk w6 pb (.cells #[.slice none 0 0, .int .i64 0] 24 (0, 0))) (hp : w3.heap.size ≤ pb) (hn : (Value.slice wA g.nodes.length wc).ownBlock ≠ some pb) (hS : ∀ k, S1 k → k < w3.heap.size) :
    Was w3 ((w6.setCell ⟨pb, 0, none⟩ (.slice wA g.nodes.length wc)).setCell ⟨pb, 1, none⟩ (.int .i64 g.root)) S1 g pb wA wc :=
  ⟨(hb.setCell hp _).setCell hp _, (hq.set 0 _).set 1 _, hr.keep (F := fun k => k = pb) (((Keeps.refl (fun k => k = pb) w6).setCell (p := ⟨pb, 0, none⟩) (fun _ => rfl) _).setCell (p := ⟨pb, 1, none⟩) (fun _ => rfl) _) (fun k e _ => ⟨by subst e; exact hn, fun h => by have := hS k h; omega⟩), hn, hp⟩
section
variable {wC W : World} {S S2 : Nat → Prop} {g : RGr} {gv : Value} {M : List Int} {mA : Option Addr} {mc : Nat}
theorem fresh_e (hF : g.fits) (hE : g.es.length ≤ 4000000) (hS : ∀ k, S k → k < wC.heap.size) (hg : GrV wC S g gv) (hW : BelC wC W) (hS2 : ∀ k, S2 k → k < W.heap.size) (hI : IntsO W S2 M mA) (hmc : M.length ≤ mc) (hmm : mc ≤ maxLen) :
    Calls Try.prog 13 #[gv, .slice mA M.length mc] W fun e w' => ∃ A c, e = .returned (.tuple #[.agg #[.slice A (g.freshU M).nodes.length c, .int .i64 (g.freshU M).root], .int .i64 (g.fcode M)]) ∧ c ≤ maxLen ∧ GrV w' (New W.heap.size w') (g.freshU M) (.agg #[.slice A (g.freshU M).nodes.length c, .int .i64 (g.freshU M).root]) ∧ BelC W w' :=
  (dFresh_r W S S2 g gv M mA mc hF (fun _ => hE) (fun k hk => Nat.lt_of_lt_of_le (hS k hk) (Below.size hW)) (hg.keep (fun k hk => ⟨hk, Below.block hW k (hS k hk)⟩)) hS2 hI hmc hmm).mono fun _ _ ⟨v, h1, h2, h3⟩ => by
    have h2' := h2
    obtain ⟨A, c, rfl, _, hm, _⟩ := h2
    exact ⟨A, c, h1, hm, h2', h3⟩
theorem rfresh_e (hF : g.fits) (hS : ∀ k, S k → k < wC.heap.size) (hg : GrV wC S g gv) (hW : BelC wC W) (hS2 : ∀ k, S2 k → k < W.heap.size) (hI : IntsO W S2 M mA) (hmc : M.length ≤ mc) (hmm : mc ≤ maxLen) :
    Calls Try.prog 14 #[gv, .slice mA M.length mc] W fun e w' => ∃ A c, e = .returned (.tuple #[.agg #[.slice A (g.freshU M).nodes.length c, .int .i64 (g.freshU M).root], .int .i64 (g.fcode M)]) ∧ c ≤ maxLen ∧ GrV w' (fun k => k < w'.heap.size) (g.freshU M) (.agg #[.slice A (g.freshU M).nodes.length c, .int .i64 (g.freshU M).root]) ∧ BelC W w' :=
  (rFresh_r W S S2 g gv M mA mc hF (fun k hk => Nat.lt_of_lt_of_le (hS k hk) (Below.size hW)) (hg.keep (fun k hk => ⟨hk, Below.block hW k (hS k hk)⟩)) hS2 hI hmc hmm).mono fun _ w' ⟨v, h1, h2, h3⟩ => by
    have h2' : GrV w' (fun k => k < w'.heap.size) (g.freshU M) v := h2.keep (fun k hk => ⟨by
      rcases hk with e | e
      · exact Nat.lt_of_lt_of_le (Nat.lt_of_lt_of_le (hS k e) (Below.size hW)) (Below.size h3)
      · exact e.2, rfl⟩)
    obtain ⟨A, c, rfl, _, hm, _⟩ := h2
    exact ⟨A, c, h1, hm, h2', h3⟩
theorem ints_s {X Y : World} {l : List Nat} {c1 c2 : Nat} {A1 A2 : Option Addr} (h1 : Stays X (l.map Int.ofNat) A1) (h2 : Stays Y (l.map Int.ofNat) A2) (hc1 : l.length ≤ c1) (hm1 : c1 ≤ maxLen) (hc2 : l.length ≤ c2) (hm2 : c2 ≤ maxLen) (hX : BelC X W) (hY : BelC Y W) :
    Calls Try.prog 15 #[.slice A1 l.length c1, .slice A2 l.length c2] W fun e w' => e = .returned (.bool true) ∧ BelC W w' := by
  have h := ints_r W _ _ (l.map Int.ofNat) (l.map Int.ofNat) A1 A2 c1 c2 true (h1 W hX) (h2 W hY) (by simpa using hc1) hm1 (by simpa using hc2) hm2 (by simp)
  simp only [List.length_map] at h
  exact h.mono fun _ _ ⟨e, k, e2⟩ => ⟨e, by subst e2; exact (BelC.refl _).drewN k⟩
theorem equal_s {S1 S3 : Nat → Prop} {h : RGr} {hv : Value} (hS1 : ∀ k, S1 k → k < W.heap.size) (hg : GrV W S1 h gv) (hS2 : ∀ k, S3 k → k < W.heap.size) (hh : GrV W S3 h hv) :
    Calls Try.prog 16 #[gv, hv] W fun e w' => e = .returned (.bool true) ∧ BelC W w' :=
  gequal_r W S1 S3 h h gv hv true hS1 hS2 hg hh ⟨fun _ => rfl, fun _ => rfl⟩
end
/-- Numbers at the same places, all else as it was. -/
structure Blot (wB w W : World) : Prop where
  bel : BelC wB W
  old : ∀ p v, w.cell? p = some v → (∀ n, v ≠ .int .i64 n) → W.cell? p = some v
  int : ∀ p n, w.cell? p = some (.int .i64 n) → ∃ m, W.cell? p = some (.int .i64 m)
  fr : ∀ p, W.frozen? p = w.frozen? p
theorem Blot.refl {wB w : World} (h : BelC wB w) : Blot wB w w := ⟨h, fun _ _ h _ => h, fun _ _ h => ⟨_, h⟩, fun _ => rfl⟩
theorem Blot.set {wB w W : World} {b j : Nat} {n m : Int} (h : Blot wB w W) (hb : wB.heap.size ≤ b) (hp : w.cell? ⟨b, j, none⟩ = some (.int .i64 n)) : Blot wB w (W.setCell ⟨b, j, none⟩ (.int .i64 m)) := by
  obtain ⟨n', hn'⟩ := h.int _ _ hp
  refine ⟨h.bel.setCell hb _, fun p v hv hi => ?_, fun p n hn => ?_, fun p => by rw [World.frozen?_setCell]; exact h.fr p⟩
  · have hne : p ≠ ⟨b, j, none⟩ := fun e => by
      subst e
      rw [hp] at hv
      injection hv with hv
      exact hi _ hv.symm
    rw [World.cell?_setCell_other (h := Ne.symm hne)]
    exact h.old p v hv hi
  · by_cases e : p = ⟨b, j, none⟩
    · subst e
      exact ⟨m, World.cell?_setCell_same _ _ _ hn'⟩
    · rw [World.cell?_setCell_other (h := fun e2 => e e2.symm)]
      exact h.int p n hn
/-- What several ways share. -/
theorem share5 {α β γ δ ε : Type} {R : Prop} (P : α → β → γ → δ → ε → Prop) {G : α → β → γ → δ → ε → Prop} (h1 : (∀ a b c d e, P a b c d e → G a b c d e) → R) (h2 : ∀ a b c d e, P a b c d e → G a b c d e) : R := h1 h2

set_option maxRecDepth 100000 in
set_option maxHeartbeats 4000000 in
theorem lawfresh_any (w : World) (S1 S2 : Nat → Prop) (g : RGr) (gv : Value) (M : List Int) (mA : Option Addr) (mc : Nat) (hF : g.fits) (hb8 : g.nodes.length ≤ 200000) (hE : g.es.length ≤ 2000000) (hS1 : ∀ k, S1 k → k < w.heap.size) (hg : GrV w S1 g gv) (hS2 : ∀ k, S2 k → k < w.heap.size) (hI : IntsO w S2 M mA) (hmc : M.length ≤ mc) (hmm : mc ≤ maxLen) :
    Calls Try.prog 3 #[gv, .slice mA M.length mc] w fun e w' => e = .returned (.bool true) ∧ Below w.heap.size w w' := by
  have hgK := hg
  obtain ⟨gA, gc, rfl, hgc, hgm, oG⟩ := hg
  have hA : gA = none → g.nodes = [] := fun e => by
    subst e
    cases h : g.nodes with
    | nil => rfl
    | cons x r => rw [h] at oG; obtain ⟨_, _, e, _⟩ := oG; cases e
  obtain ⟨w1, hw1⟩ : ∃ w1, w1 = w.alloc (.cells #[.slice gA g.nodes.length gc, .int .i64 g.root] 24) := ⟨_, rfl⟩
  have hb1 : BelC w w1 := by rw [hw1]; exact (BelC.refl w).alloc _
  have hq0 : Blk w1 w.heap.size (.cells #[.slice gA g.nodes.length gc, .int .i64 g.root] 24 (0, 0)) := by rw [hw1]; exact Blk.new' _ _ _ rfl
  have hcell : ∀ W, BelC w1 W → (W.cell? ⟨w.heap.size, 0, none⟩ = some (.slice gA g.nodes.length gc) ∧ W.cell? ⟨w.heap.size, 1, none⟩ = some (.int .i64 g.root)) := fun W hW => ⟨BelC.old hW (hq0.cells.1 0), BelC.old hW (hq0.cells.1 1)⟩
  have HGo := Lib.hid (fun W (hW : BelC w1 W) => good_e (A := mA) (l := M.length) (c := mc) (m := 200) hS1 hgK (hb1.trans hW))
  have hlies : ∀ W, BelC w1 W → LiesAt srtN W S1 g.nodes gA := fun W hW => lies_nds (NdsO.keep (fun k hk => ⟨hk, Below.block (hb1.trans hW) k (hS1 k hk)⟩) _ _ oG) hA
  have HS1 := Lib.hid hS1
  have HGK := Lib.hid hgK
  have hIW : ∀ W, BelC w1 W → IntsO W S2 M mA := fun W hW => IntsO.keep (fun k hk => ⟨hk, Below.block (BelC.trans hb1 hW) k (hS2 k hk)⟩) _ _ hI
  have HIW := Lib.hid hIW
  have HS2 := Lib.hid hS2
  have HLies := Lib.hid hlies
  have HC := Lib.hid hcell
  obtain ⟨i0, hi, hz0, hz1, hz2⟩ := info_parts infoNode
  have HB1 := Lib.hid hb1
  unfold maxLen at hgm
  clear hgK hS1 hS2 hI hb1 hq0 hcell hlies oG hA hIW
  go_enter Try.func3, Try.ntmps3
  go_wp2_with fail
  rw [← hw1]
  clear hw1
  refine (alive13_r w1).mono ?_
  rintro e w2 ⟨rfl, hb2'⟩
  have hb2 : BelC w1 w2 := hb2'
  have HB2 := Lib.hid hb2
  have hx2 := HC.out w2 hb2
  obtain ⟨k0, k1⟩ := hx2
  clear hb2 hb2'
  go_upto_region 5 with (first
    | (go_at_call 8; (with_reducible refine (HGo.out w2 HB2.out).mono ?_); rintro e w3 ⟨⟨bb, rfl, h60⟩, hb3⟩; have hb13 := BelC.trans HB2.out hb3; have HB3 := Lib.hid hb13; have hx3 := HC.out w3 hb13; clear hb3 hb13; rcases bb with _ | _))
  · go_ret
    exact ⟨rfl, BelC.trans HB1.out HB3.out⟩
  have hb3 := HB3.out
  have hc3 : ∀ W, BelC w3 W → (W.cell? ⟨w.heap.size, 0, none⟩ = some (.slice gA g.nodes.length gc) ∧ W.cell? ⟨w.heap.size, 1, none⟩ = some (.int .i64 g.root)) := fun W hW => HC.out W (BelC.trans hb3 hW)
  have hl3 : ∀ W, BelC w3 W → LiesAt srtN W S1 g.nodes gA := fun W hW => HLies.out W (BelC.trans hb3 hW)
  have HC3 := Lib.hid hc3
  have HL3 := Lib.hid hl3
  have hS3 : ∀ k, S1 k → k < w3.heap.size := fun k hk => Nat.lt_of_lt_of_le (HS1.out k hk) (Below.size (BelC.trans HB1.out hb3))
  have HS3 := Lib.hid hS3
  have hbr := BelC.refl w3
  rename_i K hKi
  clear hb3 hc3 hl3 hS3 k0 k1
  apply share5 (P := fun (pb gg : Nat) (wA : Option Addr) (wc : Nat) (W : World) => Was w3 W S1 g pb wA wc)
  · intro hK
    have HK := Lib.hid hK
    clear hK
    go_region_held3 (fun W => W.cell? ⟨w.heap.size, 0, none⟩ = some (.slice gA g.nodes.length gc) ∧ W.cell? ⟨w.heap.size, 1, none⟩ = some (.int .i64 g.root))
      (first | with_reducible exact hx3 | (with_reducible refine HC3.out _ ?_; (· repeat (first | with_reducible assumption | with_reducible exact BelC.refl _ | with_reducible refine BelC.alloc ?_ _ | with_reducible refine BelC.drew ?_ | (with_reducible refine BelC.setCell ?_ ?_ _; rotate_left; (· first | omega | (simp <;> omega)))))))
      (first | (refine step_cat2 (T := srtN) (base := w3.heap.size) (v := .slice (some ⟨_, 0, none⟩) 0 0) (S := S1) (es := []) (ms := g.nodes) rfl (.tmp 28) (.tmp 30) 22 37 rfl i0 _ 80 Try.underlying22 hi hz0 hz1 hz2 rfl rfl (by simp) (RowG.emptyS ?_ ?_ HS3.out) gA gc rfl (HL3.out _ ?_) ?_ ?_ ?_ ?_; (· show Blk _ _ _; (· repeat (first | (with_reducible refine Blk.new' _ _ _ ?_; (· first | omega | (simp <;> omega))) | with_reducible refine Blk.alloc ?_ _ | with_reducible refine Blk.drew ?_))); (· first | omega | (simp <;> omega)); (· repeat (first | with_reducible assumption | with_reducible exact BelC.refl _ | with_reducible refine BelC.alloc ?_ _ | with_reducible refine BelC.drew ?_)); (· simp [maxLen]; omega); (· simp; omega); (· first | omega | (simp <;> omega)); intro v6 w6 hrow6 hk6 hb6; rw [List.nil_append] at hrow6; obtain ⟨A6, c6, rfl, hn6, hm6⟩ := hrow6.form; refine cut_ (P := BelC w3 w6) ?_ (fun hbc6 => ?_); (· refine Below.trans ?_ (hk6.below ?_ ?_); (· show BelC _ _; (· repeat (first | with_reducible assumption | with_reducible exact BelC.refl _ | with_reducible refine BelC.alloc ?_ _ | with_reducible refine BelC.drew ?_))); (· first | omega | (simp <;> omega)); (· intro i hi e; simp [Value.ownBlock] at e <;> omega)); (first | (refine cut_ (P := Blk w6 (w3.heap.size + 1) (.cells #[.slice none 0 0, .int .i64 0] 24)) ?_ (fun hq6 => ?_); (· refine (hk6.block (w3.heap.size + 1) ?_ ?_).trans ?_; (· first | omega | (simp <;> omega)); (· intro e; simp [Value.ownBlock] at e <;> omega); (· show Blk _ _ _; (· repeat (first | (with_reducible refine Blk.new' _ _ _ ?_; (· first | omega | (simp <;> omega))) | with_reducible refine Blk.alloc ?_ _ | with_reducible refine Blk.drew ?_)))); obtain ⟨hcq, hfq⟩ := hq6.cells) | (refine cut_ (P := Blk w6 w3.heap.size (.cells #[.slice none 0 0, .int .i64 0] 24)) ?_ (fun hq6 => ?_); (· refine (hk6.block w3.heap.size ?_ ?_).trans ?_; (· first | omega | (simp <;> omega)); (· intro e; simp [Value.ownBlock] at e <;> omega); (· show Blk _ _ _; (· repeat (first | (with_reducible refine Blk.new' _ _ _ ?_; (· first | omega | (simp <;> omega))) | with_reducible refine Blk.alloc ?_ _ | with_reducible refine Blk.drew ?_)))); obtain ⟨hcq, hfq⟩ := hq6.cells) | skip)))
    · refine at_world (G := fun W => Exit.then _ _ _ _ W) (fun W => Was w3 W S1 g w6.heap.size A6 c6) (Was.late hbc6 hrow6) ?_
      generalize w6.heap.size = pb
      generalize w3.heap.size = gg
      intro W hW
      exact HK.out pb gg A6 c6 W hW
    · refine at_world (G := fun W => Exit.then _ _ _ _ W) (fun W => Was w3 W S1 g (w3.heap.size + 1) A6 c6) (Was.early hbc6 hrow6 hq6 (by omega) (by intro e; rcases hb6 with h | h <;> (rw [h] at e; simp [Value.ownBlock] at e <;> omega)) HS3.out) ?_
      generalize w3.heap.size + 1 = pb
      generalize w3.heap.size = gg
      intro W hW
      with_reducible exact HK.out pb gg A6 c6 W hW
    · refine at_world (G := fun W => Exit.then _ _ _ _ W) (fun W => Was w3 W S1 g w3.heap.size A6 c6) (Was.early hbc6 hrow6 hq6 (by omega) (by intro e; rcases hb6 with h | h <;> (rw [h] at e; simp [Value.ownBlock] at e <;> omega)) HS3.out) ?_
      generalize w3.heap.size + 1 = gg
      generalize w3.heap.size = pb
      intro W hW
      with_reducible exact HK.out pb gg A6 c6 W hW
  · intro pb gg wA wc w5 hwas
    have hb15 : BelC w1 w5 := BelC.trans HB3.out hwas.bel
    have H15 := Lib.hid hb15
    have hgB : GrV w5 S1 g (.agg #[.slice gA g.nodes.length gc, .int .i64 g.root]) := HGK.out.keep (fun k hk => ⟨hk, Below.block (BelC.trans HB1.out hb15) k (HS1.out k hk)⟩)
    have hSB : ∀ k, S1 k → k < w5.heap.size := fun k hk => Nat.lt_of_lt_of_le (HS1.out k hk) (Below.size (BelC.trans HB1.out hb15))
    have hcB : ∀ W, BelC w5 W → (W.cell? ⟨w.heap.size, 0, none⟩ = some (.slice gA g.nodes.length gc) ∧ W.cell? ⟨w.heap.size, 1, none⟩ = some (.int .i64 g.root)) := fun W hW => HC.out W (BelC.trans hb15 hW)
    have hIB : ∀ W, BelC w5 W → IntsO W S2 M mA := fun W hW => HIW.out W (BelC.trans hb15 hW)
    have hSW : ∀ W, BelC w5 W → ∀ k, S2 k → k < W.heap.size := fun W hW k hk => Nat.lt_of_lt_of_le (HS2.out k hk) (Below.size (BelC.trans HB1.out (BelC.trans hb15 hW)))
    have hfi := fun W (hW : BelC w5 W) => fixed_e (M := M) (mA := mA) (mc := mc) hSB hgB hW (hSW W hW) (hIB W hW) hmc hmm
    have hrf := fun W (hW : BelC w5 W) => rfixed_e (M := M) (mA := mA) (mc := mc) hSB hgB hW (hSW W hW) (hIB W hW) hmc hmm
    have hge := fun W (hW : BelC w5 W) => generic_e (M := M) (mA := mA) (mc := mc) hSB hgB hW (hSW W hW) (hIB W hW) hmc hmm
    have hrg := fun W (hW : BelC w5 W) => rgeneric_e (M := M) (mA := mA) (mc := mc) hSB hgB hW (hSW W hW) (hIB W hW) hmc hmm
    obtain ⟨F, hFe⟩ : ∃ F, F = g.fixU M := ⟨_, rfl⟩
    obtain ⟨Gn, hGe⟩ : ∃ G, G = g.genU M := ⟨_, rfl⟩
    obtain ⟨cm, hcm⟩ : ∃ c, c = g.mcode M := ⟨_, rfl⟩
    rw [← hFe, ← hcm] at hfi hrf
    rw [← hGe, ← hcm] at hge hrg
    have HFi := Lib.hid hfi
    have HRf := Lib.hid hrf
    have HGe := Lib.hid hge
    have HRg := Lib.hid hrg
    have HCB := Lib.hid hcB
    obtain ⟨k0, k1⟩ := hcB w5 (BelC.refl _)
    have HWas := Lib.hid hwas
    have HGB := Lib.hid hgB
    have HSB := Lib.hid hSB
    have HIB := Lib.hid hIB
    have HSW := Lib.hid hSW
    clear hb15 hgB hSB hcB hIB hSW hfi hrf hge hrg hFe hGe hcm hwas hbr hx3 HC3 HL3 HS3
    refine hKi _ _ ?_
    clear hKi
    go_wp2_with (first
      | (go_at_call 9; (with_reducible refine (HFi.out w5 (BelC.refl _)).mono ?_); rintro e w6 ⟨A6, c6, rfl, n6, m6, st6, hb6⟩; have HB6 := Lib.hid hb6; have HSt6 := Lib.hid st6; obtain ⟨d0, d1⟩ := HCB.out w6 hb6; clear st6 hb6)
      | (go_at_call 10; (with_reducible refine (HRf.out w6 HB6.out).mono ?_); rintro e w7 ⟨A7, c7, rfl, n7, m7, st7, hb7⟩; have HB7 := Lib.hid (BelC.trans HB6.out hb7); have HX7 := Lib.hid hb7; have HSt7 := Lib.hid st7; obtain ⟨e0, e1⟩ := HCB.out w7 HB7.out; clear st7 hb7)
      | (go_at_call 11; (with_reducible refine (HGe.out w7 HB7.out).mono ?_); rintro e w8 ⟨A8, c8, rfl, n8, m8, st8, hb8'⟩; have HB8 := Lib.hid (BelC.trans HB7.out hb8'); have HX8 := Lib.hid (BelC.trans HX7.out hb8'); have HZ8 := Lib.hid hb8'; have HSt8 := Lib.hid st8; obtain ⟨f0, f1⟩ := HCB.out w8 HB8.out; clear st8 hb8')
      | (go_at_call 12; (with_reducible refine (HRg.out w8 HB8.out).mono ?_); rintro e w9 ⟨A9, c9, rfl, n9, m9, st9, hb9⟩; have HB9 := Lib.hid (BelC.trans HB8.out hb9); have HX9 := Lib.hid (BelC.trans HX8.out hb9); have HY9 := Lib.hid hb9; have HSt9 := Lib.hid st9; have hx9 := HCB.out w9 HB9.out; clear st9 hb9))
    obtain ⟨T, hT⟩ : ∃ T, T = g.freshU M := ⟨_, rfl⟩
    obtain ⟨cf, hcf⟩ : ∃ c, c = g.fcode M := ⟨_, rfl⟩
    have hfr := fresh_e (M := M) (mA := mA) (mc := mc) hF (by omega : g.es.length ≤ 4000000) HSB.out HGB.out HB9.out (HSW.out w9 HB9.out) (HIB.out w9 HB9.out) hmc hmm
    have hrr := fun W (hW : BelC w5 W) => rfresh_e (M := M) (mA := mA) (mc := mc) hF HSB.out HGB.out hW (HSW.out W hW) (HIB.out W hW) hmc hmm
    rw [← hT, ← hcf] at hfr hrr
    have HRr := Lib.hid hrr
    clear hrr hT hcf HFi HRf HGe HRg
    with_reducible refine hfr.mono ?_
    rintro e w10 ⟨xA, xc, rfl, xm, xv, hb10⟩
    have hb510 : BelC w5 w10 := BelC.trans HB9.out hb10
    have hb11 : BelC w10 (w10.alloc (.cells #[.slice xA T.nodes.length xc, .int .i64 T.root] 24)) := (BelC.refl _).alloc _
    have hq11 : Blk (w10.alloc (.cells #[.slice xA T.nodes.length xc, .int .i64 T.root] 24)) w10.heap.size (.cells #[.slice xA T.nodes.length xc, .int .i64 T.root] 24 (0, 0)) := Blk.new' _ _ _ rfl
    have hb511 := BelC.trans hb510 hb11
    obtain ⟨d0, d1⟩ := HCB.out _ hb511
    have HV10 := Lib.hid xv
    have HB10 := Lib.hid hb10
    have HB11 := Lib.hid hb11
    have HB511 := Lib.hid hb511
    have HQ11 := Lib.hid hq11
    clear hfr xv hb10 hb510 hb11 hb511 hq11
    go_wp2_with (go_at_call 14; (with_reducible refine (HRr.out _ HB511.out).mono ?_); rintro e w12 ⟨yA, yc, rfl, ym, yv, hb12⟩; have HV12 := Lib.hid yv; have HB12 := Lib.hid hb12; clear yv hb12)
    have hq13 : Blk (w12.alloc (.cells #[.slice yA T.nodes.length yc, .int .i64 T.root] 24)) w12.heap.size (.cells #[.slice yA T.nodes.length yc, .int .i64 T.root] 24 (0, 0)) := Blk.new' _ _ _ rfl
    have hb13 : BelC w12 (w12.alloc (.cells #[.slice yA T.nodes.length yc, .int .i64 T.root] 24)) := (BelC.refl _).alloc _
    obtain ⟨wC, hwC⟩ : ∃ x, x = w12.alloc (.cells #[.slice yA T.nodes.length yc, .int .i64 T.root] 24) := ⟨_, rfl⟩
    rw [← hwC] at hq13 hb13 ⊢
    clear hwC
    have h11C : BelC (w10.alloc (.cells #[.slice xA T.nodes.length xc, .int .i64 T.root] 24)) wC := BelC.trans HB12.out hb13
    have h10C : BelC w10 wC := BelC.trans HB11.out h11C
    have h9C : BelC w9 wC := BelC.trans HB10.out h10C
    have h5C : BelC w5 wC := BelC.trans HB9.out h9C
    have hqx : Blk wC w10.heap.size (.cells #[.slice xA T.nodes.length xc, .int .i64 T.root] 24 (0, 0)) := (Below.block h11C _ HQ11.out.lt).trans HQ11.out
    have hxv : GrV wC (New w9.heap.size wC) T (.agg #[.slice xA T.nodes.length xc, .int .i64 T.root]) := HV10.out.keep (fun k hk => ⟨hk.of h10C, Below.block h10C k hk.2.1⟩)
    have hyv : GrV wC (fun k => k < wC.heap.size) T (.agg #[.slice yA T.nodes.length yc, .int .i64 T.root]) := HV12.out.keep (fun k hk => ⟨Nat.lt_of_lt_of_le hk (Below.size hb13), Below.block hb13 k hk⟩)
    have hxz : w10.heap.size < wC.heap.size := hqx.lt
    obtain ⟨xb, hxb⟩ : ∃ x, x = w10.heap.size := ⟨_, rfl⟩
    obtain ⟨yb, hyb⟩ : ∃ x, x = w12.heap.size := ⟨_, rfl⟩
    rw [← hxb] at hqx hxz ⊢
    rw [← hyb] at hq13 ⊢
    have hi1 := fun W (hW : BelC wC W) => ints_s HSt6.out HSt7.out n6 m6 n7 m7 (BelC.trans HX9.out (BelC.trans h9C hW)) (BelC.trans HZ8.out (BelC.trans HY9.out (BelC.trans h9C hW)))
    have hi2 := fun W (hW : BelC wC W) => ints_s HSt8.out HSt9.out n8 m8 n9 m9 (BelC.trans HY9.out (BelC.trans h9C hW)) (BelC.trans h9C hW)
    have hi3 := fun W (hW : BelC wC W) => equal_s (W := W) (S1 := fun k => k < wC.heap.size) (S3 := fun k => k < wC.heap.size) (fun k hk => Nat.lt_of_lt_of_le hk (Below.size hW)) (hxv.keep (fun k hk => ⟨hk.2.1, Below.block hW k hk.2.1⟩)) (fun k hk => Nat.lt_of_lt_of_le hk (Below.size hW)) (hyv.keep (fun k hk => ⟨hk, Below.block hW k hk⟩))
    have hcC : ∀ W, BelC wC W → ((W.cell? ⟨xb, 0, none⟩ = some (.slice xA T.nodes.length xc) ∧ W.cell? ⟨xb, 1, none⟩ = some (.int .i64 T.root)) ∧ (W.cell? ⟨yb, 0, none⟩ = some (.slice yA T.nodes.length yc) ∧ W.cell? ⟨yb, 1, none⟩ = some (.int .i64 T.root))) := fun W hW =>
      ⟨⟨BelC.old hW (hqx.cells.1 0), BelC.old hW (hqx.cells.1 1)⟩, ⟨BelC.old hW (hq13.cells.1 0), BelC.old hW (hq13.cells.1 1)⟩⟩
    have HI1 := Lib.hid hi1
    have HI2 := Lib.hid hi2
    have HI3 := Lib.hid hi3
    have HCC := Lib.hid hcC
    have H9C := Lib.hid h9C
    have H5C := Lib.hid h5C
    have HXv := Lib.hid hxv
    have HQx := Lib.hid hqx
    obtain ⟨⟨x0, x1⟩, y0, y1⟩ := hcC wC (BelC.refl _)
    clear hi1 hi2 hi3 hcC h9C h5C h10C h11C hxv hyv hqx hq13 hb13 hxb hyb hxz HV10 HV12 HQ11 HB11 HB511 HB12 d0 d1
    with_reducible refine (HI1.out wC (BelC.refl _)).mono ?_
    rintro e w14 ⟨rfl, hb14⟩
    obtain ⟨⟨p0, p1⟩, q0, q1⟩ := HCC.out w14 hb14
    have HB14 := Lib.hid hb14
    clear hb14 x0 x1 y0 y1
    go_wp2_with (first
      | (go_at_call 15; (with_reducible refine (HI2.out w14 HB14.out).mono ?_); rintro e w15 ⟨rfl, hb15⟩; have HB15 := Lib.hid (BelC.trans HB14.out hb15); obtain ⟨⟨u0, u1⟩, v0, v1⟩ := HCC.out w15 HB15.out; clear hb15)
      | (go_at_call 16; (with_reducible refine (HI3.out w15 HB15.out).mono ?_); rintro e w16 ⟨rfl, hb16⟩; have HB16 := Lib.hid (BelC.trans HB15.out hb16); obtain ⟨⟨s0, s1⟩, t0, t1⟩ := HCC.out w16 HB16.out; clear hb16))
    have hav : GrV w16 (New w9.heap.size w16) T (.agg #[.slice xA T.nodes.length xc, .int .i64 T.root]) := HXv.out.keep (fun k hk => ⟨hk.of HB16.out, Below.block HB16.out k hk.2.1⟩)
    obtain ⟨aA', ac', e', hal, ham, haN⟩ := hav
    simp only [Value.agg.injEq, List.cons.injEq, Array.mk.injEq, Value.slice.injEq, true_and, and_true] at e'
    obtain ⟨rfl, rfl⟩ := e'
    unfold maxLen at ham
    have hb916 : BelC w9 w16 := BelC.trans H9C.out HB16.out
    have HAN := Lib.hid haN
    have HBt := Lib.hid (Blot.refl hb916)
    have HAb := Lib.hid s0
    clear haN hb916 xm ym p0 p1 q0 q1 u0 u1 v0 v1 t0 t1 s1
    go_loopw [103] (fun v103 wr => ∃ (i : Nat), v103 = .int .i64 i ∧ i ≤ T.nodes.length ∧ Blot w9 w16 wr) (fun v103 _ => T.nodes.length - (intOf v103).toNat)
    case atStart => exact ⟨0, rfl, Nat.zero_le _, HBt.out⟩
    case round =>
      obtain ⟨i, rfl, hi', hbl⟩ := hrel
      have p0 := hbl.old _ _ HAb.out (by simp)
      have HBl := Lib.hid hbl
      clear hbl
      by_cases hlt : i < T.nodes.length
      · obtain ⟨nb, no, rfl, hnp⟩ := NdsO.get _ _ HAN.out i hlt
        obtain ⟨X, hX⟩ : ∃ X, X = T.nodes[i] := ⟨_, rfl⟩
        rw [← hX] at hnp
        obtain ⟨xA, xB, xL, xM, f0, f1, f2, f3, f4, h1, h2, h3, h4, h5, h6, h7, h8⟩ := hnp.val
        have p2 := HBl.out.old _ _ f2 (by simp)
        have HF2 := Lib.hid f2
        have HX6 := Lib.hid h6
        unfold maxLen at h3
        clear hX hnp f0 f1 f2 f3 f4 h1 h4 h5 h6 h7 h8
        go_wp2
        go_loopw [113] (fun v113 wm => ∃ (k : Nat), v113 = .int .i64 k ∧ k ≤ X.args.length ∧ Blot w9 w16 wm) (fun v113 _ => X.args.length - (intOf v113).toNat)
        case atStart => exact ⟨0, rfl, Nat.zero_le _, HBl.out⟩
        case round =>
          obtain ⟨k, rfl, hk', hbl2⟩ := hrel
          have HBl2 := Lib.hid hbl2
          by_cases hlt2 : k < X.args.length
          · obtain ⟨xb', xo, rfl, hnew, d1⟩ := IntsO.get _ _ HX6.out k hlt2
            have q0 := hbl2.old _ _ HAb.out (by simp)
            have q2 := hbl2.old _ _ HF2.out (by simp)
            obtain ⟨m, q3⟩ := hbl2.int _ _ d1
            have q4 : wr.frozen? ⟨xb', xo + k, none⟩ = false := by rw [hbl2.fr]; exact hnew.2.2 _
            have hst := fun n => hbl2.set (m := n) hnew.1 d1
            have HSt := Lib.hid hst
            clear hbl2 d1 hnew hst p0 p2
            go_wp2
            go_roundw
            case rel => exact ⟨k + 1, by go_num, by omega, HSt.out _⟩
            case measure => simp [intOf]; omega
          · clear hbl2
            go_wp2
            go_roundw
            case rel => exact ⟨i + 1, by go_num, by omega, HBl2.out⟩
            case measure => simp [intOf]; omega
      · have hbw : BelC w9 wr := HBl.out.bel
        have hb5w : BelC w5 wr := BelC.trans HB9.out hbw
        obtain ⟨q0, q1⟩ := HCB.out wr hb5w
        have q2 := BelC.old hb5w (HWas.out.blk.cells.1 0)
        have q3 := BelC.old hb5w (HWas.out.blk.cells.1 1)
        obtain ⟨wA', wc', e', r1, r2, r3⟩ := HWas.out.row.nds (S' := fun k => k < w5.heap.size) (fun k hk => HSB.out k hk) (fun k _ hk => hk)
        simp only [Value.slice.injEq, true_and] at e'
        obtain ⟨rfl, rfl⟩ := e'
        have hwv : GrV wr (fun k => k < w5.heap.size) g (.agg #[.slice wA g.nodes.length wc, .int .i64 g.root]) := ⟨_, _, rfl, r1, r2, NdsO.keep (fun k hk => ⟨hk, Below.block hb5w k hk⟩) _ _ r3⟩
        have heq := equal_s (W := wr) (fun k hk => Nat.lt_of_lt_of_le (HSB.out k hk) (Below.size hb5w)) (HGB.out.keep (w' := wr) (S' := S1) (fun k hk => ⟨hk, Below.block hb5w k (HSB.out k hk)⟩)) (fun k (hk : k < w5.heap.size) => Nat.lt_of_lt_of_le hk (Below.size hb5w)) hwv
        have HEq := Lib.hid heq
        have HB5w := Lib.hid hb5w
        clear hbw hb5w r1 r2 r3 hwv heq p0
        go_wp2_with (go_at_call 16; (with_reducible refine HEq.out.mono ?_); rintro e w17 ⟨rfl, hb17⟩)
        go_ret
        exact ⟨rfl, BelC.trans HB1.out (BelC.trans H15.out (BelC.trans HB5w.out hb17))⟩
theorem es_sum (g : RGr) : g.es.length + 6 * g.nodes.length = (g.nodes.map fun x => x.args.length + 6).sum := by
  have h1 : (List.range g.nodes.length).map (fun i => (g.fa i).length) = g.nodes.map fun x => x.args.length := by
    apply List.ext_getElem
    · simp
    · intro i h1 h2
      simp only [List.length_map] at h2
      simp [RGr.fa, G.Gr.f, RGr.gr, RNd.nd, h2]
  have h2 : g.es.length = (g.nodes.map fun x => x.args.length).sum := by
    unfold RGr.es G.edges
    rw [List.length_flatMap, ← h1]
    simp
  rw [h2]
  generalize g.nodes = l
  induction l with
  | nil => rfl
  | cons x r ih => simp only [List.map_cons, List.sum_cons, List.length_cons] at ih ⊢; omega
theorem bulkGen {H : Type} {g : RGr} {dn dr : DataW H} {ds : List (DataW H)} (h : g.nodes = [] ∨ ∃ elems sp, dn = .slice elems sp ∧ elems.length = g.nodes.length ∧ (g.nodes.map fun x => x.args.length + 6).sum ≤ Rows.uptoBulkAll elems) (hk : Rows.uptoSmall H (.agg [dn, dr] :: ds) = true) : g.es.length + 6 * g.nodes.length ≤ 1048576 := by
  rw [es_sum]
  have h1 := of_decide_eq_true hk
  rcases h with h | ⟨elems, sp, rfl, _, h3⟩
  · rw [h]; decide
  · simp only [Rows.uptoBulkAll, Rows.uptoBulk] at h1
    omega
set_option maxRecDepth 100000 in
theorem genfresh_lifted (os : Os) (started : os.Started) (H : Type) (enc : TypeId × Value → H) (F : Stop.Interp) :
    ReturnsInHanded {} Try.checked os 3 .any ((Rows.OpenSpec.upto Rows.genFreshSpec).pre6 enc Try.prog Try.f3 Rows.genFreshUptoRow.domain false) (((Rows.OpenSpec.upto Rows.genFreshSpec).at F).post enc Try.prog Try.f3 false true false false) := by
  refine returnsInHanded_of_cond_sized (C := Try.checked) (s := Rows.OpenSpec.upto Rows.genFreshSpec) (k := Rows.uptoSmall) rfl lawOwn started (by kernel_rfl) Try.func3
    (OpenSpec.witness (enc := enc) (C := Try.checked) (s := Rows.OpenSpec.upto Rows.genFreshSpec) (k := Rows.uptoSmall) rfl false ⟨#[], #[.agg #[.slice none 0 0, .int .i64 0], .slice none 0 0], []⟩ 8 (by kernel_rfl) (by kernel_rfl) (by kernel_rfl)
      (x := ([.agg [.nil, .lit (.int .i64 0)], .nil], [], [])) (by kernel_rfl) rfl (by kernel_rfl)) ?_
  intro W base args ds gs before hval0 hW _ hk hsz0 _
  have hsz : (DataW.weightsEach Try.prog (Try.f3.params.toList ++ Rows.genFreshSpec.plain.varTypes Try.prog) (ds ++ gs)).all (· ≤ reachBytes) = true := hsz0
  clear hsz0
  have hval : ∀ (j : Nat) t v, Try.f3.params[j]? = some t → args[j]? = some v → Value.okWide Try.prog W .any base t v := hval0
  have hW' := hW
  obtain ⟨p, q, hA0, hV, rfl, _, _⟩ := hW
  have hA : DataW.TrodAll enc Try.prog W 0 (fun _ => true) true Try.f3.params.toList args.toList ds p := hA0
  rw [Try.params3] at hA hval hsz
  obtain ⟨v0, v1, d0, d1, p0, p1, rfl, rfl, rfl, h0, h1⟩ := trodAll_two hA
  obtain ⟨rfl, rfl⟩ := trodVars_none hV
  have hsz1 : (DataW.weightsEach Try.prog [24, 25] [d0, d1]).all (· ≤ reachBytes) = true := hsz
  have hwt := fun n hn => of_decide_eq_true (List.all_eq_true.1 hsz1 n hn)
  obtain ⟨g, hg, hF, _, dn, dr, rfl, hdn⟩ := open_graph (hval 0 24 v0 rfl rfl) h0 (fun n hn => hwt n (DataW.weights_mem_each (j := 0) (t := 24) (d := d0) rfl rfl n hn))
  have hn := bulkGen hdn hk
  obtain ⟨sA, sl, sc, rfl⟩ := okWide_slice Try.underlying25 (hval 1 25 v1 rfl rfl)
  have h1' := h1
  obtain ⟨f1, hf1⟩ := h1'
  have hf1 : DataW.trod enc Try.prog W 0 (fun _ => true) true f1 25 [.slice sA sl sc] = some (d1, p1) := hf1
  obtain ⟨M, mA, mc, he, hmc, hmm, hI, _⟩ := open_ints hf1 (fun n hn => hwt n (DataW.weights_mem_each (j := 1) (t := 25) (d := d1) rfl rfl n hn))
  simp only [Value.slice.injEq] at he
  obtain ⟨rfl, rfl, rfl⟩ := he
  clear hA0 hval0
  simp only [List.append_nil] at hW'
  have hlt : ∀ x ∈ p0 ++ p1, x.block < W.heap.size := fun x hx => by simpa using hW'.lt x (by simpa using hx)
  refine (lawfresh_any W _ _ g v0 M sA sc hF (by omega) (by omega) (fun _ h => h) hg (fun _ h => h) hI hmc hmm).mono fun e W' ⟨he, hnx⟩ => ?_
  subst he
  refine ⟨_, rfl, _, _, _, [], p0 ++ p1, [], hW', ?_, ?_, rfl, hnx.frame _, fun h => by cases h⟩
  · exact trodAll_mk1 (shut_bool Try.underlying4 true)
  · exact trodAll_mk2 (Below.trod lawLaid (by kernel_rfl) (of_decide_eq_true (by kernel_rfl)) h0 hnx (fun x hx => hlt x (List.mem_append_left _ hx))) (Below.trod lawLaid (by kernel_rfl) (of_decide_eq_true (by kernel_rfl)) h1 hnx (fun x hx => hlt x (List.mem_append_right _ hx)))

theorem genfresh_holds : Rows.GenFreshUptoSaid :=
  OpenClaim.holds_of_cond 3 Try.f3 rfl rfl rfl rfl rfl rfl rfl ⟨rfl, rfl, rfl, rfl, rfl⟩ rfl rfl rfl rfl rfl (by kernel_rfl) Try.func3 (by kernel_rfl)
    (of_decide_eq_true (by kernel_rfl)) (by unfold Func.isWrapper; first | (rw [if_pos (by decide +kernel)]; kernel_rfl) | (rw [if_neg (by decide +kernel)]; exact ⟨rfl, rfl⟩))
    (fun os started H enc _ F => genfresh_lifted os started H enc F)

#print axioms genfresh_holds
end Go.Proofs.Ytnhdgndjpkdhdaa

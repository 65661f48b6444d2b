/-
  trefoillaw06.GraphChecks is true for every input that it is handed, and leaves its arguments as they were.
-/
import Derived.Test.YtipehahfbcbigaaLTri
import Derived.Test.YtipehahfbcbigaaGTrimR
namespace Go.Proofs.Ytipehahfbcbigaa
open Go.ChangeShapes Go.WideShapes Go.ChangeAt Go.RowKit Go.Deep

theorem dtrim_d {w1 W : World} {S : Nat → Prop} {g : RGr} {gv : Value} (hF : g.fits) (hS : ∀ k, S k → k < w1.heap.size) (hg : GrV w1 S g gv) (hW : BelC w1 W) : Calls Try.prog 11 #[gv] W fun e w' => ∃ tA tc, e = .returned (.agg #[.slice tA g.trimU.nodes.length tc, .int .i64 0]) ∧ GrV w' (New W.heap.size w') g.trimU (.agg #[.slice tA g.trimU.nodes.length tc, .int .i64 0]) ∧ BelC W w' :=
  (dTrim_t W S g gv hF (fun k hk => Nat.lt_of_lt_of_le (hS k hk) (Below.size hW)) (hg.keep (fun k hk => ⟨hk, Below.block hW k (hS k hk)⟩))).mono fun _ _ ⟨v, h1, h2, h3⟩ => by
    have h2' := h2
    have h0 : g.trimU.root = 0 := by unfold RGr.trimU; split <;> rfl
    obtain ⟨tA, tc, rfl, _, _, _⟩ := h2
    rw [h0] at h1 h2'
    exact ⟨tA, tc, h1, h2', h3⟩
theorem rtrim_d {w1 W : World} {S : Nat → Prop} {g : RGr} {gv : Value} (hF : g.fits) (hb8 : g.nodes.length * 8 ≤ 140737488355328) (hS : ∀ k, S k → k < w1.heap.size) (hg : GrV w1 S g gv) (hW : BelC w1 W) : Calls Try.prog 12 #[gv] W fun e w' => ∃ tA tc, e = .returned (.agg #[.slice tA g.trimU.nodes.length tc, .int .i64 0]) ∧ GrV w' (fun k => W.heap.size ≤ k ∧ k < w'.heap.size) g.trimU (.agg #[.slice tA g.trimU.nodes.length tc, .int .i64 0]) ∧ BelC W w' :=
  (gTrim_u W S g gv hF hb8 (fun k hk => Nat.lt_of_lt_of_le (hS k hk) (Below.size hW)) (hg.keep (fun k hk => ⟨hk, Below.block hW k (hS k hk)⟩))).mono fun _ _ ⟨v, h1, h2, h3⟩ => by
    have h2' := h2
    have h0 : g.trimU.root = 0 := by unfold RGr.trimU; split <;> rfl
    obtain ⟨tA, tc, rfl, _, _, _⟩ := h2
    rw [h0] at h1 h2'
    exact ⟨tA, tc, h1, h2', h3⟩
/-- What the graph was. -/
structure Was (w1 w3 W : World) (S1 : Nat → Prop) (g : RGr) (pb : Nat) (wA : Option Addr) (wc : Nat) : Prop where
  bel : BelC w3 W
  blk : Blk W pb (.cells #[.slice wA g.nodes.length wc, .int .i64 g.root] 24 (0, 0))
  row : RowG srtN 36 w3.heap.size W S1 (.slice wA g.nodes.length wc) g.nodes
  ne : (Value.slice wA g.nodes.length wc).ownBlock ≠ some pb
  pbB : w3.heap.size ≤ pb
theorem Was.late {w1 w3 w6 : World} {S1 : Nat → Prop} {g : RGr} {wA : Option Addr} {wc : Nat} (hb : BelC w3 w6) (hr : RowG srtN 36 w3.heap.size w6 S1 (.slice wA g.nodes.length wc) g.nodes) :
    Was w1 w3 (w6.alloc (.cells #[.slice wA g.nodes.length wc, .int .i64 g.root] 24)) S1 g w6.heap.size wA wc :=
  ⟨hb.alloc _, Blk.new' _ _ _ rfl, hr.keep (F := fun _ => False) ((Keeps.refl _ _).alloc _) (fun _ e _ => e.elim), fun e => by have := (hr.block e).2; omega, Below.size hb⟩
theorem Was.early {w1 w3 w6 : World} {S1 : Nat → Prop} {g : RGr} {wA : Option Addr} {wc pb : Nat} (hb : BelC w3 w6) (hr : RowG srtN 36 w3.heap.size w6 S1 (.slice wA g.nodes.length wc) g.nodes) (hq : Blk w6 pb (.cells #[.slice none 0 0, .int .i64 0] 24 (0, 0))) (hp : w3.heap.size ≤ pb) (hn : (Value.slice wA g.nodes.length wc).ownBlock ≠ some pb) (hS : ∀ k, S1 k → k < w3.heap.size) :
    Was w1 w3 ((w6.setCell ⟨pb, 0, none⟩ (.slice wA g.nodes.length wc)).setCell ⟨pb, 1, none⟩ (.int .i64 g.root)) S1 g pb wA wc :=
  ⟨(hb.setCell hp _).setCell hp _, (hq.set 0 _).set 1 _, hr.keep (F := fun k => k = pb) (((Keeps.refl (fun k => k = pb) w6).setCell (p := ⟨pb, 0, none⟩) (fun _ => rfl) _).setCell (p := ⟨pb, 1, none⟩) (fun _ => rfl) _) (fun k e _ => ⟨by subst e; exact hn, fun h => by have := hS k h; omega⟩), hn, hp⟩

theorem rcheck_c {w1 W : World} {S : Nat → Prop} {g : RGr} {gv : Value} (hS : ∀ k, S k → k < w1.heap.size) (hg : GrV w1 S g gv) (hW : BelC w1 W) : Calls Try.prog 14 #[gv] W fun e w' => e = .returned (.int .i64 g.code) ∧ BelC w1 w' :=
  (gcheck_r W S g gv (fun k hk => Nat.lt_of_lt_of_le (hS k hk) (Below.size hW)) (hg.keep (fun k hk => ⟨hk, Below.block hW k (hS k hk)⟩))).mono fun _ _ ⟨h1, h2⟩ => ⟨h1, Below.trans hW (h2.mono (Below.size hW))⟩
section
variable {wC X W : World} {S : Nat → Prop} {g : RGr} {gv : Value}
theorem rreach_e (hS : ∀ k, S k → k < wC.heap.size) (hg : GrV wC S g gv) (hX : BelC wC X) (hW : BelC X W) : Calls Try.prog 17 #[gv] W fun e w' => ∃ A c, e = .returned (.slice A g.reachU.length c) ∧ g.reachU.length ≤ c ∧ c ≤ maxLen ∧ Stays w' (g.reachU.map Int.ofNat) A ∧ BelC wC w' ∧ BelC X w' := by
  have hCW : BelC wC W := Below.trans hX (Below.mono hW (Below.size hX))
  exact (greach_u W S g gv (fun k hk => Nat.lt_of_lt_of_le (hS k hk) (Below.size hCW)) (hg.keep (fun k hk => ⟨hk, Below.block hCW k (hS k hk)⟩))).mono fun _ _ ⟨A, c, h1, h2, h3, h4, h5⟩ => ⟨A, c, h1, h2, h3, .of h4, Below.trans hCW (h5.mono (Below.size hCW)), Below.trans hW (h5.mono (Below.size hW))⟩
theorem free_e (hS : ∀ k, S k → k < wC.heap.size) (hg : GrV wC S g gv) (hX : BelC wC X) (hW : BelC X W) : Calls Try.prog 18 #[gv] W fun e w' => ∃ A c, e = .returned (.slice A (g.reachU.filter g.fr).length c) ∧ (g.reachU.filter g.fr).length ≤ c ∧ c ≤ maxLen ∧ Stays w' ((g.reachU.filter g.fr).map Int.ofNat) A ∧ BelC wC w' ∧ BelC X w' := by
  have hCW : BelC wC W := Below.trans hX (Below.mono hW (Below.size hX))
  exact (dfree_r W S g gv (fun k hk => Nat.lt_of_lt_of_le (hS k hk) (Below.size hCW)) (hg.keep (fun k hk => ⟨hk, Below.block hCW k (hS k hk)⟩))).mono fun _ _ ⟨A, c, h1, h2, h3, h4, h5⟩ => ⟨A, c, h1, h2, h3, .of h4, Below.trans hCW (h5.mono (Below.size hCW)), Below.trans hW (h5.mono (Below.size hW))⟩
theorem rfree_e (hS : ∀ k, S k → k < wC.heap.size) (hg : GrV wC S g gv) (hX : BelC wC X) (hW : BelC X W) : Calls Try.prog 19 #[gv] W fun e w' => ∃ A c, e = .returned (.slice A (g.reachU.filter g.fr).length c) ∧ (g.reachU.filter g.fr).length ≤ c ∧ c ≤ maxLen ∧ Stays w' ((g.reachU.filter g.fr).map Int.ofNat) A ∧ BelC wC w' ∧ BelC X w' := by
  have hCW : BelC wC W := Below.trans hX (Below.mono hW (Below.size hX))
  exact (gfree_r W S g gv (fun k hk => Nat.lt_of_lt_of_le (hS k hk) (Below.size hCW)) (hg.keep (fun k hk => ⟨hk, Below.block hCW k (hS k hk)⟩))).mono fun _ _ ⟨A, c, h1, h2, h3, h4, h5⟩ => ⟨A, c, h1, h2, h3, .of h4, Below.trans hCW (h5.mono (Below.size hCW)), Below.trans hW (h5.mono (Below.size hW))⟩
theorem ints_e {Y : World} {l : List Nat} {n c1 c2 : Nat} {A1 A2 : Option Addr} (h1 : Stays X (l.map Int.ofNat) A1) (h2 : Stays Y (l.map Int.ofNat) A2) (hn : n = l.length) (hc1 : n ≤ c1) (hm1 : c1 ≤ maxLen) (hc2 : n ≤ c2) (hm2 : c2 ≤ maxLen) (hCY : BelC wC Y) (hXY : BelC X Y) (hW : BelC Y W) :
    Calls Try.prog 15 #[.slice A1 n c1, .slice A2 n c2] W fun e w' => e = .returned (.bool true) ∧ BelC wC w' := by
  have hl : (l.map Int.ofNat).length = n := by rw [List.length_map, hn]
  have h := ints_r W _ _ (l.map Int.ofNat) (l.map Int.ofNat) A1 A2 c1 c2 true (h1 W (Below.trans hXY (Below.mono hW (Below.size hXY)))) (h2 W hW) (by omega) hm1 (by omega) hm2 (by simp)
  rw [hl] at h
  exact h.mono fun _ _ ⟨e, k, e2⟩ => ⟨e, by subst e2; exact Below.drewN'' (Below.trans hCY (Below.mono hW (Below.size hCY))) k⟩
end
/-- Numbers at the same places, all else as it was. -/
structure Blot (wB w W : World) : Prop where
  bel : BelC wB W
  old : ∀ p v, w.cell? p = some v → (∀ n, v ≠ .int .i64 n) → W.cell? p = some v
  int : ∀ p n, w.cell? p = some (.int .i64 n) → ∃ m, W.cell? p = some (.int .i64 m)
  fr : ∀ p, W.frozen? p = w.frozen? p
theorem Blot.refl {wB w : World} (h : BelC wB w) : Blot wB w w := ⟨h, fun _ _ h _ => h, fun _ _ h => ⟨_, h⟩, fun _ => rfl⟩
theorem Blot.drew {wB w W : World} (h : Blot wB w W) : Blot wB w W.drew := ⟨h.bel.drew, h.old, h.int, h.fr⟩
theorem Blot.set {wB w W : World} {b j : Nat} {n m : Int} (h : Blot wB w W) (hb : wB.heap.size ≤ b) (hp : w.cell? ⟨b, j, none⟩ = some (.int .i64 n)) : Blot wB w (W.setCell ⟨b, j, none⟩ (.int .i64 m)) := by
  obtain ⟨n', hn'⟩ := h.int _ _ hp
  refine ⟨h.bel.setCell hb _, fun p v hv hi => ?_, fun p n hn => ?_, fun p => by rw [World.frozen?_setCell]; exact h.fr p⟩
  · have hne : p ≠ ⟨b, j, none⟩ := fun e => by
      subst e
      rw [hp] at hv
      injection hv with hv
      exact hi _ hv.symm
    rw [World.cell?_setCell_other (h := Ne.symm hne)]
    exact h.old p v hv hi
  · by_cases e : p = ⟨b, j, none⟩
    · subst e
      exact ⟨m, World.cell?_setCell_same _ _ _ hn'⟩
    · rw [World.cell?_setCell_other (h := fun e2 => e e2.symm)]
      exact h.int p n hn
section
variable {w8 : World} {k j : Nat} {a b u v u' v' : Value} {t : TypeId} {o : Obj}
theorem Blk.setA (h : Blk w8 k (.cells #[a, b] t (0, 0))) : Blk (((w8.setCell ⟨k, 0, none⟩ u).setCell ⟨k, 1, none⟩ v).alloc o) k (.cells #[u, v] t (0, 0)) := ((h.set 0 u).set 1 v).alloc _
theorem Blk.setB (h : Blk w8 k (.cells #[a, b] t (0, 0))) (hne : k ≠ j) : Blk ((((w8.setCell ⟨k, 0, none⟩ u).setCell ⟨k, 1, none⟩ v).setCell ⟨j, 0, none⟩ u').setCell ⟨j, 1, none⟩ v') k (.cells #[u, v] t (0, 0)) := (((h.set 0 u).set 1 v).setNe hne _).setNe hne _
theorem Blk.setC (h : Blk w8 k (.cells #[a, b] t (0, 0))) (hne : k ≠ j) : Blk ((((w8.setCell ⟨j, 0, none⟩ u').setCell ⟨j, 1, none⟩ v').setCell ⟨k, 0, none⟩ u).setCell ⟨k, 1, none⟩ v) k (.cells #[u, v] t (0, 0)) := (((h.setNe hne _).setNe hne _).set 0 u).set 1 v
end
/-- Both answers, as variables. -/
structure Two (wB W : World) (T : RGr) (ab bb : Nat) (aA : Option Addr) (ac : Nat) (bA : Option Addr) (bc : Nat) : Prop where
  bel : BelC wB W
  blkA : Blk W ab (.cells #[.slice aA T.nodes.length ac, .int .i64 0] 24 (0, 0))
  blkB : Blk W bb (.cells #[.slice bA T.nodes.length bc, .int .i64 0] 24 (0, 0))
  av : GrV W (New wB.heap.size W) T (.agg #[.slice aA T.nodes.length ac, .int .i64 0])
  bv : GrV W (fun k => k < W.heap.size) T (.agg #[.slice bA T.nodes.length bc, .int .i64 0])
theorem Two.of {wB w7 w8 W : World} {T : RGr} {ab bb n7 n8 : Nat} {aA bA : Option Addr} {ac bc : Nat} (ha : GrV w7 (New n7 w7) T (.agg #[.slice aA T.nodes.length ac, .int .i64 0])) (hb : GrV w8 (fun k => n8 ≤ k ∧ k < w8.heap.size) T (.agg #[.slice bA T.nodes.length bc, .int .i64 0]))
    (h78 : BelC w7 w8) (hn7 : wB.heap.size ≤ n7) (hbel : BelC wB W) (hk : Keeps (fun k => k = ab ∨ k = bb) w8 W) (hA : ab < n7 ∨ w7.heap.size ≤ ab) (hB : bb < n7 ∨ w7.heap.size ≤ bb) (hA2 : ab < n8 ∨ w8.heap.size ≤ ab) (hB2 : bb < n8 ∨ w8.heap.size ≤ bb)
    (blkA : Blk W ab (.cells #[.slice aA T.nodes.length ac, .int .i64 0] 24 (0, 0))) (blkB : Blk W bb (.cells #[.slice bA T.nodes.length bc, .int .i64 0] 24 (0, 0))) : Two wB W T ab bb aA ac bA bc := by
  refine ⟨hbel, blkA, blkB, ha.keep (fun k hk1 => ?_), hb.keep (fun k hk1 => ?_)⟩
  · have h1 := hk1.of h78
    have h2 := hk1.1
    have h3 := hk1.2.1
    have h4 := Below.size h78
    have e : W.heap[k]? = w8.heap[k]? := hk.block k h1.2.1 (by omega)
    exact ⟨⟨by omega, Nat.lt_of_lt_of_le h1.2.1 hk.size, h1.2.2.of e⟩, e.trans (Below.block h78 k h3)⟩
  · have e : W.heap[k]? = w8.heap[k]? := hk.block k hk1.2 (by have := hk1.1; have := hk1.2; omega)
    exact ⟨Nat.lt_of_lt_of_le hk1.2 hk.size, e⟩

set_option maxRecDepth 100000 in
set_option maxHeartbeats 2000000 in
theorem lawchecks_any (w : World) (S1 : Nat → Prop) (g : RGr) (gv : Value) (hF : g.fits) (hb8 : g.nodes.length * 80 ≤ 140737488355328) (hS1 : ∀ k, S1 k → k < w.heap.size) (hg : GrV w S1 g gv) :
    Calls Try.prog 3 #[gv] w fun e w' => e = .returned (.bool true) ∧ Below w.heap.size w w' := by
  have hgK := hg
  obtain ⟨gA, gc, rfl, hgc, hgm, oG⟩ := hg
  have hA : gA = none → g.nodes = [] := fun e => by
    subst e
    cases h : g.nodes with
    | nil => rfl
    | cons x r => rw [h] at oG; obtain ⟨_, _, e, _⟩ := oG; cases e
  unfold maxLen at hgm
  obtain ⟨w1, hw1⟩ : ∃ w1, w1 = w.alloc (.cells #[.slice gA g.nodes.length gc, .int .i64 g.root] 24) := ⟨_, rfl⟩
  have hsz1 : w1.heap.size = w.heap.size + 1 := by rw [hw1]; simp
  have hb1 : Below w.heap.size w w1 := by rw [hw1]; exact (Below.refl _ _).alloc (Nat.le_refl _) _
  have hq0 : Blk w1 w.heap.size (.cells #[.slice gA g.nodes.length gc, .int .i64 g.root] 24 (0, 0)) := by rw [hw1]; exact Blk.new' _ _ _ rfl
  have hcell : ∀ W, BelC w1 W → (W.cell? ⟨w.heap.size, 0, none⟩ = some (.slice gA g.nodes.length gc) ∧ W.cell? ⟨w.heap.size, 1, none⟩ = some (.int .i64 g.root)) := fun W hW => ⟨BelC.old hW (hq0.cells.1 0), BelC.old hW (hq0.cells.1 1)⟩
  have hgW := hgK.keep (w' := w1) (S' := S1) (fun k hk => ⟨hk, hb1.block k (hS1 k hk)⟩)
  have hT1 : ∀ k, S1 k → k < w1.heap.size := fun k hk => Nat.lt_of_lt_of_le (hS1 k hk) hb1.size
  have hlies : ∀ W, BelC w1 W → LiesAt srtN W S1 g.nodes gA := fun W hW => lies_nds (NdsO.keep (fun k hk => ⟨hk, (hb1.trans (Below.mono (show BelC w1 W from hW) hb1.size)).block k (hS1 k hk)⟩) _ _ oG) hA
  have HLies := Lib.hid hlies
  have HGg := Lib.hid (fun W (hW : BelC w1 W) => great_c hT1 hgW hW)
  have HC := Lib.hid hcell
  have HB1 := Lib.hid hb1
  have HGW := Lib.hid hgW
  have HT1 := Lib.hid hT1
  have HF := Lib.hid hF
  obtain ⟨i0, hi, hz0, hz1, hz2⟩ := info_parts infoNode
  clear hgK hS1 hb1 hq0 hcell hgW hT1 hF oG hA hlies
  go_enter Try.func3, Try.ntmps3
  go_wp2_with fail
  rw [← hw1]
  clear hw1
  refine (alive_c (BelC.refl w1)).mono ?_
  rintro e w2 ⟨rfl, hb2⟩
  have HB2 := Lib.hid hb2
  obtain ⟨k0, k1⟩ := HC.out w2 hb2
  clear hb2
  go_upto_region 5 with (go_at_call 10; (with_reducible refine (HGg.out w2 HB2.out).mono ?_); rintro e w3 ⟨⟨z, rfl⟩, hb3⟩; have HB3 := Lib.hid hb3; have hx3 := HC.out w3 hb3; clear hb3; by_cases hz : (1000 : Int) < z)
  · go_ret
    exact ⟨rfl, HB1.out.trans (Below.mono HB3.out HB1.out.size)⟩
  have hb3 := HB3.out
  have hz13 := Below.size hb3
  have hc3 : ∀ W, BelC w3 W → (W.cell? ⟨w.heap.size, 0, none⟩ = some (.slice gA g.nodes.length gc) ∧ W.cell? ⟨w.heap.size, 1, none⟩ = some (.int .i64 g.root)) := fun W hW => HC.out W (Below.trans hb3 (Below.mono hW (Below.size hb3)))
  have hl3 : ∀ W, BelC w3 W → LiesAt srtN W S1 g.nodes gA := fun W hW => HLies.out W (Below.trans hb3 (Below.mono hW (Below.size hb3)))
  have HC3 := Lib.hid hc3
  have HL3 := Lib.hid hl3
  have hS3 : ∀ k, S1 k → k < w3.heap.size := fun k hk => Nat.lt_of_lt_of_le (HT1.out k hk) hz13
  have HS3 := Lib.hid hS3
  rename_i Q' hzz K hKi
  have hK : ∀ (pb gg : Nat) (wA : Option Addr) (wc : Nat) (W : World), Was w1 w3 W S1 g pb wA wc → Exit.then K Q' Exit.normal { tmps := #[.agg #[.slice gA g.nodes.length gc, .int .i64 g.root], .pointer (some ⟨w.heap.size, 0, none⟩), .bool false, .pointer (some ⟨pb, 0, none⟩), undef, undef, undef, undef, .bool true, .bool false, .agg #[.slice gA g.nodes.length gc, .int .i64 g.root], .int .i64 z, .bool (decide (1000 < z)),
      .pointer (some ⟨w.heap.size, 1, none⟩), .int .i64 g.root, .slice (some ⟨gg, 0, none⟩) 0 0, .pointer (some ⟨w.heap.size, 0, none⟩), .slice gA g.nodes.length gc, .slice wA g.nodes.length wc, .agg #[.slice wA g.nodes.length wc, .int .i64 g.root],
      undef, undef, undef, undef, undef, undef, undef, undef, undef, undef, undef, undef, undef, undef, undef, undef, undef, undef, undef, undef, undef, undef, undef, undef, undef, undef, undef, undef, undef, undef, undef, undef, undef, undef, undef, undef, undef, undef, undef, undef, undef, undef, undef, undef, undef, undef, undef, undef, undef, undef, undef, undef, undef, undef, undef, undef, undef, undef, undef, undef], defers := [] } W := by
    intro pb gg wA wc wB hwas
    have hb1B : BelC w1 wB := Below.trans hb3 (Below.mono hwas.bel (Below.size hb3))
    have hgB := HGW.out.keep (w' := wB) (S' := S1) (fun k hk => ⟨hk, Below.block hb1B k (HT1.out k hk)⟩)
    have hSB : ∀ k, S1 k → k < wB.heap.size := fun k hk => Nat.lt_of_lt_of_le (HT1.out k hk) (Below.size hb1B)
    have htr := fun W (hW : BelC wB W) => dtrim_d HF.out hSB hgB hW
    have hrt := fun W (hW : BelC wB W) => rtrim_d HF.out (by omega) hSB hgB hW
    obtain ⟨T, hT⟩ : ∃ T, T = g.trimU := ⟨_, rfl⟩
    rw [← hT] at htr hrt
    have HTr := Lib.hid htr
    have HRt := Lib.hid hrt
    clear htr hrt hT
    have hcB : ∀ W, BelC wB W → (W.cell? ⟨w.heap.size, 0, none⟩ = some (.slice gA g.nodes.length gc) ∧ W.cell? ⟨w.heap.size, 1, none⟩ = some (.int .i64 g.root)) := fun W hW => HC.out W (Below.trans hb1B (Below.mono hW (Below.size hb1B)))
    have HCB := Lib.hid hcB
    have hxB := hcB wB (BelC.refl _)
    have hbB := BelC.refl wB
    have HWas := Lib.hid hwas
    have H1B := Lib.hid hb1B
    have HGB := Lib.hid hgB
    have HSB := Lib.hid hSB
    clear hwas hb1B hgB hSB hcB hb3 hc3 hl3 hS3
    refine hKi _ _ ?_
    go_wp2_with fail
    rename_i K2 hKi2
    have hK2 : ∀ (ab bb : Nat) (aA : Option Addr) (ac : Nat) (bA : Option Addr) (bc : Nat) (W : World), Two wB W T ab bb aA ac bA bc → Exit.then K2 Q' Exit.normal { tmps := #[.agg #[.slice gA g.nodes.length gc, .int .i64 g.root], .pointer (some ⟨w.heap.size, 0, none⟩), .bool false, .pointer (some ⟨pb, 0, none⟩), .pointer (some ⟨ab, 0, none⟩), .pointer (some ⟨bb, 0, none⟩), undef, undef, .bool true, .bool false, .agg #[.slice gA g.nodes.length gc, .int .i64 g.root], .int .i64 z, .bool (decide (1000 < z)),
      .pointer (some ⟨w.heap.size, 1, none⟩), .int .i64 g.root, .slice (some ⟨gg, 0, none⟩) 0 0, .pointer (some ⟨w.heap.size, 0, none⟩), .slice gA g.nodes.length gc, .slice wA g.nodes.length wc, .agg #[.slice wA g.nodes.length wc, .int .i64 g.root],
      .agg #[.slice gA g.nodes.length gc, .int .i64 g.root], .agg #[.slice aA T.nodes.length ac, .int .i64 0], .agg #[.slice gA g.nodes.length gc, .int .i64 g.root], .agg #[.slice bA T.nodes.length bc, .int .i64 0],
      undef, undef, undef, undef, undef, undef, undef, undef, undef, undef, undef, undef, undef, undef, undef, undef, undef, undef, undef, undef, undef, undef, undef, undef, undef, undef, undef, undef, undef, undef, undef, undef, undef, undef, undef, undef, undef, undef, undef, undef, undef, undef, undef, undef, undef, undef, undef, undef, undef, undef, undef, undef, undef, undef, undef, undef], defers := [] } W := by
      intro ab bb aA ac bA bc wC htwo
      have hb1C : BelC w1 wC := Below.trans H1B.out (Below.mono htwo.bel (Below.size H1B.out))
      have hgC := HGW.out.keep (w' := wC) (S' := S1) (fun k hk => ⟨hk, Below.block hb1C k (HT1.out k hk)⟩)
      have hSC : ∀ k, S1 k → k < wC.heap.size := fun k hk => Nat.lt_of_lt_of_le (HT1.out k hk) (Below.size hb1C)
      have hcC : ∀ W, BelC wC W → (W.cell? ⟨w.heap.size, 0, none⟩ = some (.slice gA g.nodes.length gc) ∧ W.cell? ⟨w.heap.size, 1, none⟩ = some (.int .i64 g.root) ∧ W.cell? ⟨ab, 0, none⟩ = some (.slice aA T.nodes.length ac) ∧ W.cell? ⟨ab, 1, none⟩ = some (.int .i64 0) ∧ W.cell? ⟨bb, 0, none⟩ = some (.slice bA T.nodes.length bc) ∧ W.cell? ⟨bb, 1, none⟩ = some (.int .i64 0)) := fun W hW => by
        obtain ⟨h1, h2⟩ := HC.out W (Below.trans hb1C (Below.mono hW (Below.size hb1C)))
        exact ⟨h1, h2, BelC.old hW (htwo.blkA.cells.1 0), BelC.old hW (htwo.blkA.cells.1 1), BelC.old hW (htwo.blkB.cells.1 0), BelC.old hW (htwo.blkB.cells.1 1)⟩
      have L1 := Lib.hid (fun W (hW : BelC wC W) => check_c hSC hgC hW)
      have L2 := Lib.hid (fun W (hW : BelC wC W) => rcheck_c hSC hgC hW)
      have L3 := Lib.hid (fun (X W : World) (hX : BelC wC X) (hW : BelC X W) => reach_e hSC hgC hX hW)
      have L4 := Lib.hid (fun (X W : World) (hX : BelC wC X) (hW : BelC X W) => rreach_e hSC hgC hX hW)
      have L5 := Lib.hid (fun (X W : World) (hX : BelC wC X) (hW : BelC X W) => free_e hSC hgC hX hW)
      have L6 := Lib.hid (fun (X W : World) (hX : BelC wC X) (hW : BelC X W) => rfree_e hSC hgC hX hW)
      have hav : GrV wC (fun k => k < wC.heap.size) T (.agg #[.slice aA T.nodes.length ac, .int .i64 0]) := htwo.av.keep (fun k hk => ⟨hk.2.1, rfl⟩)
      have L7 := Lib.hid (fun W (hW : BelC wC W) => gequal_c (b := true) (fun k (hk : k < wC.heap.size) => Nat.lt_of_lt_of_le hk (Below.size hW)) (hav.keep (fun k hk => ⟨hk, Below.block hW k hk⟩)) (fun k (hk : k < wC.heap.size) => Nat.lt_of_lt_of_le hk (Below.size hW)) (htwo.bv.keep (fun k hk => ⟨hk, Below.block hW k hk⟩)) ⟨fun _ => rfl, fun _ => rfl⟩ hW)
      have HCC := Lib.hid hcC
      have hxC := hcC wC (BelC.refl _)
      have hbC := BelC.refl wC
      have HTwo := Lib.hid htwo
      have H1C := Lib.hid hb1C
      obtain ⟨cg, hcg⟩ : ∃ c, c = g.code := ⟨_, rfl⟩
      rw [← hcg] at L1 L2
      obtain ⟨R, hR⟩ : ∃ R, R = g.reachU := ⟨_, rfl⟩
      obtain ⟨F, hF2⟩ : ∃ F, F = g.reachU.filter g.fr := ⟨_, rfl⟩
      rw [← hR] at L3 L4
      rw [← hF2] at L5 L6
      clear hb1C hgC hSC hcC hav htwo hcg hR hF2 hbB hxB
      refine hKi2 _ _ ?_
      go_wp2_with fail
      go_region_held3 (fun W => W.cell? ⟨w.heap.size, 0, none⟩ = some (.slice gA g.nodes.length gc) ∧ W.cell? ⟨w.heap.size, 1, none⟩ = some (.int .i64 g.root) ∧ W.cell? ⟨ab, 0, none⟩ = some (.slice aA T.nodes.length ac) ∧ W.cell? ⟨ab, 1, none⟩ = some (.int .i64 0) ∧ W.cell? ⟨bb, 0, none⟩ = some (.slice bA T.nodes.length bc) ∧ W.cell? ⟨bb, 1, none⟩ = some (.int .i64 0))
        (first | with_reducible exact hxC | (with_reducible refine HCC.out _ ?_; (· repeat (first | with_reducible assumption | with_reducible exact BelC.refl _ | with_reducible refine BelC.drew ?_))))
        (first
          | (go_at_call 13; (with_reducible refine (L1.out _ ?_).mono ?_); (· repeat (first | with_reducible assumption | with_reducible exact BelC.refl _ | with_reducible refine BelC.drew ?_)); rintro e w9 ⟨rfl, hb9⟩)
          | (go_at_call 14; (with_reducible refine (L2.out _ ?_).mono ?_); (· repeat (first | with_reducible assumption | with_reducible exact BelC.refl _ | with_reducible refine BelC.drew ?_)); rintro e w9 ⟨rfl, hb9⟩)
          | (go_at_call 16; (with_reducible refine (L3.out wC _ (BelC.refl _) ?_).mono ?_); (· repeat (first | with_reducible assumption | with_reducible exact BelC.refl _ | with_reducible refine BelC.drew ?_)); rintro e w10 ⟨A3, c3, rfl, hl3, hm3, hst3, hb10, _⟩; have HSt3 := Lib.hid hst3; have HB10 := Lib.hid hb10; clear hst3)
          | (go_at_call 17; (with_reducible refine (L4.out w10 _ HB10.out ?_).mono ?_); (· repeat (first | with_reducible assumption | with_reducible exact BelC.refl _ | with_reducible refine BelC.drew ?_)); rintro e w11 ⟨A4, c4, rfl, hl4, hm4, hst4, hb11, hx11⟩; have HSt4 := Lib.hid hst4; have HB11 := Lib.hid hb11; have HX11 := Lib.hid hx11; clear hst4 hx11)
          | (go_at_call 15; (with_reducible refine (ints_e HSt3.out HSt4.out rfl hl3 hm3 hl4 hm4 HB11.out HX11.out ?_).mono ?_); (· repeat (first | with_reducible assumption | with_reducible exact BelC.refl _ | with_reducible refine BelC.drew ?_)); rintro e w12 ⟨rfl, hb12⟩)
          | (go_at_call 18; (with_reducible refine (L5.out wC _ (BelC.refl _) ?_).mono ?_); (· repeat (first | with_reducible assumption | with_reducible exact BelC.refl _ | with_reducible refine BelC.drew ?_)); rintro e w13 ⟨A5, c5, rfl, hl5, hm5, hst5, hb13, _⟩; have HSt5 := Lib.hid hst5; have HB13 := Lib.hid hb13; clear hst5)
          | (go_at_call 19; (with_reducible refine (L6.out w13 _ HB13.out ?_).mono ?_); (· repeat (first | with_reducible assumption | with_reducible exact BelC.refl _ | with_reducible refine BelC.drew ?_)); rintro e w14 ⟨A6, c6, rfl, hl6, hm6, hst6, hb14, hx14⟩; have HSt6 := Lib.hid hst6; have HB14 := Lib.hid hb14; have HX14 := Lib.hid hx14; clear hst6 hx14)
          | (go_at_call 15; (with_reducible refine (ints_e HSt5.out HSt6.out rfl hl5 hm5 hl6 hm6 HB14.out HX14.out ?_).mono ?_); (· repeat (first | with_reducible assumption | with_reducible exact BelC.refl _ | with_reducible refine BelC.drew ?_)); rintro e w15 ⟨rfl, hb15⟩)
          | (go_at_call 20; (with_reducible refine (L7.out _ ?_).mono ?_); (· repeat (first | with_reducible assumption | with_reducible exact BelC.refl _ | with_reducible refine BelC.drew ?_)); rintro e w16 ⟨rfl, hb16⟩))
      have hav : GrV w16 (New wB.heap.size w16) T (.agg #[.slice aA T.nodes.length ac, .int .i64 0]) := HTwo.out.av.keep (fun k hk => ⟨hk.of hb16, Below.block hb16 k hk.2.1⟩)
      have hbB16 : BelC wB w16 := Below.trans HTwo.out.bel (Below.mono hb16 (Below.size HTwo.out.bel))
      have hab := (HCC.out w16 hb16).2.2.1
      obtain ⟨aA', ac', e', hal, ham, haN⟩ := hav
      simp only [Value.agg.injEq, List.cons.injEq, Array.mk.injEq, Value.slice.injEq, true_and, and_true] at e'
      obtain ⟨⟨rfl, rfl⟩, _⟩ := e'
      unfold maxLen at ham
      have HAN := Lib.hid haN
      have HB16 := Lib.hid hbB16
      have hbt := Blot.refl hbB16
      have HBt := Lib.hid hbt
      have HAb := Lib.hid hab
      clear hbC hxC haN hbB16 hbt L1 L2 L3 L4 L5 L6 L7
      go_wp2
      go_loopw [54] (fun v54 wr => ∃ (i : Nat), v54 = .int .i64 i ∧ i ≤ T.nodes.length ∧ Blot wB w16 wr) (fun v54 _ => T.nodes.length - (intOf v54).toNat)
      case atStart => exact ⟨0, rfl, Nat.zero_le _, HBt.out⟩
      case round =>
        obtain ⟨i, rfl, hi', hbl⟩ := hrel
        have p0 := hbl.old _ _ HAb.out (by simp)
        have HBl := Lib.hid hbl
        clear hbl
        by_cases hlt : i < T.nodes.length
        · obtain ⟨nb, no, rfl, hnp⟩ := NdsO.get _ _ HAN.out i hlt
          obtain ⟨X, hX⟩ : ∃ X, X = T.nodes[i] := ⟨_, rfl⟩
          rw [← hX] at hnp
          obtain ⟨xA, xB, xL, xM, f0, f1, f2, f3, f4, h1, h2, h3, h4, h5, h6, h7, h8⟩ := hnp.val
          have p2 := HBl.out.old _ _ f2 (by simp)
          have HF2 := Lib.hid f2
          have HX6 := Lib.hid h6
          unfold maxLen at h3
          clear hX hnp f0 f1 f2 f3 f4 h1 h4 h5 h6 h7 h8
          go_wp2
          go_loopw [64] (fun v64 wm => ∃ (k : Nat), v64 = .int .i64 k ∧ k ≤ X.args.length ∧ Blot wB w16 wm) (fun v64 _ => X.args.length - (intOf v64).toNat)
          case atStart => exact ⟨0, rfl, Nat.zero_le _, HBl.out⟩
          case round =>
            obtain ⟨k, rfl, hk', hbl2⟩ := hrel
            have HBl2 := Lib.hid hbl2
            by_cases hlt2 : k < X.args.length
            · obtain ⟨xb, xo, rfl, hnew, d1⟩ := IntsO.get _ _ HX6.out k hlt2
              have q0 := hbl2.old _ _ HAb.out (by simp)
              have q2 := hbl2.old _ _ HF2.out (by simp)
              obtain ⟨m, q3⟩ := hbl2.int _ _ d1
              have q4 : wr.frozen? ⟨xb, xo + k, none⟩ = false := by rw [hbl2.fr]; exact hnew.2.2 _
              have hst := fun n => hbl2.set (m := n) hnew.1 d1
              have HSt := Lib.hid hst
              clear hbl2 d1 hnew hst p0 p2
              go_wp2
              go_roundw
              case rel => exact ⟨k + 1, by go_num, by omega, HSt.out _⟩
              case measure => simp [intOf]; omega
            · clear hbl2
              go_wp2
              go_roundw
              case rel => exact ⟨i + 1, by go_num, by omega, HBl2.out⟩
              case measure => simp [intOf]; omega
        · have hbw : BelC wB wr := HBl.out.bel
          have hb1w : BelC w1 wr := Below.trans H1B.out (Below.mono hbw (Below.size H1B.out))
          obtain ⟨q0, q1⟩ := HC.out wr hb1w
          have q2 := BelC.old hbw (HWas.out.blk.cells.1 0)
          have q3 := BelC.old hbw (HWas.out.blk.cells.1 1)
          obtain ⟨wA', wc', e', r1, r2, r3⟩ := HWas.out.row.nds (S' := fun k => k < wB.heap.size) (fun k hk => HSB.out k hk) (fun k _ hk => hk)
          simp only [Value.slice.injEq, true_and] at e'
          obtain ⟨rfl, rfl⟩ := e'
          have hwv : GrV wr (fun k => k < wB.heap.size) g (.agg #[.slice wA g.nodes.length wc, .int .i64 g.root]) := ⟨_, _, rfl, r1, r2, NdsO.keep (fun k hk => ⟨hk, Below.block hbw k hk⟩) _ _ r3⟩
          have heq := gequal_c (b := true) (fun k hk => Nat.lt_of_lt_of_le (HT1.out k hk) (Below.size hb1w)) (HGW.out.keep (w' := wr) (S' := S1) (fun k hk => ⟨hk, Below.block hb1w k (HT1.out k hk)⟩)) (fun k (hk : k < wB.heap.size) => Nat.lt_of_lt_of_le hk (Below.size hbw)) hwv ⟨fun _ => rfl, fun _ => rfl⟩ hbw
          have HEq := Lib.hid heq
          clear hbw hb1w r1 r2 r3 hwv heq p0
          go_wp2_with (go_at_call 20; (with_reducible refine HEq.out.mono ?_); rintro e w17 ⟨rfl, hb17⟩)
          go_ret
          exact ⟨rfl, HB1.out.trans (Below.mono (Below.trans H1B.out (Below.mono hb17 (Below.size H1B.out))) HB1.out.size)⟩
    have HK2 := Lib.hid hK2
    clear hK2 hKi2
    go_region_held3 (fun W => W.cell? ⟨w.heap.size, 0, none⟩ = some (.slice gA g.nodes.length gc) ∧ W.cell? ⟨w.heap.size, 1, none⟩ = some (.int .i64 g.root))
      (first | with_reducible exact hxB | (with_reducible refine HCB.out _ ?_; (· repeat (first | with_reducible assumption | with_reducible exact BelC.refl _ | with_reducible refine BelC.alloc ?_ _ | with_reducible refine BelC.drew ?_ | (with_reducible refine BelC.setCell ?_ ?_ _; rotate_left; (· first | omega | (simp <;> omega)))))))
      (first | (go_at_call 11; (with_reducible refine (HTr.out _ ?_).mono ?_); (· repeat (first | with_reducible assumption | with_reducible exact BelC.refl _ | with_reducible refine BelC.alloc ?_ _ | with_reducible refine BelC.drew ?_)); rintro e w7 ⟨tA7, tc7, rfl, ht7, hb7⟩; refine cut_ (P := BelC wB w7) (Below.trans ?_ (Below.mono hb7 ?_)) (fun hbc7 => ?_); (· show BelC wB _; (· repeat (first | with_reducible assumption | with_reducible exact BelC.refl _ | with_reducible refine BelC.alloc ?_ _ | with_reducible refine BelC.drew ?_))); (· first | omega | (simp <;> omega)); have hz7 := Below.size hbc7; have hs7 := Below.size hb7; (try simp at hs7); (first | (refine cut_ (P := Blk w7 (wB.heap.size) (.cells #[.slice none 0 0, .int .i64 0] 24)) ((Below.block hb7 _ ?_).trans ?_) (fun hq70 => ?_); (· first | omega | (simp <;> omega)); (· show Blk _ _ _; (· repeat (first | with_reducible assumption | (with_reducible refine Blk.new' _ _ _ ?_; (· first | omega | (simp <;> omega))) | with_reducible refine Blk.alloc ?_ _ | with_reducible refine Blk.drew ?_))); obtain ⟨hcq70, hfq70⟩ := hq70.cells; have hzq70 := hq70.lt) | skip); (first | (refine cut_ (P := Blk w7 (wB.heap.size + 1) (.cells #[.slice none 0 0, .int .i64 0] 24)) ((Below.block hb7 _ ?_).trans ?_) (fun hq71 => ?_); (· first | omega | (simp <;> omega)); (· show Blk _ _ _; (· repeat (first | with_reducible assumption | (with_reducible refine Blk.new' _ _ _ ?_; (· first | omega | (simp <;> omega))) | with_reducible refine Blk.alloc ?_ _ | with_reducible refine Blk.drew ?_))); obtain ⟨hcq71, hfq71⟩ := hq71.cells; have hzq71 := hq71.lt) | skip); have HT7 := Lib.hid ht7; clear ht7) | (go_at_call 12; (with_reducible refine (HRt.out _ ?_).mono ?_); (· repeat (first | with_reducible assumption | with_reducible exact BelC.refl _ | with_reducible refine BelC.alloc ?_ _ | with_reducible refine BelC.drew ?_)); rintro e w8 ⟨tA8, tc8, rfl, ht8, hb8⟩; refine cut_ (P := BelC wB w8) (Below.trans ?_ (Below.mono hb8 ?_)) (fun hbc8 => ?_); (· show BelC wB _; (· repeat (first | with_reducible assumption | with_reducible exact BelC.refl _ | with_reducible refine BelC.alloc ?_ _ | with_reducible refine BelC.drew ?_))); (· first | omega | (simp <;> omega)); have hz8 := Below.size hbc8; have hs8 := Below.size hb8; (try simp at hs8); (first | (refine cut_ (P := Blk w8 (wB.heap.size) (.cells #[.slice none 0 0, .int .i64 0] 24)) ((Below.block hb8 _ ?_).trans ?_) (fun hq80 => ?_); (· first | omega | (simp <;> omega)); (· show Blk _ _ _; (· repeat (first | with_reducible assumption | (with_reducible refine Blk.new' _ _ _ ?_; (· first | omega | (simp <;> omega))) | with_reducible refine Blk.alloc ?_ _ | with_reducible refine Blk.drew ?_))); obtain ⟨hcq80, hfq80⟩ := hq80.cells; have hzq80 := hq80.lt) | skip); (first | (refine cut_ (P := Blk w8 (wB.heap.size + 1) (.cells #[.slice none 0 0, .int .i64 0] 24)) ((Below.block hb8 _ ?_).trans ?_) (fun hq81 => ?_); (· first | omega | (simp <;> omega)); (· show Blk _ _ _; (· repeat (first | with_reducible assumption | (with_reducible refine Blk.new' _ _ _ ?_; (· first | omega | (simp <;> omega))) | with_reducible refine Blk.alloc ?_ _ | with_reducible refine Blk.drew ?_))); obtain ⟨hcq81, hfq81⟩ := hq81.cells; have hzq81 := hq81.lt) | skip); (first | (refine cut_ (P := Blk w8 (w7.heap.size) (.cells #[.slice none 0 0, .int .i64 0] 24)) ((Below.block hb8 _ ?_).trans ?_) (fun hq82 => ?_); (· first | omega | (simp <;> omega)); (· show Blk _ _ _; (· repeat (first | with_reducible assumption | (with_reducible refine Blk.new' _ _ _ ?_; (· first | omega | (simp <;> omega))) | with_reducible refine Blk.alloc ?_ _ | with_reducible refine Blk.drew ?_))); obtain ⟨hcq82, hfq82⟩ := hq82.cells; have hzq82 := hq82.lt) | skip); (first | (refine cut_ (P := Blk w8 (w7.heap.size + 1) (.cells #[.slice none 0 0, .int .i64 0] 24)) ((Below.block hb8 _ ?_).trans ?_) (fun hq83 => ?_); (· first | omega | (simp <;> omega)); (· show Blk _ _ _; (· repeat (first | with_reducible assumption | (with_reducible refine Blk.new' _ _ _ ?_; (· first | omega | (simp <;> omega))) | with_reducible refine Blk.alloc ?_ _ | with_reducible refine Blk.drew ?_))); obtain ⟨hcq83, hfq83⟩ := hq83.cells; have hzq83 := hq83.lt) | skip); have HT8 := Lib.hid ht8; clear ht8))
    all_goals with_reducible refine HK2.out _ _ _ _ _ _ _ ?_
    all_goals refine Two.of HT7.out HT8.out ?_ ?_ ?_ ?_ ?_ ?_ ?_ ?_ ?_ ?_
    all_goals try (first | omega | (simp <;> omega))
    all_goals try (· refine Below.trans ?_ (Below.mono hb8 ?_); (· show BelC _ _; (· repeat (first | with_reducible assumption | with_reducible exact BelC.refl _ | with_reducible refine BelC.alloc ?_ _ | with_reducible refine BelC.drew ?_))); (· first | omega | (simp <;> omega)))
    all_goals try (· repeat (first | with_reducible assumption | with_reducible refine BelC.alloc ?_ _ | (with_reducible refine BelC.setCell ?_ ?_ _; rotate_left; (· first | omega | (simp <;> omega)))))
    all_goals try (· repeat (first | with_reducible exact Keeps.refl _ _ | with_reducible refine Keeps.alloc ?_ _ | with_reducible refine Keeps.setCell ?_ (fun _ => by simp) _))
    all_goals first
      | with_reducible exact Blk.new' _ _ _ rfl
      | with_reducible exact (Blk.new' _ _ _ rfl).alloc _
      | with_reducible exact Blk.new' _ _ _ (by simp)
      | (with_reducible refine Blk.setA (a := .slice none 0 0) (b := .int .i64 0) ?_; with_reducible assumption)
      | ((with_reducible refine Blk.setB (a := .slice none 0 0) (b := .int .i64 0) ?_ ?_); (· with_reducible assumption); (· omega))
      | ((with_reducible refine Blk.setC (a := .slice none 0 0) (b := .int .i64 0) ?_ ?_); (· with_reducible assumption); (· omega))
  have HK := Lib.hid hK
  clear hK hKi hb3 hc3 hl3 hS3 k0 k1
  have hbr := BelC.refl w3
  go_region_held3 (fun W => W.cell? ⟨w.heap.size, 0, none⟩ = some (.slice gA g.nodes.length gc) ∧ W.cell? ⟨w.heap.size, 1, none⟩ = some (.int .i64 g.root))
    (first | with_reducible exact hx3 | (with_reducible refine HC3.out _ ?_; (· repeat (first | with_reducible assumption | with_reducible exact BelC.refl _ | with_reducible refine BelC.alloc ?_ _ | with_reducible refine BelC.drew ?_ | (with_reducible refine BelC.setCell ?_ ?_ _; rotate_left; (· first | omega | (simp <;> omega)))))))
    (first | (refine step_cat2 (T := srtN) (base := w3.heap.size) (v := .slice (some ⟨_, 0, none⟩) 0 0) (S := S1) (es := []) (ms := g.nodes) rfl (.tmp 15) (.tmp 17) 22 36 rfl i0 _ 80 Try.underlying22 hi hz0 hz1 hz2 rfl rfl (by simp) (RowG.emptyS ?_ ?_ HS3.out) gA gc rfl (HL3.out _ ?_) ?_ ?_ ?_ ?_; (· show Blk _ _ _; (· repeat (first | (with_reducible refine Blk.new' _ _ _ ?_; (· first | omega | (simp <;> omega))) | with_reducible refine Blk.alloc ?_ _ | with_reducible refine Blk.drew ?_))); (· first | omega | (simp <;> omega)); (· repeat (first | with_reducible assumption | with_reducible exact BelC.refl _ | with_reducible refine BelC.alloc ?_ _ | with_reducible refine BelC.drew ?_)); (· simp [maxLen]; omega); (· simpa using hb8); (· first | omega | (simp <;> omega)); intro v6 w6 hrow6 hk6 hb6; rw [List.nil_append] at hrow6; obtain ⟨A6, c6, rfl, hn6, hm6⟩ := hrow6.form; refine cut_ (P := BelC w3 w6) ?_ (fun hbc6 => ?_); (· refine Below.trans ?_ (hk6.below ?_ ?_); (· show BelC _ _; (· repeat (first | with_reducible assumption | with_reducible exact BelC.refl _ | with_reducible refine BelC.alloc ?_ _ | with_reducible refine BelC.drew ?_))); (· first | omega | (simp <;> omega)); (· intro i hi e; simp [Value.ownBlock] at e <;> omega)); (first | (refine cut_ (P := Blk w6 (w3.heap.size + 1) (.cells #[.slice none 0 0, .int .i64 0] 24)) ?_ (fun hq6 => ?_); (· refine (hk6.block (w3.heap.size + 1) ?_ ?_).trans ?_; (· first | omega | (simp <;> omega)); (· intro e; simp [Value.ownBlock] at e <;> omega); (· show Blk _ _ _; (· repeat (first | (with_reducible refine Blk.new' _ _ _ ?_; (· first | omega | (simp <;> omega))) | with_reducible refine Blk.alloc ?_ _ | with_reducible refine Blk.drew ?_)))); obtain ⟨hcq, hfq⟩ := hq6.cells) | (refine cut_ (P := Blk w6 w3.heap.size (.cells #[.slice none 0 0, .int .i64 0] 24)) ?_ (fun hq6 => ?_); (· refine (hk6.block w3.heap.size ?_ ?_).trans ?_; (· first | omega | (simp <;> omega)); (· intro e; simp [Value.ownBlock] at e <;> omega); (· show Blk _ _ _; (· repeat (first | (with_reducible refine Blk.new' _ _ _ ?_; (· first | omega | (simp <;> omega))) | with_reducible refine Blk.alloc ?_ _ | with_reducible refine Blk.drew ?_)))); obtain ⟨hcq, hfq⟩ := hq6.cells) | skip)))
  all_goals with_reducible refine HK.out _ _ _ _ _ ?_
  all_goals first
    | with_reducible exact Was.late hbc6 hrow6
    | ((with_reducible refine Was.early hbc6 hrow6 ?_ ?_ ?_ HS3.out); (· exact hq6); (· omega); (· intro e; rcases hb6 with h | h <;> (rw [e] at h; simp [Value.ownBlock] at h <;> omega)))
set_option maxRecDepth 100000 in
theorem graphchecks_lifted (os : Os) (started : os.Started) (H : Type) (enc : TypeId × Value → H) :
    ReturnsInHanded {} Try.checked os 3 .any (Rows.graphChecksSpec.pre6 enc Try.prog Try.f3 Rows.graphChecksRow.domain false) (Rows.graphChecksSpec.post enc Try.prog Try.f3 false true false false) := by
  refine returnsInHanded_of_change_sized (C := Try.checked) lawOwn started (by kernel_rfl) Try.func3
    (ChangeSpec.witness6 (enc := enc) (C := Try.checked) false ⟨#[], #[.agg #[.slice none 0 0, .int .i64 0]], []⟩ 8 (by kernel_rfl) (by kernel_rfl) (by kernel_rfl) (by kernel_rfl)) ?_
  intro W base args ds gs before hval0 hW _ hsz0 _
  have hsz : (DataW.weightsEach Try.prog (Try.f3.params.toList ++ Rows.graphChecksSpec.plain.varTypes Try.prog) (ds ++ gs)).all (· ≤ reachBytes) = true := hsz0
  clear hsz0
  have hval : ∀ (j : Nat) t v, Try.f3.params[j]? = some t → args[j]? = some v → Value.okWide Try.prog W .any base t v := hval0
  have hW' := hW
  obtain ⟨p, q, hA0, hV, rfl, _, _⟩ := hW
  have hA : DataW.TrodAll enc Try.prog W 0 (fun _ => true) true Try.f3.params.toList args.toList ds p := hA0
  rw [Try.params3] at hA hval hsz
  obtain ⟨v0, d0, rfl, rfl, h0⟩ := trodAll_one hA
  obtain ⟨rfl, rfl⟩ := trodVars_none hV
  have hsz1 : (DataW.weightsEach Try.prog [24] [d0]).all (· ≤ reachBytes) = true := hsz
  have hwt := fun n hn => of_decide_eq_true (List.all_eq_true.1 hsz1 n hn)
  obtain ⟨g, hg, hF, h80, _⟩ := open_graph (hval 0 24 v0 rfl rfl) h0 (fun n hn => hwt n (DataW.weights_mem_each (j := 0) (t := 24) (d := d0) rfl rfl n hn))
  clear hA0 hval0
  simp only [List.append_nil] at hW'
  have hlt : ∀ x ∈ p, x.block < W.heap.size := fun x hx => by simpa using hW'.lt x (by simpa using hx)
  refine (lawchecks_any W _ g v0 hF h80 (fun _ h => h) hg).mono fun e W' ⟨he, hnx⟩ => ?_
  subst he
  refine ⟨_, rfl, _, _, _, [], p, [], hW', ?_, ?_, rfl, hnx.frame _, fun h => by cases h⟩
  · exact trodAll_mk1 (shut_bool Try.underlying4 true)
  · exact trodAll_mk1 (Below.trod lawLaid (by kernel_rfl) (of_decide_eq_true (by kernel_rfl)) h0 hnx hlt)

theorem graphchecks_holds : Rows.GraphChecksSaid :=
  OpenClaim.holds_of_wide 3 Try.f3 rfl rfl rfl rfl rfl rfl rfl ⟨rfl, rfl, rfl, rfl, rfl⟩ rfl rfl rfl rfl rfl (by kernel_rfl) Try.func3 (by kernel_rfl)
    (of_decide_eq_true (by kernel_rfl)) (by unfold Func.isWrapper; first | (rw [if_pos (by decide +kernel)]; kernel_rfl) | (rw [if_neg (by decide +kernel)]; exact ⟨rfl, rfl⟩))
    (fun os started H enc _ => graphchecks_lifted os started H enc)

#print axioms graphchecks_holds
end Go.Proofs.Ytipehahfbcbigaa


/-
  graph.match's look.
-/
import Derived.Test.YtipehahfbcbigaaDMap
namespace Go.Proofs.Ytipehahfbcbigaa
open Go.RowKit

theorem infoPair : (Try.prog.info? 71).map (fun i => (i.zero, i.size, i.bytes)) = some (some (.agg #[.int .i64 0, .int .i64 0]), 2, 16) := by kernel_rfl
theorem zeroU (w : World) : (zeroValue 75).run Try.prog w = .ok (.agg #[]) w := by kernel_rfl

theorem MtA.mapped {w w0 w3 : World} {g h : RGr} {gA hA : Option Addr} {gc hc B mB mapB pB sB : Nat} {lv : Value} {p s : Nat → Nat} {L left : List (Nat × Nat)} {q : Nat × Nat} (a : MtA g h gA hA gc hc w0 B mB mapB pB sB w lv p s L left)
    (hm : w3.ownsMap Try.prog 71 (unitElem (H := Unit)) mapB (L.length + 1) ((setL L).put (pairL q) (.agg []))) (hg : w.grownBy w3 (some mapB)) : MtA g h gA hA gc hc w0 B mB mapB pB sB w3 lv p s (L ++ [q]) left := by
  have hk : Keeps (fun k => some mapB = some k) w w3 := Keeps.of_grown hg
  have hz := a.lB
  refine ⟨a.bel.trans (hk.below a.bel.size (fun i hi e => by injection e with e; have := a.la; omega)), (hk.block _ a.blk.lt (fun e => a.blk.not_map a.map (by injection e with e; exact e.symm))).trans a.blk, ?_, ?_, ?_, ?_, a.ps, a.lm, a.la, a.lp, a.ls, Nat.le_trans hz hk.size⟩
  · rw [List.length_append, setL_snoc]; exact hm
  · refine a.lft.keep hk (fun k e _ => ⟨fun e' => ?_, id⟩)
    injection e with e
    have := (a.lft.block e').1
    have := a.la
    omega
  · exact (hk.block _ a.par.lt (fun e => a.par.not_map a.map (by injection e with e; exact e.symm))).trans a.par
  · exact (hk.block _ a.siz.lt (fun e => a.siz.not_map a.map (by injection e with e; exact e.symm))).trans a.siz
/-- A pair more is left. -/
theorem MtA.pushed {w w0 W1 w6 : World} {g h : RGr} {gA hA : Option Addr} {gc hc B mB mapB pB sB : Nat} {lv v' : Value} {p s : Nat → Nat} {L left left' : List (Nat × Nat)} (a : MtA g h gA hA gc hc w0 B mB mapB pB sB w lv p s L left) (hb : Below w.heap.size w W1)
    (hr : RowG srtP 71 B w6 (fun _ => False) v' left') (hk : Keeps (fun k => lv.ownBlock = some k) W1 w6) (hv : v'.ownBlock = lv.ownBlock ∨ v'.ownBlock = some W1.heap.size) :
    MtA g h gA hA gc hc w0 B mB mapB pB sB (w6.setCell ⟨mB, 3, none⟩ v') v' p s L left' := by
  have h1 := a.new hb
  have hz := h1.lB
  have hown : ∀ k, lv.ownBlock = some k → B ≤ k := fun k e => (h1.lft.block e).1
  have lm := a.lm; have la := a.la; have lp := a.lp; have ls := a.ls
  have mp := a.mp; have ms := a.ms
  have hma := a.blk.not_map a.map
  have hF : ∀ k, (lv.ownBlock = some k ∨ k = mB) → k < B → k = mB := fun k e hk => by
    rcases e with e | e
    · have := hown k e; omega
    · exact e
  have k1 : Keeps (fun k => lv.ownBlock = some k ∨ k = mB) W1 (w6.setCell ⟨mB, 3, none⟩ v') := (hk.mono (fun i _ e => .inl e)).setCell (p := ⟨mB, 3, none⟩) (fun _ => .inr rfl) _
  have hn : v'.ownBlock ≠ some mB := by
    rcases hv with e | e
    · rw [e]; intro e'; have := hown _ e'; omega
    · rw [e]; intro e'; injection e' with e'; omega
  refine ⟨h1.bel.trans (k1.below h1.bel.size (fun i hi e => by have := hF i e (by omega); omega)), ?_, ?_, ?_, ?_, ?_, a.ps, a.lm, a.la, a.lp, a.ls, Nat.le_trans hz k1.size⟩
  · exact Blk.set ((hk.block _ (by omega) (fun e => by have := hown _ e; omega)).trans h1.blk) 3 v'
  · obtain ⟨es, clock, hb, r⟩ := h1.map
    exact ⟨es, clock, (k1.block _ (by omega) (fun e => hma (hF _ e (by omega)).symm)).trans hb, r⟩
  · exact hr.keep (F := fun k => k = mB) ((Keeps.refl (fun k => k = mB) w6).setCell (p := ⟨mB, 3, none⟩) (fun _ => rfl) _) (fun k e _ => ⟨fun e' => hn (e ▸ e'), id⟩)
  · exact (k1.block _ (by omega) (fun e => mp (hF _ e (by omega)).symm)).trans h1.par
  · exact (k1.block _ (by omega) (fun e => ms (hF _ e (by omega)).symm)).trans h1.siz

set_option maxRecDepth 100000 in
set_option maxHeartbeats 2000000 in
theorem look_r (w w0 : World) (g h : RGr) (gA hA : Option Addr) (gc hc B mB mapB pB sB : Nat) (lv : Value) (p s : Nat → Nat) (L left : List (Nat × Nat)) (q : Nat × Nat) (ha : MtA g h gA hA gc hc w0 B mB mapB pB sB w lv p s L left) (hL : ∀ x, x ∈ L → Small x) (hq : Small q) (hl : left.length ≤ 2199023255552) (hLl : L.length ≤ 2199023255552) :
    Calls Try.prog 41 #[.pointer (some ⟨mB, 0, none⟩), .agg #[.int .i64 (q.1 : Int), .int .i64 (q.2 : Int)]] w fun e w' => e = .returned (.tuple #[]) ∧ ∃ lv', MtA g h gA hA gc hc w0 B mB mapB pB sB w' lv' p s (G.look1 (L, left) q).1 (G.look1 (L, left) q).2 ∧ Keeps (fun k => k = mB ∨ k = mapB ∨ lv.ownBlock = some k) w w' := by
  obtain ⟨i0, hi, hz0, hz1, hz2⟩ := info_parts infoPair
  obtain ⟨q1, q2⟩ := q
  have hm := ha.blk.cells.1 2
  have hml := ha.blk.lt
  have hmne : mB ≠ w.heap.size := by omega
  have HA := Lib.hid ha
  obtain ⟨W1, hW1⟩ : ∃ W1, W1 = w.alloc (.cells #[.int .i64 (q1 : Int), .int .i64 (q2 : Int)] 71) := ⟨_, rfl⟩
  have ha1 : MtA g h gA hA gc hc w0 B mB mapB pB sB W1 lv p s L left := ha.new (by rw [hW1]; exact (Below.refl _ _).alloc (Nat.le_refl _) _)
  have hhas := has_setL L hL hq
  have hlk : ∀ W, W.ownsMap Try.prog 71 (unitElem (H := Unit)) mapB L.length (setL L) → (Instr.lookup 62 (.map (some mapB)) (.agg #[.int .i64 (q1 : Int), .int .i64 (q2 : Int)]) true).run Try.prog W = .ok (.tuple #[.agg #[], .bool (decide ((q1, q2) ∈ L))]) W := fun W hW => by
    obtain ⟨v, ps, hr, hv⟩ := hW.look_ok keyedP Try.underlying62 (zeroU W) unitElem_mk (keyOf_V hq)
    obtain ⟨rfl, _⟩ := unitElem_inv hv
    rw [hhas] at hr
    exact hr
  have l1 := hlk W1.drew ha1.map
  have l2 := hlk (W1.alloc (.cells #[] 75)).drew (ha1.map.alloc _)
  rw [hW1] at l1 l2
  have HA1 := Lib.hid ha1
  by_cases hin : (q1, q2) ∈ L
  · rw [decide_eq_true hin] at l1 l2
    have hl1 : G.look1 (L, left) (q1, q2) = (L, left) := by unfold G.look1; rw [if_pos hin]
    rw [hl1]
    clear ha ha1 hhas hlk hin hl1 hL hW1
    go_enter Try.func41, Try.ntmps41
    go_wp2
    go_region
    all_goals go_wp2
    all_goals go_end0
    all_goals exact ⟨rfl, lv, HA.out.new ((((Below.refl _ w).alloc (Nat.le_refl _) _).alloc (by simp) _).drew), (((Keeps.refl _ w).alloc _).alloc _).drew⟩
  · rw [decide_eq_false hin] at l1 l2
    have hl1 : G.look1 (L, left) (q1, q2) = (L ++ [(q1, q2)], left ++ [(q1, q2)]) := by unfold G.look1; rw [if_neg hin]
    rw [hl1]
    obtain ⟨W2, hW2⟩ : ∃ W2, W2 = (W1.alloc (.cells #[] 75)).drew.drew := ⟨_, rfl⟩
    have hb12 : Below W1.heap.size W1 W2 := by rw [hW2]; exact (((Below.refl _ _).alloc (Nat.le_refl _) _).drew).drew
    have ha2 := ha1.new hb12
    obtain ⟨w3, hrun, hown3, hgrow3⟩ := ha2.map.update (e := 75) keyedP Try.underlying62 (by unfold maxLen; omega) (keyOf_V hq) unitElem_mk
    have ha3 := ha2.mapped hown3 hgrow3
    have hpw : mapB < w.heap.size := HA.out.map.lt
    have hz2 : W2.heap.size = w.heap.size + 2 := by rw [hW2, hW1]; simp [World.drew]
    have hpr : ∀ j u, (#[.int .i64 (q1 : Int), .int .i64 (q2 : Int)] : Array Value)[j]? = some u → w3.cell? ⟨w.heap.size, j, none⟩ = some u := fun j u hu => by
      have h1 : W2.cell? ⟨w.heap.size, j, none⟩ = some u := by
        have hbk : Blk W2 w.heap.size (.cells #[.int .i64 (q1 : Int), .int .i64 (q2 : Int)] 71 (0, 0)) := by rw [hW2, hW1]; exact ((Blk.new' _ _ _ rfl).alloc _)
        rw [hbk.cells.1 j]; exact hu
      exact hgrow3.cell h1 (fun e => by have e' : w.heap.size = mapB := Option.some.inj e; omega)
    have r0 := hpr 0 _ rfl
    have r1 := hpr 1 _ rfl
    have r3 := ha3.blk.cells.1 3
    have z3 := ha3.blk.cells.2 3
    obtain ⟨lA, lc, hlv, hlc, hlm⟩ := ha3.lft.form
    subst hlv
    have HRowK := Lib.hid (fun W (hW : BelC w3 W) => (ha3.lft.keep (F := fun _ => False) (Keeps.of_below0 hW) (fun _ e _ => e.elim) : RowG srtP 71 B W (fun _ => False) (.slice lA left.length lc) left))
    have hlB := ha3.lB
    have hz3 : W2.heap.size ≤ w3.heap.size := hgrow3.size
    have hmw3 : mB < w3.heap.size := ha3.blk.lt
    rw [hW2, hW1] at hrun
    have HA3 := Lib.hid ha3
    have HZ := Lib.hid hz2
    have HG3 := Lib.hid hgrow3
    have HB2 := Lib.hid (by rw [hW2, hW1]; exact ((((Below.refl _ w).alloc (Nat.le_refl _) _).alloc (by simp) _).drew).drew : Below w.heap.size w W2)
    have hrun' : (Instr.mapUpdate 62 (.map (some mapB)) (.agg #[.int .i64 (q1 : Int), .int .i64 (q2 : Int)]) (.agg #[])).run Try.prog (((w.alloc (.cells #[.int .i64 (q1 : Int), .int .i64 (q2 : Int)] 71)).alloc (.cells #[] 75)).drew.drew) = .ok () w3 := hrun
    clear hrun ha ha1 hhas hlk hin hl1 hL ha2 hown3 ha3 hgrow3 hpr hb12 hW2 hW1 hz2
    go_enter Try.func41, Try.ntmps41
    go_wp2
    go_region
    all_goals go_wp2
    all_goals go_region
    all_goals go_wp2
    all_goals go_region_law (refine step_growB (T := srtP) (ms := [(q1, q2)]) rfl (.tmp 27) (.tmp 29) 66 71 rfl i0 _ 16 Try.underlying66 hi hz0 hz1 hz2 rfl rfl (HRowK.out _ ?_) ⟨w3.heap.size, 0, none⟩ 1 [.int .i64 (q1 : Int), .int .i64 (q2 : Int)] rfl (fun j u hj => gcell_new _ _ _ _ rfl j u hj) (Items.one srtP (a := (q1, q2)) (v := pairV (q1, q2)) rfl) ?_ ?_ ?_ (by simp) ?_; (· repeat (first | with_reducible assumption | with_reducible exact BelC.refl _ | with_reducible refine BelC.alloc ?_ _ | with_reducible refine BelC.drew ?_)); (· simp [maxLen]; omega); (· simp; omega); (· simp; omega); intro v6 w6 hrow6 hk6 hb6; obtain ⟨A7, c7, h70, _, _⟩ := hrow6.form; obtain ⟨n7, hn7⟩ : (∃ n7, n7 = (left ++ [(q1, q2)]).length) := ⟨_, rfl⟩; rw [← hn7] at h70; subst h70; refine cut_ (HA3.out.pushed (left' := left ++ [(q1, q2)]) ?_ hrow6 hk6 hb6) (fun hst => ?_); (· show BelC _ _; repeat (first | with_reducible assumption | with_reducible exact BelC.refl _ | with_reducible refine BelC.alloc ?_ _ | with_reducible refine BelC.drew ?_)); refine cut_ (P := Keeps (fun k => k = mB ∨ k = mapB ∨ (Value.slice lA left.length lc).ownBlock = some k) w (w6.setCell ⟨mB, 3, none⟩ (.slice A7 n7 c7))) ?_ (fun hks => ?_); (· refine Keeps.setCell (Keeps.trans' (Keeps.of_below0 HB2.out) (Keeps.trans' (T := fun k => k = mapB ∨ (Value.slice lA left.length lc).ownBlock = some k) ((Keeps.of_grown HG3.out).mono (fun i _ e => .inl (Option.some.inj e).symm)) (Keeps.trans' (Keeps.of_below0 (T := fun k => (Value.slice lA left.length lc).ownBlock = some k) ?_) hk6 (fun i _ e => e)) (fun i _ e => .inr e)) (fun i _ e => .inr e)) (fun _ => .inl rfl) _; (· show BelC _ _; repeat (first | with_reducible assumption | with_reducible exact BelC.refl _ | with_reducible refine BelC.alloc ?_ _ | with_reducible refine BelC.drew ?_))); refine cut_ (P := Blk w6 mB _) ((hk6.block mB ?_ (fun e => by have := (HA3.out.lft.block e).1; have := HA3.out.lm; omega)).trans (Eq.trans ?_ HA3.out.blk)) (fun hbq => ?_); (· simp; omega); (· exact Below.heap_alloc _ _ _ HA3.out.blk.lt); obtain ⟨hcq, hfq⟩ := Blk.cells hbq; have hcq3 := hcq 3; have hfq3 := hfq 3; have HSt := Lib.hid hst; have HKs := Lib.hid hks; clear hst hks hbq hrow6 hk6 hb6 hcq hfq hn7)
    all_goals go_wp2
    all_goals go_end0
    all_goals exact ⟨rfl, _, HSt.out, HKs.out⟩
end Go.Proofs.Ytipehahfbcbigaa

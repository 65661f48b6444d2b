/-
  graph.match's look.
-/
/-
  graph.match's fits.
-/
import Derived.Test.YtnhdgndjpkdhdaaDAlikeM
import Derived.Test.YtnhdgndjpkdhdaaGTrm
import Derived.Deep.RegionHeld3
import Derived.IntWalk
namespace Go.Proofs.Ytnhdgndjpkdhdaa
open Go.RowKit

theorem infoPair : (Try.prog.info? 80).map (fun i => (i.zero, i.size, i.bytes)) = some (some (.agg #[.int .i64 0, .int .i64 0]), 2, 16) := by kernel_rfl
theorem zeroU (w : World) : (zeroValue 91).run Try.prog w = .ok (.agg #[]) w := by kernel_rfl

theorem MtA.mapped {w w0 w3 : World} {g h : RGr} {gA hA : Option Addr} {gc hc B mB mapB pB sB : Nat} {lv : Value} {p s : Nat → Nat} {L left : List (Nat × Nat)} {q : Nat × Nat} (a : MtA g h gA hA gc hc w0 B mB mapB pB sB w lv p s L left)
    (hm : w3.ownsMap Try.prog 80 (unitElem (H := Unit)) mapB (L.length + 1) ((setL L).put (pairL q) (.agg []))) (hg : w.grownBy w3 (some mapB)) : MtA g h gA hA gc hc w0 B mB mapB pB sB w3 lv p s (L ++ [q]) left := by
  have hk : Keeps (fun k => some mapB = some k) w w3 := Keeps.of_grown hg
  have hz := a.lB
  refine ⟨a.bel.trans (hk.below a.bel.size (fun i hi e => by injection e with e; have := a.la; omega)), (hk.block _ a.blk.lt (fun e => a.blk.not_map a.map (by injection e with e; exact e.symm))).trans a.blk, ?_, ?_, ?_, ?_, a.ps, a.lm, a.la, a.lp, a.ls, Nat.le_trans hz hk.size⟩
  · rw [List.length_append, setL_snoc]; exact hm
  · refine a.lft.keep hk (fun k e _ => ⟨fun e' => ?_, id⟩)
    injection e with e
    have := (a.lft.block e').1
    have := a.la
    omega
  · exact (hk.block _ a.par.lt (fun e => a.par.not_map a.map (by injection e with e; exact e.symm))).trans a.par
  · exact (hk.block _ a.siz.lt (fun e => a.siz.not_map a.map (by injection e with e; exact e.symm))).trans a.siz
/-- A pair more is left. -/
theorem MtA.pushed {w w0 W1 w6 : World} {g h : RGr} {gA hA : Option Addr} {gc hc B mB mapB pB sB : Nat} {lv v' : Value} {p s : Nat → Nat} {L left left' : List (Nat × Nat)} (a : MtA g h gA hA gc hc w0 B mB mapB pB sB w lv p s L left) (hb : Below w.heap.size w W1)
    (hr : RowG srtP 80 B w6 (fun _ => False) v' left') (hk : Keeps (fun k => lv.ownBlock = some k) W1 w6) (hv : v'.ownBlock = lv.ownBlock ∨ v'.ownBlock = some W1.heap.size) :
    MtA g h gA hA gc hc w0 B mB mapB pB sB (w6.setCell ⟨mB, 3, none⟩ v') v' p s L left' := by
  have h1 := a.new hb
  have hz := h1.lB
  have hown : ∀ k, lv.ownBlock = some k → B ≤ k := fun k e => (h1.lft.block e).1
  have lm := a.lm; have la := a.la; have lp := a.lp; have ls := a.ls
  have mp := a.mp; have ms := a.ms
  have hma := a.blk.not_map a.map
  have hF : ∀ k, (lv.ownBlock = some k ∨ k = mB) → k < B → k = mB := fun k e hk => by
    rcases e with e | e
    · have := hown k e; omega
    · exact e
  have k1 : Keeps (fun k => lv.ownBlock = some k ∨ k = mB) W1 (w6.setCell ⟨mB, 3, none⟩ v') := (hk.mono (fun i _ e => .inl e)).setCell (p := ⟨mB, 3, none⟩) (fun _ => .inr rfl) _
  have hn : v'.ownBlock ≠ some mB := by
    rcases hv with e | e
    · rw [e]; intro e'; have := hown _ e'; omega
    · rw [e]; intro e'; injection e' with e'; omega
  refine ⟨h1.bel.trans (k1.below h1.bel.size (fun i hi e => by have := hF i e (by omega); omega)), ?_, ?_, ?_, ?_, ?_, a.ps, a.lm, a.la, a.lp, a.ls, Nat.le_trans hz k1.size⟩
  · exact Blk.set ((hk.block _ (by omega) (fun e => by have := hown _ e; omega)).trans h1.blk) 3 v'
  · obtain ⟨es, clock, hb, r⟩ := h1.map
    exact ⟨es, clock, (k1.block _ (by omega) (fun e => hma (hF _ e (by omega)).symm)).trans hb, r⟩
  · exact hr.keep (F := fun k => k = mB) ((Keeps.refl (fun k => k = mB) w6).setCell (p := ⟨mB, 3, none⟩) (fun _ => rfl) _) (fun k e _ => ⟨fun e' => hn (e ▸ e'), id⟩)
  · exact (k1.block _ (by omega) (fun e => mp (hF _ e (by omega)).symm)).trans h1.par
  · exact (k1.block _ (by omega) (fun e => ms (hF _ e (by omega)).symm)).trans h1.siz

set_option maxRecDepth 100000 in
set_option maxHeartbeats 2000000 in
theorem look_r (w w0 : World) (g h : RGr) (gA hA : Option Addr) (gc hc B mB mapB pB sB : Nat) (lv : Value) (p s : Nat → Nat) (L left : List (Nat × Nat)) (q : Nat × Nat) (ha : MtA g h gA hA gc hc w0 B mB mapB pB sB w lv p s L left) (hL : ∀ x, x ∈ L → Small x) (hq : Small q) (hl : left.length ≤ 2199023255552) (hLl : L.length ≤ 2199023255552) :
    Calls Try.prog 57 #[.pointer (some ⟨mB, 0, none⟩), .agg #[.int .i64 (q.1 : Int), .int .i64 (q.2 : Int)]] w fun e w' => e = .returned (.tuple #[]) ∧ ∃ lv', MtA g h gA hA gc hc w0 B mB mapB pB sB w' lv' p s (G.look1 (L, left) q).1 (G.look1 (L, left) q).2 ∧ Keeps (fun k => k = mB ∨ k = mapB ∨ lv.ownBlock = some k) w w' := by
  obtain ⟨i0, hi, hz0, hz1, hz2⟩ := info_parts infoPair
  obtain ⟨q1, q2⟩ := q
  have hm := ha.blk.cells.1 2
  have hml := ha.blk.lt
  have hmne : mB ≠ w.heap.size := by omega
  have HA := Lib.hid ha
  obtain ⟨W1, hW1⟩ : ∃ W1, W1 = w.alloc (.cells #[.int .i64 (q1 : Int), .int .i64 (q2 : Int)] 80) := ⟨_, rfl⟩
  have ha1 : MtA g h gA hA gc hc w0 B mB mapB pB sB W1 lv p s L left := ha.new (by rw [hW1]; exact (Below.refl _ _).alloc (Nat.le_refl _) _)
  have hhas := has_setL L hL hq
  have hlk : ∀ W, W.ownsMap Try.prog 80 (unitElem (H := Unit)) mapB L.length (setL L) → (Instr.lookup 71 (.map (some mapB)) (.agg #[.int .i64 (q1 : Int), .int .i64 (q2 : Int)]) true).run Try.prog W = .ok (.tuple #[.agg #[], .bool (decide ((q1, q2) ∈ L))]) W := fun W hW => by
    obtain ⟨v, ps, hr, hv⟩ := hW.look_ok keyedP Try.underlying71 (zeroU W) unitElem_mk (keyOf_V hq)
    obtain ⟨rfl, _⟩ := unitElem_inv hv
    rw [hhas] at hr
    exact hr
  have l1 := hlk W1.drew ha1.map
  have l2 := hlk (W1.alloc (.cells #[] 91)).drew (ha1.map.alloc _)
  rw [hW1] at l1 l2
  have HA1 := Lib.hid ha1
  by_cases hin : (q1, q2) ∈ L
  · rw [decide_eq_true hin] at l1 l2
    have hl1 : G.look1 (L, left) (q1, q2) = (L, left) := by unfold G.look1; rw [if_pos hin]
    rw [hl1]
    clear ha ha1 hhas hlk hin hl1 hL hW1
    go_enter Try.func57, Try.ntmps57
    go_wp2
    go_region
    all_goals go_wp2
    all_goals go_end0
    all_goals exact ⟨rfl, lv, HA.out.new ((((Below.refl _ w).alloc (Nat.le_refl _) _).alloc (by simp) _).drew), (((Keeps.refl _ w).alloc _).alloc _).drew⟩
  · rw [decide_eq_false hin] at l1 l2
    have hl1 : G.look1 (L, left) (q1, q2) = (L ++ [(q1, q2)], left ++ [(q1, q2)]) := by unfold G.look1; rw [if_neg hin]
    rw [hl1]
    obtain ⟨W2, hW2⟩ : ∃ W2, W2 = (W1.alloc (.cells #[] 91)).drew.drew := ⟨_, rfl⟩
    have hb12 : Below W1.heap.size W1 W2 := by rw [hW2]; exact (((Below.refl _ _).alloc (Nat.le_refl _) _).drew).drew
    have ha2 := ha1.new hb12
    obtain ⟨w3, hrun, hown3, hgrow3⟩ := ha2.map.update (e := 91) keyedP Try.underlying71 (by unfold maxLen; omega) (keyOf_V hq) unitElem_mk
    have ha3 := ha2.mapped hown3 hgrow3
    have hpw : mapB < w.heap.size := HA.out.map.lt
    have hz2 : W2.heap.size = w.heap.size + 2 := by rw [hW2, hW1]; simp [World.drew]
    have hpr : ∀ j u, (#[.int .i64 (q1 : Int), .int .i64 (q2 : Int)] : Array Value)[j]? = some u → w3.cell? ⟨w.heap.size, j, none⟩ = some u := fun j u hu => by
      have h1 : W2.cell? ⟨w.heap.size, j, none⟩ = some u := by
        have hbk : Blk W2 w.heap.size (.cells #[.int .i64 (q1 : Int), .int .i64 (q2 : Int)] 80 (0, 0)) := by rw [hW2, hW1]; exact ((Blk.new' _ _ _ rfl).alloc _)
        rw [hbk.cells.1 j]; exact hu
      exact hgrow3.cell h1 (fun e => by have e' : w.heap.size = mapB := Option.some.inj e; omega)
    have r0 := hpr 0 _ rfl
    have r1 := hpr 1 _ rfl
    have r3 := ha3.blk.cells.1 3
    have z3 := ha3.blk.cells.2 3
    obtain ⟨lA, lc, hlv, hlc, hlm⟩ := ha3.lft.form
    subst hlv
    have HRowK := Lib.hid (fun W (hW : BelC w3 W) => (ha3.lft.keep (F := fun _ => False) (Keeps.of_below0 hW) (fun _ e _ => e.elim) : RowG srtP 80 B W (fun _ => False) (.slice lA left.length lc) left))
    have hlB := ha3.lB
    have hz3 : W2.heap.size ≤ w3.heap.size := hgrow3.size
    have hmw3 : mB < w3.heap.size := ha3.blk.lt
    rw [hW2, hW1] at hrun
    have HA3 := Lib.hid ha3
    have HZ := Lib.hid hz2
    have HG3 := Lib.hid hgrow3
    have HB2 := Lib.hid (by rw [hW2, hW1]; exact ((((Below.refl _ w).alloc (Nat.le_refl _) _).alloc (by simp) _).drew).drew : Below w.heap.size w W2)
    have hrun' : (Instr.mapUpdate 71 (.map (some mapB)) (.agg #[.int .i64 (q1 : Int), .int .i64 (q2 : Int)]) (.agg #[])).run Try.prog (((w.alloc (.cells #[.int .i64 (q1 : Int), .int .i64 (q2 : Int)] 80)).alloc (.cells #[] 91)).drew.drew) = .ok () w3 := hrun
    clear hrun ha ha1 hhas hlk hin hl1 hL ha2 hown3 ha3 hgrow3 hpr hb12 hW2 hW1 hz2
    go_enter Try.func57, Try.ntmps57
    go_wp2
    go_region
    all_goals go_wp2
    all_goals go_region
    all_goals go_wp2
    all_goals go_region_law (refine step_growB (T := srtP) (ms := [(q1, q2)]) rfl (.tmp 27) (.tmp 29) 75 80 rfl i0 _ 16 Try.underlying75 hi hz0 hz1 hz2 rfl rfl (HRowK.out _ ?_) ⟨w3.heap.size, 0, none⟩ 1 [.int .i64 (q1 : Int), .int .i64 (q2 : Int)] rfl (fun j u hj => gcell_new _ _ _ _ rfl j u hj) (Items.one srtP (a := (q1, q2)) (v := pairV (q1, q2)) rfl) ?_ ?_ ?_ (by simp) ?_; (· repeat (first | with_reducible assumption | with_reducible exact BelC.refl _ | with_reducible refine BelC.alloc ?_ _ | with_reducible refine BelC.drew ?_)); (· simp [maxLen]; omega); (· simp; omega); (· simp; omega); intro v6 w6 hrow6 hk6 hb6; obtain ⟨A7, c7, h70, _, _⟩ := hrow6.form; obtain ⟨n7, hn7⟩ : (∃ n7, n7 = (left ++ [(q1, q2)]).length) := ⟨_, rfl⟩; rw [← hn7] at h70; subst h70; refine cut_ (HA3.out.pushed (left' := left ++ [(q1, q2)]) ?_ hrow6 hk6 hb6) (fun hst => ?_); (· show BelC _ _; repeat (first | with_reducible assumption | with_reducible exact BelC.refl _ | with_reducible refine BelC.alloc ?_ _ | with_reducible refine BelC.drew ?_)); refine cut_ (P := Keeps (fun k => k = mB ∨ k = mapB ∨ (Value.slice lA left.length lc).ownBlock = some k) w (w6.setCell ⟨mB, 3, none⟩ (.slice A7 n7 c7))) ?_ (fun hks => ?_); (· refine Keeps.setCell (Keeps.trans' (Keeps.of_below0 HB2.out) (Keeps.trans' (T := fun k => k = mapB ∨ (Value.slice lA left.length lc).ownBlock = some k) ((Keeps.of_grown HG3.out).mono (fun i _ e => .inl (Option.some.inj e).symm)) (Keeps.trans' (Keeps.of_below0 (T := fun k => (Value.slice lA left.length lc).ownBlock = some k) ?_) hk6 (fun i _ e => e)) (fun i _ e => .inr e)) (fun i _ e => .inr e)) (fun _ => .inl rfl) _; (· show BelC _ _; repeat (first | with_reducible assumption | with_reducible exact BelC.refl _ | with_reducible refine BelC.alloc ?_ _ | with_reducible refine BelC.drew ?_))); refine cut_ (P := Blk w6 mB _) ((hk6.block mB ?_ (fun e => by have := (HA3.out.lft.block e).1; have := HA3.out.lm; omega)).trans (Eq.trans ?_ HA3.out.blk)) (fun hbq => ?_); (· simp; omega); (· exact Below.heap_alloc _ _ _ HA3.out.blk.lt); obtain ⟨hcq, hfq⟩ := Blk.cells hbq; have hcq3 := hcq 3; have hfq3 := hfq 3; have HSt := Lib.hid hst; have HKs := Lib.hid hks; clear hst hks hbq hrow6 hk6 hb6 hcq hfq hn7)
    all_goals go_wp2
    all_goals go_end0
    all_goals exact ⟨rfl, _, HSt.out, HKs.out⟩
end Go.Proofs.Ytnhdgndjpkdhdaa
namespace Go.Proofs.Ytnhdgndjpkdhdaa
open Go.RowKit

theorem dfree_iff {N : Nat} {x : RNd} (h : x.ok N = true) : x.dfree = true ↔ x.nd.free := by
  rw [RNd.dfree_eq h]
  unfold RNd.free G.Nd.free RNd.nd
  simp
theorem RNd.within_args {N : Nat} {x : RNd} (h : x.ok N = true) : ∀ z, z ∈ x.args → 0 ≤ z ∧ z < N := by
  intro z hz
  simp only [RNd.ok, RNd.within, Bool.and_eq_true] at h
  have := List.all_eq_true.1 h.1 z hz
  simpa using this
/-- Parents, as they may come. -/
def ParS (W : World) (pB U : Nat) (c r : Nat → Nat) (B : Nat) : Prop := ∃ p, G.UF U p c r B ∧ NumAt W pB U p
theorem of_s (w : World) (pB sB U x : Nat) (i : Int) (c r : Nat → Nat) (B : Nat) (hU : U ≤ 4000000) (hx : x < U) (hi : i = (x : Int)) (h : ParS w pB U c r B) :
    Calls Try.prog 65 #[.agg #[.slice (some ⟨pB, 0, none⟩) U U, .slice (some ⟨sB, 0, none⟩) U U], .int .i64 i] w fun e w' => e = .returned (.int .i64 (c x : Nat)) ∧ ParS w' pB U c r B ∧ Keeps (fun k => k = pB) w w' := by
  subst hi
  obtain ⟨p, h1, h2⟩ := h
  exact (of_r w pB sB U x p c r B hU hx h1 h2).mono fun e w' ⟨he, p', h3, h4, h5⟩ => ⟨he, ⟨p', h3, h4⟩, h5⟩
theorem lookAll_snoc (S : List (Nat × Nat) × List (Nat × Nat)) (l : List (Nat × Nat)) (q : Nat × Nat) : G.lookAll S (l ++ [q]) = G.look1 (G.lookAll S l) q := by
  unfold G.lookAll
  rw [List.foldl_append]
  rfl
/-- What is known, besides memory, of the match under way. -/
structure MtP (g h : RGr) (p s c r : Nat → Nat) (B : Nat) (L left : List (Nat × Nat)) : Prop where
  uf : G.UF (g.nodes.length + h.nodes.length) p c r B
  sz : SZ (g.nodes.length + h.nodes.length) c s
  mt : G.Mt g.gr.f h.gr.f g.nodes.length h.nodes.length g.root.toNat h.root.toNat c L left
theorem pairs_len (N M : Nat) {L : List (Nat × Nat)} (hn : L.Nodup) (hl : ∀ p, p ∈ L → p.1 < N ∧ p.2 < M) : L.length ≤ N * M := by
  have h1 : (L.map fun p => p.1 * M + p.2).Nodup := by
    rw [List.nodup_iff_pairwise_ne, List.pairwise_map]
    refine List.Pairwise.imp_of_mem ?_ (List.nodup_iff_pairwise_ne.1 hn)
    intro a b ha hb hne e
    obtain ⟨a1, a2⟩ := hl a ha
    obtain ⟨b1, b2⟩ := hl b hb
    apply hne
    have h3 : a.1 = b.1 := by
      have e1 : (a.1 * M + a.2) / M = a.1 := by rw [Nat.mul_comm, Nat.mul_add_div (by omega), Nat.div_eq_of_lt a2]; rfl
      have e2 : (b.1 * M + b.2) / M = b.1 := by rw [Nat.mul_comm, Nat.mul_add_div (by omega), Nat.div_eq_of_lt b2]; rfl
      rw [← e1, ← e2, e]
    rw [h3] at e
    have h4 : a.2 = b.2 := by omega
    exact Prod.ext h3 h4
  have h2 := G.nodup_len (N * M) h1 (fun x hx => by
    obtain ⟨p, hp, rfl⟩ := List.mem_map.1 hx
    obtain ⟨p1, p2⟩ := hl p hp
    have : p.1 * M + M ≤ N * M := by rw [← Nat.succ_mul]; exact Nat.mul_le_mul_right _ p1
    omega)
  simpa using h2

theorem MtA.setPar {w w0 w5 : World} {g h : RGr} {gA hA : Option Addr} {gc hc B mB mapB pB sB : Nat} {lv : Value} {p s p5 : Nat → Nat} {L left : List (Nat × Nat)} (a : MtA g h gA hA gc hc w0 B mB mapB pB sB w lv p s L left) (hk : Keeps (fun k => k = pB) w w5) (hn : NumAt w5 pB (g.nodes.length + h.nodes.length) p5) :
    MtA g h gA hA gc hc w0 B mB mapB pB sB w5 lv p5 s L left := by
  have lm := a.lm; have la := a.la; have lp := a.lp; have ls := a.ls
  have hz := a.lB
  have hpmap := a.par.not_map a.map
  refine ⟨a.bel.trans (hk.below a.bel.size (fun i hi e => by omega)), (hk.block _ a.blk.lt (fun e => a.mp e)).trans a.blk, ?_, ?_, hn, (hk.block _ a.siz.lt (fun e => a.ps e.symm)).trans a.siz, a.ps, a.lm, a.la, a.lp, a.ls, Nat.le_trans hz hk.size⟩
  · obtain ⟨es, clock, hb, r⟩ := a.map
    exact ⟨es, clock, (hk.block _ (by omega) (fun e => hpmap e.symm)).trans hb, r⟩
  · exact a.lft.keep hk (fun k e _ => ⟨fun e' => by have := (a.lft.block e').1; omega, id⟩)
theorem MtA.setBoth {w w0 w5 : World} {g h : RGr} {gA hA : Option Addr} {gc hc B mB mapB pB sB : Nat} {lv : Value} {p s p5 s5 : Nat → Nat} {L left : List (Nat × Nat)} (a : MtA g h gA hA gc hc w0 B mB mapB pB sB w lv p s L left) (hk : Keeps (fun k => k = pB ∨ k = sB) w w5) (hn : NumAt w5 pB (g.nodes.length + h.nodes.length) p5) (hs : NumAt w5 sB (g.nodes.length + h.nodes.length) s5) :
    MtA g h gA hA gc hc w0 B mB mapB pB sB w5 lv p5 s5 L left := by
  have lm := a.lm; have la := a.la; have lp := a.lp; have ls := a.ls
  have hz := a.lB
  have hpmap := a.par.not_map a.map
  have hsmap := a.siz.not_map a.map
  refine ⟨a.bel.trans (hk.below a.bel.size (fun i hi e => by omega)), (hk.block _ a.blk.lt (fun e => by rcases e with e | e; exact a.mp e; exact a.ms e)).trans a.blk, ?_, ?_, hn, hs, a.ps, a.lm, a.la, a.lp, a.ls, Nat.le_trans hz hk.size⟩
  · obtain ⟨es, clock, hb, r⟩ := a.map
    exact ⟨es, clock, (hk.block _ (by omega) (fun e => by rcases e with e | e; exact hpmap e.symm; exact hsmap e.symm)).trans hb, r⟩
  · exact a.lft.keep hk (fun k e _ => ⟨fun e' => by have := (a.lft.block e').1; omega, id⟩)

set_option maxRecDepth 100000 in
set_option maxHeartbeats 4000000 in
theorem fits_r (w w0 : World) (g h : RGr) (S1 S2 : Nat → Prop) (gA hA : Option Addr) (gc hc B mB mapB pB sB : Nat) (lv : Value) (p s c r : Nat → Nat) (B0 : Nat) (L left : List (Nat × Nat)) (a b : Nat) (hgok : g.ok = true) (hhok : h.ok = true) (_hgc : g.nodes.length ≤ gc) (_hgm : gc ≤ maxLen) (_hhc : h.nodes.length ≤ hc) (_hhm : hc ≤ maxLen)
    (hS1 : ∀ k, S1 k → k < w0.heap.size) (hS2 : ∀ k, S2 k → k < w0.heap.size) (oG : NdsO w0 S1 g.nodes gA) (oH : NdsO w0 S2 h.nodes hA)
    (ha : MtA g h gA hA gc hc w0 B mB mapB pB sB w lv p s L left) (hP : MtP g h p s c r B0 L (left ++ [(a, b)])) (hll : left.length < L.length) :
    Calls Try.prog 58 #[.pointer (some ⟨mB, 0, none⟩), .agg #[.int .i64 (a : Int), .int .i64 (b : Int)]] w fun e w' => (e = .returned (.bool false) ∧ ¬ G.Same g.gr.f g.root.toNat h.gr.f h.root.toNat ∧ Below w0.heap.size w0 w') ∨
      (e = .returned (.bool true) ∧ ∃ lv' p' s' c' r' B' L' left', MtA g h gA hA gc hc w0 B mB mapB pB sB w' lv' p' s' L' left' ∧ MtP g h p' s' c' r' B' L' left' ∧ left'.length + L.length = left.length + L'.length ∧ L.length ≤ L'.length) := by
  have hgN : g.nodes.length ≤ 1048576 := RGr.ok_len hgok
  have hhN : h.nodes.length ≤ 1048576 := RGr.ok_len hhok
  obtain ⟨haN, hbM, hPr⟩ := hP.mt.lk (a, b) (hP.mt.sub _ (by simp))
  simp only [] at haN hbM
  obtain ⟨U, hU⟩ : ∃ U, U = g.nodes.length + h.nodes.length := ⟨_, rfl⟩
  have hU9 : U ≤ 4000000 := by omega
  have haU : a < U := by omega
  have hbU : g.nodes.length + b < U := by omega
  have hLle : L.length ≤ 2199023255552 := by
    have h1 := pairs_len _ _ hP.mt.nd (fun p hp => ⟨(hP.mt.lk p hp).1, (hP.mt.lk p hp).2.1⟩)
    have h2 : g.nodes.length * h.nodes.length ≤ 1048576 * 1048576 := Nat.mul_le_mul hgN hhN
    omega
  have hfitg := RGr.ok_fit hgok
  have hfith := RGr.ok_fit hhok
  have hfg : ∀ a, a < g.nodes.length → ∀ y, y ∈ (g.gr.f a).args → y < g.nodes.length := by
    have hN : g.gr.nodes.length = g.nodes.length := by simp [RGr.gr]
    rw [← hN]; exact hfitg.args
  have hfh : ∀ a, a < h.nodes.length → ∀ y, y ∈ (h.gr.f a).args → y < h.nodes.length := by
    have hN : h.gr.nodes.length = h.nodes.length := by simp [RGr.gr]
    rw [← hN]; exact hfith.args
  have HFg := Lib.hid hfg
  have HFh := Lib.hid hfh
  clear hfitg hfith hfg hfh
  have HA := Lib.hid ha
  have HP := Lib.hid hP
  have HSame := Lib.hid hPr
  have HUe := Lib.hid hU
  -- the nodes
  obtain ⟨X, hX⟩ : ∃ X, X = g.nodes[a] := ⟨_, rfl⟩
  obtain ⟨Y, hY⟩ : ∃ Y, Y = h.nodes[b] := ⟨_, rfl⟩
  have hnx : ∀ W, Below w0.heap.size w0 W → ∃ b' o', gA = some ⟨b', o', none⟩ ∧ NdP W S1 b' (o' + a * 5) X := fun W hW => by
    rw [hX]; exact NdsO.get _ _ (NdsO.keep (fun k hk => ⟨hk, hW.block k (hS1 k hk)⟩) _ _ oG) a haN
  have hny : ∀ W, Below w0.heap.size w0 W → ∃ b' o', hA = some ⟨b', o', none⟩ ∧ NdP W S2 b' (o' + b * 5) Y := fun W hW => by
    rw [hY]; exact NdsO.get _ _ (NdsO.keep (fun k hk => ⟨hk, hW.block k (hS2 k hk)⟩) _ _ oH) b hbM
  have hXok : X.ok g.nodes.length = true := by rw [hX]; exact ok_node hgok a haN
  have hYok : Y.ok h.nodes.length = true := by rw [hY]; exact ok_node hhok b hbM
  have hXf : g.gr.f a = X.nd := by rw [gr_nd, g.nd_eq a haN, hX]
  have hYf : h.gr.f b = Y.nd := by rw [gr_nd, h.nd_eq b hbM, hY]
  obtain ⟨bG, oG', rfl, hn1⟩ := hnx w ha.bel
  obtain ⟨bH, oH', rfl, hn2⟩ := hny w ha.bel
  have hnp : ∀ W, Below w0.heap.size w0 W → NdP W S1 bG (oG' + a * 5) X ∧ NdP W S2 bH (oH' + b * 5) Y := fun W hW => by
    obtain ⟨b1, o1, e1, h1⟩ := hnx W hW
    obtain ⟨b2, o2, e2, h2⟩ := hny W hW
    simp only [Option.some.injEq, Addr.mk.injEq, and_true] at e1 e2
    obtain ⟨rfl, rfl⟩ := e1
    obtain ⟨rfl, rfl⟩ := e2
    exact ⟨h1, h2⟩
  have HNp := Lib.hid hnp
  have HXok := Lib.hid hXok
  have HYok := Lib.hid hYok
  have HXf := Lib.hid hXf
  have HYf := Lib.hid hYf
  unfold maxLen at _hgm _hhm
  have hmw := ha.blk.lt
  obtain ⟨W1, hW1⟩ : ∃ W1, W1 = w.alloc (.cells #[.int .i64 (a : Int), .int .i64 (b : Int)] 80) := ⟨_, rfl⟩
  have hb1 : Below w.heap.size w W1 := by rw [hW1]; exact (Below.refl _ _).alloc (Nat.le_refl _) _
  have hpr : Blk W1 w.heap.size (.cells #[.int .i64 (a : Int), .int .i64 (b : Int)] 80 (0, 0)) := by rw [hW1]; exact Blk.new' _ _ _ rfl
  have ha1 := ha.new hb1
  have hz1 : W1.heap.size = w.heap.size + 1 := by rw [hW1]; simp
  have HB1 := Lib.hid hb1
  have HA1 := Lib.hid ha1
  have HPr := Lib.hid hpr
  have m0 := ha1.blk.cells.1 0
  have m1 := ha1.blk.cells.1 1
  have r0 := hpr.cells.1 0
  have r1 := hpr.cells.1 1
  rw [← hU] at m0 m1
  clear oG oH hnx hny hXok hYok hXf hYf hX hY hn1 hn2 hnp hb1 hpr ha1 ha hP hPr hgok hhok hU
  go_enter Try.func58, Try.ntmps58
  go_wp2
  rw [← hW1]
  clear hW1
  go_quiet (fail)
  go_wp2
  have ha2 : MtA g h (some ⟨bG, oG', none⟩) (some ⟨bH, oH', none⟩) gc hc w0 B mB mapB pB sB (W1.drewN nq) lv p s L left := HA1.out.keep (F := fun _ => False) ((Keeps.refl _ W1).drewN nq) (fun _ e _ => e.elim)
  have hpr2 : Blk (W1.drewN nq) w.heap.size (.cells #[.int .i64 (a : Int), .int .i64 (b : Int)] 80 (0, 0)) := HPr.out
  have hb2 : Below w.heap.size w (W1.drewN nq) := Below.drewN' HB1.out nq
  have hz2 : (W1.drewN nq).heap.size = w.heap.size + 1 := hz1
  generalize W1.drewN nq = W2 at ha2 hpr2 hb2 hz2 ⊢
  have HA2 := Lib.hid ha2
  have HPr2 := Lib.hid hpr2
  have HB2 := Lib.hid hb2
  have hpm := ha2.mp
  have hpl := ha2.par.lt
  have hc' : ∀ W, Keeps (fun k => k = pB) W2 W → (W.cell? ⟨mB, 0, none⟩ = some (.slice (some ⟨bG, oG', none⟩) g.nodes.length gc) ∧ W.cell? ⟨mB, 4, none⟩ = some (.slice (some ⟨pB, 0, none⟩) U U) ∧ W.cell? ⟨mB, 5, none⟩ = some (.slice (some ⟨sB, 0, none⟩) U U) ∧ W.cell? ⟨w.heap.size, 0, none⟩ = some (.int .i64 (a : Int)) ∧ W.cell? ⟨w.heap.size, 1, none⟩ = some (.int .i64 (b : Int))) := fun W hW => by
    have k0 := ha2.blk.cells.1 0
    have k4 := ha2.blk.cells.1 4
    have k5 := ha2.blk.cells.1 5
    rw [← HUe.out] at k4 k5
    exact ⟨hW.cell (fun e => hpm e) k0, hW.cell (fun e => hpm e) k4, hW.cell (fun e => hpm e) k5, hW.cell (fun e => by have e' : w.heap.size = pB := e; have := HA.out.par.lt; omega) (hpr2.cells.1 0), hW.cell (fun e => by have e' : w.heap.size = pB := e; have := HA.out.par.lt; omega) (hpr2.cells.1 1)⟩
  have HC := Lib.hid hc'
  have hx0 := hc' W2 (Keeps.refl _ _)
  have hps : ParS W2 pB U c r B0 := ⟨p, by rw [HUe.out]; exact HP.out.uf, by rw [HUe.out]; exact ha2.par⟩
  have hpsd : ParS W2.drew pB U c r B0 := hps
  have HPsd := Lib.hid hpsd
  clear hpsd
  obtain ⟨ca, hca⟩ : ∃ x, x = c a := ⟨_, rfl⟩
  obtain ⟨cb, hcb⟩ : ∃ x, x = c (g.nodes.length + b) := ⟨_, rfl⟩
  have hofa : ∀ W, ParS W pB U c r B0 → Calls Try.prog 65 #[.agg #[.slice (some ⟨pB, 0, none⟩) U U, .slice (some ⟨sB, 0, none⟩) U U], .int .i64 (a : Int)] W fun e w' => e = .returned (.int .i64 (ca : Nat)) ∧ ParS w' pB U c r B0 ∧ Keeps (fun k => k = pB) W w' := fun W hW => by rw [hca]; exact of_s W pB sB U a _ c r B0 hU9 haU rfl hW
  have hofb : ∀ W, ParS W pB U c r B0 → Calls Try.prog 65 #[.agg #[.slice (some ⟨pB, 0, none⟩) U U, .slice (some ⟨sB, 0, none⟩) U U], .int .i64 ((g.nodes.length : Int) + (b : Int))] W fun e w' => e = .returned (.int .i64 (cb : Nat)) ∧ ParS w' pB U c r B0 ∧ Keeps (fun k => k = pB) W w' := fun W hW => by rw [hcb]; exact of_s W pB sB U (g.nodes.length + b) _ c r B0 hU9 hbU (by omega) hW
  have hofw : ∀ W, ParS W pB U c r B0 → Calls Try.prog 65 #[.agg #[.slice (some ⟨pB, 0, none⟩) U U, .slice (some ⟨sB, 0, none⟩) U U], .int .i64 (IntKind.i64.wrap ((g.nodes.length : Int) + (b : Int)))] W fun e w' => e = .returned (.int .i64 (cb : Nat)) ∧ ParS w' pB U c r B0 ∧ Keeps (fun k => k = pB) W w' := fun W hW => by
    rw [IntWalk.i64_in _ (by omega)]
    exact hofb W hW
  have HOfw := Lib.hid hofw
  have HOfa := Lib.hid hofa
  have HOfb := Lib.hid hofb
  have HCa := Lib.hid hca
  have HCb := Lib.hid hcb
  clear ha2 hpr2 hb2 hc' hps hofa hofb hofw hca hcb m0 m1 r0 r1
  go_region_held3 (fun W => W.cell? ⟨mB, 0, none⟩ = some (.slice (some ⟨bG, oG', none⟩) g.nodes.length gc) ∧ W.cell? ⟨mB, 4, none⟩ = some (.slice (some ⟨pB, 0, none⟩) U U) ∧ W.cell? ⟨mB, 5, none⟩ = some (.slice (some ⟨sB, 0, none⟩) U U) ∧ W.cell? ⟨w.heap.size, 0, none⟩ = some (.int .i64 (a : Int)) ∧ W.cell? ⟨w.heap.size, 1, none⟩ = some (.int .i64 (b : Int)))
    (first | with_reducible exact hx0 | (with_reducible refine HC.out _ ?_; (· repeat (first | with_reducible assumption | with_reducible exact Keeps.refl _ _ | with_reducible refine Keeps.drew ?_))))
    (first | (go_at_call 65; (first | (with_reducible refine (HOfa.out _ ?_).mono ?_) | (with_reducible refine (HOfw.out _ ?_).mono ?_) | (with_reducible refine (HOfb.out _ ?_).mono ?_)); (· first | with_reducible exact HPsd.out | with_reducible assumption); rintro e w5 ⟨rfl, hst5, hk5⟩; refine cut_ (P := Keeps (fun k => k = pB) W2 w5) ?_ (fun hkk5 => ?_); (· first | with_reducible exact (Keeps.refl _ W2).drew.trans hk5 | exact Keeps.trans (by with_reducible assumption) hk5); clear hk5))
  obtain ⟨p5, huf5, hnum5⟩ := hst5
  rw [HUe.out] at huf5 hnum5
  have ha5 := HA2.out.setPar hkk5 hnum5
  have hP5 : MtP g h p5 s c r B0 L (left ++ [(a, b)]) := ⟨huf5, HP.out.sz, HP.out.mt⟩
  have HA5 := Lib.hid ha5
  have HP5 := Lib.hid hP5
  have HK5 := Lib.hid hkk5
  clear ha5 hP5 huf5 hnum5 hkk5 hx0
  by_cases heq : ca = cb
  · have heq' : (((ca : Nat) : Int) == ((cb : Nat) : Int)) = true := by rw [heq]; simp
    have HEq := Lib.hid heq
    clear heq
    go_wp2
    go_ret
    exact .inr ⟨rfl, lv, p5, s, c, r, B0, L, left, HA5.out, ⟨HP5.out.uf, HP5.out.sz, HP5.out.mt.skip (by rw [← HCa.out, ← HCb.out]; exact HEq.out)⟩, rfl, Nat.le_refl _⟩
  · have heq' : (((ca : Nat) : Int) == ((cb : Nat) : Int)) = false := by rw [beq_eq_false_iff_ne]; omega
    have HEq := Lib.hid heq
    clear heq
    rcases hal : dalike X Y with _ | _
    · have HAl := Lib.hid hal
      clear hal
      go_wp2_with (go_at_call 66; refine (dalike_r _ S1 S2 _ _ _ _ X Y false (HNp.out _ HA5.out.bel).1 (HNp.out _ HA5.out.bel).2 HAl.out).mono ?_; rintro e w6 ⟨rfl, n6, rfl⟩)
      go_ret
      refine .inl ⟨rfl, HP5.out.mt.differ1 (fun e => ?_), Below.drewN' HA5.out.bel n6⟩
      rw [HXf.out, HYf.out] at e
      have := (dalike_iff HXok.out HYok.out).2 e
      rw [HAl.out] at this
      cases this
    · have HAl := Lib.hid hal
      clear hal
      have hal2 : (g.gr.f a).alike (h.gr.f b) := by rw [HXf.out, HYf.out]; exact (dalike_iff HXok.out HYok.out).1 HAl.out
      have HAl2 := Lib.hid hal2
      clear hal2
      obtain ⟨dX, hdX⟩ : ∃ d, d = X.dfree := ⟨_, rfl⟩
      have hdf : (decide (X.kind = 1) || X.op) = dX := hdX.symm
      have hdfree : dX = true ↔ (g.gr.f a).free := by rw [HXf.out, hdX]; exact dfree_iff HXok.out
      have HDf := Lib.hid hdf
      have HDfree := Lib.hid hdfree
      have hcaU : ca < U := by rw [HCa.out, HUe.out]; exact HP5.out.uf.clt a (by omega)
      have hcbU : cb < U := by rw [HCb.out, HUe.out]; exact HP5.out.uf.clt _ (by omega)
      have hsiz : ∀ W, Below w5.heap.size w5 W → NumAt W sB U s := fun W hW => by rw [HUe.out]; exact (hW.block _ HA5.out.siz.lt).trans HA5.out.siz
      have HSiz := Lib.hid hsiz
      have hm45 : ∀ W, Below w5.heap.size w5 W → W.cell? ⟨mB, 4, none⟩ = some (.slice (some ⟨pB, 0, none⟩) U U) ∧ W.cell? ⟨mB, 5, none⟩ = some (.slice (some ⟨sB, 0, none⟩) U U) := fun W hW => by
        have h1 := (HA5.out.new hW).blk.cells.1 4
        have h2 := (HA5.out.new hW).blk.cells.1 5
        rw [← HUe.out] at h1 h2
        exact ⟨h1, h2⟩
      have HM := Lib.hid hm45
      have hsa : s ca = G.cnt c U ca := by rw [HUe.out]; exact HP5.out.sz ca (by rw [← HUe.out]; exact hcaU) (by rw [HCa.out]; exact HP5.out.uf.cc (by omega))
      have hsb : s cb = G.cnt c U cb := by rw [HUe.out]; exact HP5.out.sz cb (by rw [← HUe.out]; exact hcbU) (by rw [HCb.out]; exact HP5.out.uf.cc (by omega))
      have hpa : 1 ≤ s ca := by rw [hsa]; exact G.cnt_pos haU HCa.out.symm
      have hpb : 1 ≤ s cb := by rw [hsb]; exact G.cnt_pos hbU HCb.out.symm
      have HSa := Lib.hid hsa
      have HSb := Lib.hid hsb
      have hnd : NdP (w5) S1 bG (oG' + a * 5) X := (HNp.out _ HA5.out.bel).1
      clear hdX hdf hdfree hsiz hm45 hsa hsb hnd
      have hsplit : (dX = true ∧ s ca ≠ 1) ∨ (dX = true ∧ s ca = 1 ∧ s cb ≠ 1) ∨ (dX = true → s ca = 1 ∧ s cb = 1) := by
        cases dX
        · exact .inr (.inr (fun e => by cases e))
        · by_cases e1 : s ca = 1
          · by_cases e2 : s cb = 1
            · exact .inr (.inr fun _ => ⟨e1, e2⟩)
            · exact .inr (.inl ⟨rfl, e1, e2⟩)
          · exact .inl ⟨rfl, e1⟩
      rcases hsplit with ⟨rfl, e1⟩ | ⟨rfl, e1, e2⟩ | hone
      · have hd1 := decide_eq_false e1
        have HD1 := Lib.hid hd1
        have HE1 := Lib.hid e1
        clear hd1 e1
        have HOa := Lib.hid (fun W (hW : Below w5.heap.size w5 W) => alone_r W pB sB U ca s false hU9 hcaU (HSiz.out _ hW) HD1.out)
        go_wp2_with (first | (go_at_call 66; refine (dalike_r _ S1 S2 _ _ _ _ X Y true (HNp.out _ HA5.out.bel).1 (HNp.out _ HA5.out.bel).2 HAl.out).mono ?_; rintro e w6 ⟨rfl, n6, rfl⟩; obtain ⟨k4, k5⟩ := HM.out (w5.drewN n6) (Below.drewN' (Below.refl _ _) n6)) | (go_at_call 41; refine (disFree_r _ S1 X _ _ (HNp.out _ (Below.drewN' HA5.out.bel n6)).1).mono ?_; rw [HDf.out]; rintro e w6 ⟨rfl, rfl⟩) | (go_at_call 67; ((with_reducible refine (HOa.out _ ?_).mono ?_); (· exact Below.drewN' (Below.refl _ _) n6); rintro e w7 ⟨rfl, hb7⟩; refine cut_ (P := Below w5.heap.size w5 w7) ((Below.drewN' (Below.refl _ w5) n6).trans hb7) (fun hb57 => ?_); obtain ⟨j4, j5⟩ := HM.out w7 hb57; clear hb7)))
        go_ret
        refine .inl ⟨rfl, ?_, HA5.out.bel.trans (hb57.mono HA5.out.bel.size)⟩
        have h2 : 2 ≤ G.cnt c U ca := by have := HE1.out; have := HSa.out; omega
        obtain ⟨z, hz, hcz, hzn⟩ := G.cnt_other (z := a) h2
        exact HP5.out.mt.differ2 HAl2.out (HDfree.out.1 (by first | rfl | trivial)) (by rw [← HCa.out, ← HCb.out]; exact HEq.out) (z := z) (by rw [← HUe.out]; exact hz) (.inl ⟨by rw [hcz]; exact HCa.out, hzn⟩)
      · have hd1 := decide_eq_true e1
        have hd2 := decide_eq_false e2
        have HD1 := Lib.hid hd1
        have HD2 := Lib.hid hd2
        have HE2 := Lib.hid e2
        clear hd1 hd2 e1 e2
        have HOa := Lib.hid (fun W (hW : Below w5.heap.size w5 W) => alone_r W pB sB U ca s true hU9 hcaU (HSiz.out _ hW) HD1.out)
        have HOb := Lib.hid (fun W (hW : Below w5.heap.size w5 W) => alone_r W pB sB U cb s false hU9 hcbU (HSiz.out _ hW) HD2.out)
        go_wp2_with (first | (go_at_call 66; refine (dalike_r _ S1 S2 _ _ _ _ X Y true (HNp.out _ HA5.out.bel).1 (HNp.out _ HA5.out.bel).2 HAl.out).mono ?_; rintro e w6 ⟨rfl, n6, rfl⟩; obtain ⟨k4, k5⟩ := HM.out (w5.drewN n6) (Below.drewN' (Below.refl _ _) n6)) | (go_at_call 41; refine (disFree_r _ S1 X _ _ (HNp.out _ (Below.drewN' HA5.out.bel n6)).1).mono ?_; rw [HDf.out]; rintro e w6 ⟨rfl, rfl⟩) | (go_at_call 67; ((with_reducible refine (HOa.out _ ?_).mono ?_); (· exact Below.drewN' (Below.refl _ _) n6); rintro e w7 ⟨rfl, hb7⟩; refine cut_ (P := Below w5.heap.size w5 w7) ((Below.drewN' (Below.refl _ w5) n6).trans hb7) (fun hb57 => ?_); obtain ⟨j4, j5⟩ := HM.out w7 hb57; clear hb7)) | (go_at_call 67; ((with_reducible refine (HOb.out _ ?_).mono ?_); (· with_reducible assumption); rintro e w8 ⟨rfl, hb8⟩; refine cut_ (P := Below w5.heap.size w5 w8) (hb57.trans (hb8.mono hb57.size)) (fun hb58 => ?_); clear hb8)))
        go_ret
        refine .inl ⟨rfl, ?_, HA5.out.bel.trans (hb58.mono HA5.out.bel.size)⟩
        have h2 : 2 ≤ G.cnt c U cb := by have := HE2.out; have := HSb.out; omega
        obtain ⟨z, hz, hcz, hzn⟩ := G.cnt_other (z := g.nodes.length + b) h2
        exact HP5.out.mt.differ2 HAl2.out (HDfree.out.1 (by first | rfl | trivial)) (by rw [← HCa.out, ← HCb.out]; exact HEq.out) (z := z) (by rw [← HUe.out]; exact hz) (.inr ⟨by rw [hcz]; exact HCb.out, hzn⟩)
      · have HOne := Lib.hid hone
        clear hone
        cases dX
        · go_wp2_with (first | (go_at_call 66; refine (dalike_r _ S1 S2 _ _ _ _ X Y true (HNp.out _ HA5.out.bel).1 (HNp.out _ HA5.out.bel).2 HAl.out).mono ?_; rintro e w6 ⟨rfl, n6, rfl⟩; obtain ⟨k4, k5⟩ := HM.out (w5.drewN n6) (Below.drewN' (Below.refl _ _) n6)) | (go_at_call 41; refine (disFree_r _ S1 X _ _ (HNp.out _ (Below.drewN' HA5.out.bel n6)).1).mono ?_; rw [HDf.out]; rintro e w6 ⟨rfl, rfl⟩))
          have hbj := Below.drewN' (Below.refl w5.heap.size w5) n6
          generalize w5.drewN n6 = wj at hbj k4 k5 ⊢
          have haj := HA5.out.new hbj
          have hpj : NumAt wj pB U p5 := by rw [HUe.out]; exact haj.par
          have hsj : NumAt wj sB U s := by rw [HUe.out]; exact haj.siz
          have hjoin := join_r wj pB sB U ca cb p5 s c r B0 hU9 hcaU hcbU (by rw [HCa.out]; exact HP5.out.uf.cc (by omega)) (by rw [HCb.out]; exact HP5.out.uf.cc (by omega)) HEq.out haj.ps (by rw [HUe.out]; exact HP5.out.uf) (by rw [HUe.out]; exact HP5.out.sz) hpj hsj
          have HAj := Lib.hid haj
          have HJoin := Lib.hid hjoin
          clear haj hpj hsj hjoin
          refine HJoin.out.mono ?_
          rintro e w9 ⟨rfl, p9, s9, c9, r9, B9, huf9, hsz9, hc9, hp9, hs9, hk9⟩
          rw [HUe.out] at huf9 hsz9 hp9 hs9
          have ha9 := HAj.out.setBoth hk9 hp9 hs9
          have HA9 := Lib.hid ha9
          have HUf9 := Lib.hid huf9
          have HSz9 := Lib.hid hsz9
          have HC9 := Lib.hid hc9
          obtain ⟨xA, yA, xL, yL, f0, f1, f2, f3, f4, hvx⟩ := (HNp.out _ ha9.bel).1.val
          obtain ⟨xA', yA', xL', yL', g0, g1, g2, g3, g4, hvy⟩ := (HNp.out _ ha9.bel).2.val
          have HVx := Lib.hid hvx
          have HVy := Lib.hid hvy
          have hxl := hvx.2.1
          have hxm := hvx.2.2.1
          have hyl := hvy.2.1
          have hym := hvy.2.2.1
          unfold maxLen at hxm hym
          have hXY : X.args.length = Y.args.length := by
            have h1 := HAl2.out.2.2.2.1
            rw [HXf.out, HYf.out] at h1
            simpa [RNd.nd] using h1
          have hbel9 := ha9.bel
          obtain ⟨qs, hqs⟩ : ∃ qs, qs = List.zip (g.gr.f a).args (h.gr.f b).args := ⟨_, rfl⟩
          have hql : qs.length = X.args.length := by rw [hqs, HXf.out, HYf.out, List.length_zip]; simp [RNd.nd, hXY]
          have hqk : ∀ k (hk : k < X.args.length) (hq : k < qs.length), ∃ (hk' : k < Y.args.length), X.args[k] = ((qs[k].1 : Nat) : Int) ∧ Y.args[k] = ((qs[k].2 : Nat) : Int) ∧ qs[k].1 < g.nodes.length ∧ qs[k].2 < h.nodes.length := fun k hk hq => by
            have hk' : k < Y.args.length := by omega
            refine ⟨hk', ?_⟩
            have e1 : qs[k] = ((X.args[k]).toNat, (Y.args[k]).toNat) := by
              subst hqs
              simp [HXf.out, HYf.out, RNd.nd]
            have a1 := RNd.within_args HXok.out _ (List.getElem_mem hk)
            have a2 := RNd.within_args HYok.out _ (List.getElem_mem hk')
            rw [e1]
            simp only []
            omega
          have HXY := Lib.hid hXY
          have HQk := Lib.hid hqk
          have HQl := Lib.hid hql
          have HQs := Lib.hid hqs
          have hall : ∀ k, (∀ q, q ∈ (G.lookAll (L, left) (qs.take k)).1 → q.1 < g.nodes.length ∧ q.2 < h.nodes.length) ∧ (G.lookAll (L, left) (qs.take k)).1.length ≤ 2199023255552 ∧ (G.lookAll (L, left) (qs.take k)).2.length ≤ 2199023255552 ∧ (G.lookAll (L, left) (qs.take k)).2.length + L.length = left.length + (G.lookAll (L, left) (qs.take k)).1.length ∧ L.length ≤ (G.lookAll (L, left) (qs.take k)).1.length := fun k => by
            have hK := G.looked_all g.nodes.length h.nodes.length (qs.take k) (L, left)
            have hin : ∀ q, q ∈ (G.lookAll (L, left) (qs.take k)).1 → q.1 < g.nodes.length ∧ q.2 < h.nodes.length := fun q hq => by
              rcases hK.from' q hq with e | e
              · exact ⟨(HP5.out.mt.lk q e).1, (HP5.out.mt.lk q e).2.1⟩
              · obtain ⟨i, hi, rfl⟩ := List.getElem_of_mem (List.mem_of_mem_take e.1)
                obtain ⟨_, _, _, h3, h4⟩ := HQk.out i (by rw [← HQl.out]; exact hi) hi
                exact ⟨h3, h4⟩
            have h1 := pairs_len _ _ (hK.nd HP5.out.mt.nd) hin
            have h2 : g.nodes.length * h.nodes.length ≤ 1048576 * 1048576 := Nat.mul_le_mul hgN hhN
            have h3 := hK.len
            have h4 := hK.lenle
            simp only [] at h3 h4
            exact ⟨hin, by omega, by omega, h3, h4⟩
          have HAll := Lib.hid hall
          clear hqk hqs hql hall hXY f0 f1 f3 f4 g0 g1 g3 g4 ha9 huf9 hsz9 hc9 hp9 hs9 hk9 hvx hvy k4 k5 hbj
          go_wp2
          go_loopw [9, 82] (fun _ i wr => ∃ (k : Nat) (lv' : Value), i = .int .i64 k ∧ k ≤ X.args.length ∧ MtA g h (some ⟨bG, oG', none⟩) (some ⟨bH, oH', none⟩) gc hc w0 B mB mapB pB sB wr lv' p9 s9 (G.lookAll (L, left) (qs.take k)).1 (G.lookAll (L, left) (qs.take k)).2) (fun _ i _ => X.args.length - (intOf i).toNat)
          case atStart => exact ⟨0, lv, rfl, Nat.zero_le _, by rw [List.take_zero]; exact HA9.out⟩
          case round =>
            obtain ⟨k, lv', rfl, hk, har⟩ := hrel
            have HAr := Lib.hid har
            by_cases hlt : k < X.args.length
            · have hlq : k < qs.length := by rw [HQl.out]; exact hlt
              obtain ⟨hlt2, hxk, hyk, hq1, hq2⟩ := HQk.out k hlt hlq
              clear hq1 hq2
              obtain ⟨⟨xk, yk⟩, hq⟩ : ∃ q, q = qs[k] := ⟨_, rfl⟩
              rw [← hq] at hxk hyk
              simp only [] at hxk hyk
              obtain ⟨xb, xo, rfl, hsx, d1⟩ := IntsO.get _ _ HVx.out.2.2.2.2.2.1 k hlt
              obtain ⟨yb, yo, rfl, hsy, d2⟩ := IntsO.get _ _ HVy.out.2.2.2.2.2.1 k hlt2
              rw [hxk] at d1
              rw [hyk] at d2
              have hbG := hS1 _ HVx.out.2.2.2.2.2.2.2
              have hbH := hS2 _ HVy.out.2.2.2.2.2.2.2
              have hxb := hS1 _ hsx
              have hyb := hS2 _ hsy
              have hck : ∀ W, Below w0.heap.size w0 W → (W.cell? ⟨bG, oG' + a * 5 + 2, none⟩ = some (.slice (some ⟨xb, xo, none⟩) X.args.length yA) ∧ W.cell? ⟨xb, xo + k, none⟩ = some (.int .i64 (xk : Int)) ∧ W.cell? ⟨bH, oH' + b * 5 + 2, none⟩ = some (.slice (some ⟨yb, yo, none⟩) Y.args.length yA') ∧ W.cell? ⟨yb, yo + k, none⟩ = some (.int .i64 (yk : Int))) := fun W hW =>
                ⟨(hW.cell (p := ⟨bG, oG' + a * 5 + 2, none⟩) hbG).trans ((hbel9.cell (p := ⟨bG, oG' + a * 5 + 2, none⟩) hbG).symm.trans f2), (hW.cell (p := ⟨xb, xo + k, none⟩) hxb).trans ((hbel9.cell (p := ⟨xb, xo + k, none⟩) hxb).symm.trans d1), (hW.cell (p := ⟨bH, oH' + b * 5 + 2, none⟩) hbH).trans ((hbel9.cell (p := ⟨bH, oH' + b * 5 + 2, none⟩) hbH).symm.trans g2), (hW.cell (p := ⟨yb, yo + k, none⟩) hyb).trans ((hbel9.cell (p := ⟨yb, yo + k, none⟩) hyb).symm.trans d2)⟩
              have HCk := Lib.hid hck
              have hx0 := hck wr HAr.out.bel
              have hbr := HAr.out.bel
              have htk : qs.take (k + 1) = qs.take k ++ [(xk, yk)] := by rw [List.take_add_one, List.getElem?_eq_getElem hlq, ← hq]; rfl
              have hlk : ∀ W, BelC wr W → Calls Try.prog 57 #[.pointer (some ⟨mB, 0, none⟩), .agg #[.int .i64 (xk : Int), .int .i64 (yk : Int)]] W fun e w' => e = .returned (.tuple #[]) ∧ ∃ lv2, MtA g h (some ⟨bG, oG', none⟩) (some ⟨bH, oH', none⟩) gc hc w0 B mB mapB pB sB w' lv2 p9 s9 (G.lookAll (L, left) (qs.take (k + 1))).1 (G.lookAll (L, left) (qs.take (k + 1))).2 := fun W hW => by
                obtain ⟨a1, a2, a3, _, _⟩ := HAll.out k
                have hqk2 := HQk.out k hlt hlq
                rw [← hq] at hqk2
                obtain ⟨_, _, _, b1, b2⟩ := hqk2
                simp only [] at b1 b2
                rw [htk, lookAll_snoc]
                exact (look_r W w0 g h _ _ gc hc B mB mapB pB sB lv' p9 s9 _ _ (xk, yk) (HAr.out.new hW) (fun q hq => ⟨by have := (a1 q hq).1; omega, by have := (a1 q hq).2; omega⟩) ⟨by simp only []; omega, by simp only []; omega⟩ a3 a2).mono fun e w' ⟨he, lv2, h1, _⟩ => ⟨he, lv2, h1⟩
              have HLk := Lib.hid hlk
              have hlt2' : (k : Int) < (Y.args.length : Int) := by omega
              clear hck hq hxk hyk d1 d2 htk hlk f2 g2 hlq hsx hsy
              go_wp2
              go_region_held3 (fun W => W.cell? ⟨bG, oG' + a * 5 + 2, none⟩ = some (.slice (some ⟨xb, xo, none⟩) X.args.length yA) ∧ W.cell? ⟨xb, xo + k, none⟩ = some (.int .i64 (xk : Int)) ∧ W.cell? ⟨bH, oH' + b * 5 + 2, none⟩ = some (.slice (some ⟨yb, yo, none⟩) Y.args.length yA') ∧ W.cell? ⟨yb, yo + k, none⟩ = some (.int .i64 (yk : Int)))
                (first | with_reducible exact hx0 | (with_reducible refine HCk.out _ ?_; (· repeat (first | with_reducible assumption | with_reducible refine Below.drew ?_))))
                (first | (go_at_call 57; refine (HLk.out _ ?_).mono ?_; (· repeat (first | with_reducible exact BelC.refl _ | with_reducible refine BelC.drew ?_)); rintro e w10 ⟨rfl, lv2, har2⟩; have hbel10 := har2.bel; have HAr2 := Lib.hid har2; clear har2))
              go_wp2
              go_roundw
              case rel => exact ⟨k + 1, lv2, by go_num, by omega, HAr2.out⟩
              case measure => simp [intOf]; omega
            · have hk' : k = qs.length := by rw [HQl.out]; omega
              have hfin := HAr.out
              rw [hk', List.take_length, HQs.out] at hfin
              have hall := HAll.out k
              rw [hk', List.take_length, HQs.out] at hall
              have HFin := Lib.hid hfin
              have HAl3 := Lib.hid hall
              have hjn := HP5.out.mt.join (c' := c9) HFg.out HFh.out HAl2.out (fun hfree => ?_) ?_ ?_ ?_
              · have HJn := Lib.hid hjn
                clear hjn hfin hall hk'
                go_wp2
                go_ret
                exact .inr ⟨rfl, lv', p9, s9, c9, r9, B9, _, _, HFin.out, ⟨HUf9.out, HSz9.out, HJn.out⟩, HAl3.out.2.2.2.1, HAl3.out.2.2.2.2⟩
              · obtain ⟨o1, o2⟩ := HOne.out (HDfree.out.2 hfree)
                rw [HSa.out] at o1
                rw [HSb.out] at o2
                refine ⟨fun z hz he => ?_, fun z hz he => ?_⟩
                · by_cases e : z = a
                  · exact e
                  · have := G.cnt_two (c := c) (n := U) (x := ca) (by rw [HUe.out]; exact hz) haU e (by rw [he]; exact HCa.out.symm) HCa.out.symm
                    omega
                · by_cases e : z = g.nodes.length + b
                  · exact e
                  · have := G.cnt_two (c := c) (n := U) (x := cb) (by rw [HUe.out]; exact hz) hbU e (by rw [he]; exact HCb.out.symm) HCb.out.symm
                    omega
              · intro u v e
                rcases HC9.out with e2 | e2 <;> rw [e2] <;> exact G.joinC_1 e
              · rcases HC9.out with e2 | e2 <;> rw [e2]
                · exact G.joinC_2 HCa.out.symm HCb.out.symm
                · exact (G.joinC_2 HCb.out.symm HCa.out.symm).symm
              · intro u v e
                rw [← HCa.out, ← HCb.out]
                rcases HC9.out with e2 | e2 <;> rw [e2] at e
                · exact G.joinC_3 e
                · rcases G.joinC_3 e with e3 | ⟨e3, e4⟩
                  · exact .inl e3
                  · exact .inr ⟨e3.symm, e4.symm⟩
        · obtain ⟨o1, o2⟩ := HOne.out (by first | rfl | trivial)
          have hd1 := decide_eq_true o1
          have hd2 := decide_eq_true o2
          have HD1 := Lib.hid hd1
          have HD2 := Lib.hid hd2
          clear hd1 hd2 o1 o2
          have HOa := Lib.hid (fun W (hW : Below w5.heap.size w5 W) => alone_r W pB sB U ca s true hU9 hcaU (HSiz.out _ hW) HD1.out)
          have HOb := Lib.hid (fun W (hW : Below w5.heap.size w5 W) => alone_r W pB sB U cb s true hU9 hcbU (HSiz.out _ hW) HD2.out)
          go_wp2_with (first | (go_at_call 66; refine (dalike_r _ S1 S2 _ _ _ _ X Y true (HNp.out _ HA5.out.bel).1 (HNp.out _ HA5.out.bel).2 HAl.out).mono ?_; rintro e w6 ⟨rfl, n6, rfl⟩; obtain ⟨k4, k5⟩ := HM.out (w5.drewN n6) (Below.drewN' (Below.refl _ _) n6)) | (go_at_call 41; refine (disFree_r _ S1 X _ _ (HNp.out _ (Below.drewN' HA5.out.bel n6)).1).mono ?_; rw [HDf.out]; rintro e w6 ⟨rfl, rfl⟩) | (go_at_call 67; ((with_reducible refine (HOa.out _ ?_).mono ?_); (· exact Below.drewN' (Below.refl _ _) n6); rintro e w7 ⟨rfl, hb7⟩; refine cut_ (P := Below w5.heap.size w5 w7) ((Below.drewN' (Below.refl _ w5) n6).trans hb7) (fun hb57 => ?_); obtain ⟨j4, j5⟩ := HM.out w7 hb57; clear hb7)) | (go_at_call 67; ((with_reducible refine (HOb.out _ ?_).mono ?_); (· with_reducible assumption); rintro e w8 ⟨rfl, hb8⟩; refine cut_ (P := Below w5.heap.size w5 w8) (hb57.trans (hb8.mono hb57.size)) (fun hb58 => ?_); obtain ⟨k4, k5⟩ := HM.out w8 hb58; clear hb8)))
          have hbj := hb58
          generalize w8 = wj at hbj k4 k5 ⊢
          have haj := HA5.out.new hbj
          have hpj : NumAt wj pB U p5 := by rw [HUe.out]; exact haj.par
          have hsj : NumAt wj sB U s := by rw [HUe.out]; exact haj.siz
          have hjoin := join_r wj pB sB U ca cb p5 s c r B0 hU9 hcaU hcbU (by rw [HCa.out]; exact HP5.out.uf.cc (by omega)) (by rw [HCb.out]; exact HP5.out.uf.cc (by omega)) HEq.out haj.ps (by rw [HUe.out]; exact HP5.out.uf) (by rw [HUe.out]; exact HP5.out.sz) hpj hsj
          have HAj := Lib.hid haj
          have HJoin := Lib.hid hjoin
          clear haj hpj hsj hjoin
          refine HJoin.out.mono ?_
          rintro e w9 ⟨rfl, p9, s9, c9, r9, B9, huf9, hsz9, hc9, hp9, hs9, hk9⟩
          rw [HUe.out] at huf9 hsz9 hp9 hs9
          have ha9 := HAj.out.setBoth hk9 hp9 hs9
          have HA9 := Lib.hid ha9
          have HUf9 := Lib.hid huf9
          have HSz9 := Lib.hid hsz9
          have HC9 := Lib.hid hc9
          obtain ⟨xA, yA, xL, yL, f0, f1, f2, f3, f4, hvx⟩ := (HNp.out _ ha9.bel).1.val
          obtain ⟨xA', yA', xL', yL', g0, g1, g2, g3, g4, hvy⟩ := (HNp.out _ ha9.bel).2.val
          have HVx := Lib.hid hvx
          have HVy := Lib.hid hvy
          have hxl := hvx.2.1
          have hxm := hvx.2.2.1
          have hyl := hvy.2.1
          have hym := hvy.2.2.1
          unfold maxLen at hxm hym
          have hXY : X.args.length = Y.args.length := by
            have h1 := HAl2.out.2.2.2.1
            rw [HXf.out, HYf.out] at h1
            simpa [RNd.nd] using h1
          have hbel9 := ha9.bel
          obtain ⟨qs, hqs⟩ : ∃ qs, qs = List.zip (g.gr.f a).args (h.gr.f b).args := ⟨_, rfl⟩
          have hql : qs.length = X.args.length := by rw [hqs, HXf.out, HYf.out, List.length_zip]; simp [RNd.nd, hXY]
          have hqk : ∀ k (hk : k < X.args.length) (hq : k < qs.length), ∃ (hk' : k < Y.args.length), X.args[k] = ((qs[k].1 : Nat) : Int) ∧ Y.args[k] = ((qs[k].2 : Nat) : Int) ∧ qs[k].1 < g.nodes.length ∧ qs[k].2 < h.nodes.length := fun k hk hq => by
            have hk' : k < Y.args.length := by omega
            refine ⟨hk', ?_⟩
            have e1 : qs[k] = ((X.args[k]).toNat, (Y.args[k]).toNat) := by
              subst hqs
              simp [HXf.out, HYf.out, RNd.nd]
            have a1 := RNd.within_args HXok.out _ (List.getElem_mem hk)
            have a2 := RNd.within_args HYok.out _ (List.getElem_mem hk')
            rw [e1]
            simp only []
            omega
          have HXY := Lib.hid hXY
          have HQk := Lib.hid hqk
          have HQl := Lib.hid hql
          have HQs := Lib.hid hqs
          have hall : ∀ k, (∀ q, q ∈ (G.lookAll (L, left) (qs.take k)).1 → q.1 < g.nodes.length ∧ q.2 < h.nodes.length) ∧ (G.lookAll (L, left) (qs.take k)).1.length ≤ 2199023255552 ∧ (G.lookAll (L, left) (qs.take k)).2.length ≤ 2199023255552 ∧ (G.lookAll (L, left) (qs.take k)).2.length + L.length = left.length + (G.lookAll (L, left) (qs.take k)).1.length ∧ L.length ≤ (G.lookAll (L, left) (qs.take k)).1.length := fun k => by
            have hK := G.looked_all g.nodes.length h.nodes.length (qs.take k) (L, left)
            have hin : ∀ q, q ∈ (G.lookAll (L, left) (qs.take k)).1 → q.1 < g.nodes.length ∧ q.2 < h.nodes.length := fun q hq => by
              rcases hK.from' q hq with e | e
              · exact ⟨(HP5.out.mt.lk q e).1, (HP5.out.mt.lk q e).2.1⟩
              · obtain ⟨i, hi, rfl⟩ := List.getElem_of_mem (List.mem_of_mem_take e.1)
                obtain ⟨_, _, _, h3, h4⟩ := HQk.out i (by rw [← HQl.out]; exact hi) hi
                exact ⟨h3, h4⟩
            have h1 := pairs_len _ _ (hK.nd HP5.out.mt.nd) hin
            have h2 : g.nodes.length * h.nodes.length ≤ 1048576 * 1048576 := Nat.mul_le_mul hgN hhN
            have h3 := hK.len
            have h4 := hK.lenle
            simp only [] at h3 h4
            exact ⟨hin, by omega, by omega, h3, h4⟩
          have HAll := Lib.hid hall
          clear hqk hqs hql hall hXY f0 f1 f3 f4 g0 g1 g3 g4 ha9 huf9 hsz9 hc9 hp9 hs9 hk9 hvx hvy k4 k5 hbj
          go_wp2
          go_loopw [9, 82] (fun _ i wr => ∃ (k : Nat) (lv' : Value), i = .int .i64 k ∧ k ≤ X.args.length ∧ MtA g h (some ⟨bG, oG', none⟩) (some ⟨bH, oH', none⟩) gc hc w0 B mB mapB pB sB wr lv' p9 s9 (G.lookAll (L, left) (qs.take k)).1 (G.lookAll (L, left) (qs.take k)).2) (fun _ i _ => X.args.length - (intOf i).toNat)
          case atStart => exact ⟨0, lv, rfl, Nat.zero_le _, by rw [List.take_zero]; exact HA9.out⟩
          case round =>
            obtain ⟨k, lv', rfl, hk, har⟩ := hrel
            have HAr := Lib.hid har
            by_cases hlt : k < X.args.length
            · have hlq : k < qs.length := by rw [HQl.out]; exact hlt
              obtain ⟨hlt2, hxk, hyk, hq1, hq2⟩ := HQk.out k hlt hlq
              clear hq1 hq2
              obtain ⟨⟨xk, yk⟩, hq⟩ : ∃ q, q = qs[k] := ⟨_, rfl⟩
              rw [← hq] at hxk hyk
              simp only [] at hxk hyk
              obtain ⟨xb, xo, rfl, hsx, d1⟩ := IntsO.get _ _ HVx.out.2.2.2.2.2.1 k hlt
              obtain ⟨yb, yo, rfl, hsy, d2⟩ := IntsO.get _ _ HVy.out.2.2.2.2.2.1 k hlt2
              rw [hxk] at d1
              rw [hyk] at d2
              have hbG := hS1 _ HVx.out.2.2.2.2.2.2.2
              have hbH := hS2 _ HVy.out.2.2.2.2.2.2.2
              have hxb := hS1 _ hsx
              have hyb := hS2 _ hsy
              have hck : ∀ W, Below w0.heap.size w0 W → (W.cell? ⟨bG, oG' + a * 5 + 2, none⟩ = some (.slice (some ⟨xb, xo, none⟩) X.args.length yA) ∧ W.cell? ⟨xb, xo + k, none⟩ = some (.int .i64 (xk : Int)) ∧ W.cell? ⟨bH, oH' + b * 5 + 2, none⟩ = some (.slice (some ⟨yb, yo, none⟩) Y.args.length yA') ∧ W.cell? ⟨yb, yo + k, none⟩ = some (.int .i64 (yk : Int))) := fun W hW =>
                ⟨(hW.cell (p := ⟨bG, oG' + a * 5 + 2, none⟩) hbG).trans ((hbel9.cell (p := ⟨bG, oG' + a * 5 + 2, none⟩) hbG).symm.trans f2), (hW.cell (p := ⟨xb, xo + k, none⟩) hxb).trans ((hbel9.cell (p := ⟨xb, xo + k, none⟩) hxb).symm.trans d1), (hW.cell (p := ⟨bH, oH' + b * 5 + 2, none⟩) hbH).trans ((hbel9.cell (p := ⟨bH, oH' + b * 5 + 2, none⟩) hbH).symm.trans g2), (hW.cell (p := ⟨yb, yo + k, none⟩) hyb).trans ((hbel9.cell (p := ⟨yb, yo + k, none⟩) hyb).symm.trans d2)⟩
              have HCk := Lib.hid hck
              have hx0 := hck wr HAr.out.bel
              have hbr := HAr.out.bel
              have htk : qs.take (k + 1) = qs.take k ++ [(xk, yk)] := by rw [List.take_add_one, List.getElem?_eq_getElem hlq, ← hq]; rfl
              have hlk : ∀ W, BelC wr W → Calls Try.prog 57 #[.pointer (some ⟨mB, 0, none⟩), .agg #[.int .i64 (xk : Int), .int .i64 (yk : Int)]] W fun e w' => e = .returned (.tuple #[]) ∧ ∃ lv2, MtA g h (some ⟨bG, oG', none⟩) (some ⟨bH, oH', none⟩) gc hc w0 B mB mapB pB sB w' lv2 p9 s9 (G.lookAll (L, left) (qs.take (k + 1))).1 (G.lookAll (L, left) (qs.take (k + 1))).2 := fun W hW => by
                obtain ⟨a1, a2, a3, _, _⟩ := HAll.out k
                have hqk2 := HQk.out k hlt hlq
                rw [← hq] at hqk2
                obtain ⟨_, _, _, b1, b2⟩ := hqk2
                simp only [] at b1 b2
                rw [htk, lookAll_snoc]
                exact (look_r W w0 g h _ _ gc hc B mB mapB pB sB lv' p9 s9 _ _ (xk, yk) (HAr.out.new hW) (fun q hq => ⟨by have := (a1 q hq).1; omega, by have := (a1 q hq).2; omega⟩) ⟨by simp only []; omega, by simp only []; omega⟩ a3 a2).mono fun e w' ⟨he, lv2, h1, _⟩ => ⟨he, lv2, h1⟩
              have HLk := Lib.hid hlk
              have hlt2' : (k : Int) < (Y.args.length : Int) := by omega
              clear hck hq hxk hyk d1 d2 htk hlk f2 g2 hlq hsx hsy
              go_wp2
              go_region_held3 (fun W => W.cell? ⟨bG, oG' + a * 5 + 2, none⟩ = some (.slice (some ⟨xb, xo, none⟩) X.args.length yA) ∧ W.cell? ⟨xb, xo + k, none⟩ = some (.int .i64 (xk : Int)) ∧ W.cell? ⟨bH, oH' + b * 5 + 2, none⟩ = some (.slice (some ⟨yb, yo, none⟩) Y.args.length yA') ∧ W.cell? ⟨yb, yo + k, none⟩ = some (.int .i64 (yk : Int)))
                (first | with_reducible exact hx0 | (with_reducible refine HCk.out _ ?_; (· repeat (first | with_reducible assumption | with_reducible refine Below.drew ?_))))
                (first | (go_at_call 57; refine (HLk.out _ ?_).mono ?_; (· repeat (first | with_reducible exact BelC.refl _ | with_reducible refine BelC.drew ?_)); rintro e w10 ⟨rfl, lv2, har2⟩; have hbel10 := har2.bel; have HAr2 := Lib.hid har2; clear har2))
              go_wp2
              go_roundw
              case rel => exact ⟨k + 1, lv2, by go_num, by omega, HAr2.out⟩
              case measure => simp [intOf]; omega
            · have hk' : k = qs.length := by rw [HQl.out]; omega
              have hfin := HAr.out
              rw [hk', List.take_length, HQs.out] at hfin
              have hall := HAll.out k
              rw [hk', List.take_length, HQs.out] at hall
              have HFin := Lib.hid hfin
              have HAl3 := Lib.hid hall
              have hjn := HP5.out.mt.join (c' := c9) HFg.out HFh.out HAl2.out (fun hfree => ?_) ?_ ?_ ?_
              · have HJn := Lib.hid hjn
                clear hjn hfin hall hk'
                go_wp2
                go_ret
                exact .inr ⟨rfl, lv', p9, s9, c9, r9, B9, _, _, HFin.out, ⟨HUf9.out, HSz9.out, HJn.out⟩, HAl3.out.2.2.2.1, HAl3.out.2.2.2.2⟩
              · obtain ⟨o1, o2⟩ := HOne.out (HDfree.out.2 hfree)
                rw [HSa.out] at o1
                rw [HSb.out] at o2
                refine ⟨fun z hz he => ?_, fun z hz he => ?_⟩
                · by_cases e : z = a
                  · exact e
                  · have := G.cnt_two (c := c) (n := U) (x := ca) (by rw [HUe.out]; exact hz) haU e (by rw [he]; exact HCa.out.symm) HCa.out.symm
                    omega
                · by_cases e : z = g.nodes.length + b
                  · exact e
                  · have := G.cnt_two (c := c) (n := U) (x := cb) (by rw [HUe.out]; exact hz) hbU e (by rw [he]; exact HCb.out.symm) HCb.out.symm
                    omega
              · intro u v e
                rcases HC9.out with e2 | e2 <;> rw [e2] <;> exact G.joinC_1 e
              · rcases HC9.out with e2 | e2 <;> rw [e2]
                · exact G.joinC_2 HCa.out.symm HCb.out.symm
                · exact (G.joinC_2 HCb.out.symm HCa.out.symm).symm
              · intro u v e
                rw [← HCa.out, ← HCb.out]
                rcases HC9.out with e2 | e2 <;> rw [e2] at e
                · exact G.joinC_3 e
                · rcases G.joinC_3 e with e3 | ⟨e3, e4⟩
                  · exact .inl e3
                  · exact .inr ⟨e3.symm, e4.symm⟩
end Go.Proofs.Ytnhdgndjpkdhdaa

/-
  A type's fresh copy, and a pair of both: plain facts.
-/
/-
  A fresh copy is the same type: plain facts.
-/
import Derived.Test.YtnhdgndjpkdhdaaNE
namespace Go.Proofs.Ytnhdgndjpkdhdaa
open Go.RowKit

theorem fa_get (g : RGr) (i : Nat) (h : i < g.nodes.length) : g.fa i = g.nodes[i].args.map Int.toNat := by
  simp [RGr.fa, G.Gr.f, RGr.gr, RNd.nd, h]
theorem fr_get (g : RGr) (i : Nat) (h : i < g.nodes.length) : g.fr i = g.nodes[i].free := RGr.fr_eq g i h
theorem ok_root {g : RGr} (h : g.ok = true) : 0 ≤ g.root ∧ g.root < g.nodes.length := by
  simp only [RGr.ok, Bool.and_eq_true, decide_eq_true_eq] at h
  exact h.2.1
theorem ok_nodeM {g : RGr} (h : g.ok = true) : ∀ x, x ∈ g.nodes → x.ok g.nodes.length = true := by
  simp only [RGr.ok, Bool.and_eq_true] at h
  exact fun x hx => List.all_eq_true.1 h.2.2 x hx
theorem mem_reach {g : RGr} (h : g.ok = true) (x : Nat) : x ∈ g.reach ↔ G.Way g.fa g.root.toNat x := by
  rw [reach_eq]
  exact G.mem_visit (fa_lt h) (by have := ok_root h; omega) x
def toC (N : Nat) (C : List Nat) (x : Nat) : Nat := toK N C C.length x
theorem toC_in {N : Nat} {C : List Nat} {x : Nat} (h : x ∈ C) : toC N C x = N + C.idxOf x := by
  unfold toC toK
  rw [List.take_length, if_pos h]
theorem toC_out {N : Nat} {C : List Nat} {x : Nat} (h : x ∉ C) : toC N C x = x := by
  unfold toC toK
  rw [List.take_length, if_neg h]
theorem toC_lt {N : Nat} {C : List Nat} {x : Nat} (hx : x < N) : toC N C x < N + C.length := by
  by_cases h : x ∈ C
  · rw [toC_in h]; have := List.idxOf_lt_length_iff.2 h; omega
  · rw [toC_out h]; omega
theorem fresh_nodes (g : RGr) (C : List Nat) : (g.freshOf C).nodes = g.nodes ++ C.map fun a => (g.nd a).ren (toC g.nodes.length C) := rfl
theorem fresh_root (g : RGr) (C : List Nat) : (g.freshOf C).root = ((toC g.nodes.length C g.root.toNat : Nat) : Int) := rfl
theorem fresh_len (g : RGr) (C : List Nat) : (g.freshOf C).nodes.length = g.nodes.length + C.length := by rw [fresh_nodes]; simp

/-- What a graph has of another one and of the copies of some of its nodes. -/
structure Copied (g : RGr) (C : List Nat) (h : RGr) : Prop where
  old : ∀ i, i < g.nodes.length → h.fa i = g.fa i ∧ h.fr i = g.fr i
  new : ∀ x, x ∈ C → h.fa (toC g.nodes.length C x) = (g.fa x).map (toC g.nodes.length C) ∧ h.fr (toC g.nodes.length C x) = g.fr x
theorem copied_app {g : RGr} {C : List Nat} (hC : ∀ x, x ∈ C → x < g.nodes.length) (l : List RNd) (r : Int) : Copied g C ⟨(g.freshOf C).nodes ++ l, r⟩ := by
  refine ⟨fun i hi => ?_, fun x hx => ?_⟩
  · have h1 : i < ((g.freshOf C).nodes ++ l).length := by rw [List.length_append, fresh_len]; omega
    have h2 : ((g.freshOf C).nodes ++ l)[i] = g.nodes[i] := by
      rw [List.getElem_append_left (by rw [fresh_len]; omega)]
      simp only [fresh_nodes]
      rw [List.getElem_append_left hi]
    rw [fa_get _ i h1, fa_get _ i hi, fr_get _ i h1, fr_get _ i hi]
    simp only [h2, and_self]
  · have hk := List.idxOf_lt_length_iff.2 hx
    have h1 : g.nodes.length + C.idxOf x < ((g.freshOf C).nodes ++ l).length := by rw [List.length_append, fresh_len]; omega
    have h2 : ((g.freshOf C).nodes ++ l)[g.nodes.length + C.idxOf x] = (g.nd x).ren (toC g.nodes.length C) := by
      rw [List.getElem_append_left (by rw [fresh_len]; omega)]
      simp only [fresh_nodes]
      rw [List.getElem_append_right (by omega)]
      simp
    rw [toC_in hx, fa_get _ _ h1, fa_get _ x (hC x hx), fr_get _ _ h1, fr_get _ x (hC x hx)]
    simp only [h2]
    rw [g.nd_eq x (hC x hx)]
    refine ⟨?_, rfl⟩
    unfold RNd.ren
    simp only [List.map_map]
    apply List.map_congr_left
    intro z _
    simp
theorem ren_own (x : RNd) (f : Nat → Nat) : (x.ren f).own = x.own := by
  obtain ⟨k, n, a, l, o⟩ := x
  unfold RNd.own RNd.ren
  simp
theorem ren_ok {N M : Nat} {x : RNd} (h : x.ok N = true) (f : Nat → Nat) (hf : ∀ a, a < N → f a < M) : (x.ren f).ok M = true := by
  simp only [RNd.ok, RNd.within, Bool.and_eq_true, List.all_eq_true, decide_eq_true_eq] at h ⊢
  refine ⟨fun a ha => ?_, by rw [ren_own]; exact h.2⟩
  simp only [RNd.ren, List.mem_map] at ha
  obtain ⟨z, hz, rfl⟩ := ha
  have h1 := h.1 z hz
  have := hf z.toNat (by omega)
  omega
theorem ok_wide {N M : Nat} {x : RNd} (h : x.ok N = true) (hNM : N ≤ M) : x.ok M = true := by
  simp only [RNd.ok, RNd.within, Bool.and_eq_true, List.all_eq_true, decide_eq_true_eq] at h ⊢
  exact ⟨fun a ha => ⟨(h.1 a ha).1, by have := (h.1 a ha).2; omega⟩, h.2⟩
theorem ok_build {g : RGr} (h0 : g.nodes.length ≤ 1048576) (h1 : 0 ≤ g.root) (h2 : g.root < g.nodes.length) (h3 : ∀ x, x ∈ g.nodes → x.ok g.nodes.length = true) : g.ok = true := by
  simp only [RGr.ok, Bool.and_eq_true, decide_eq_true_eq, List.all_eq_true]
  exact ⟨h0, ⟨h1, h2⟩, h3⟩
theorem fresh_node_ok {g : RGr} (h : g.ok = true) {C : List Nat} (hC : ∀ x, x ∈ C → x < g.nodes.length) : ∀ x, x ∈ (g.freshOf C).nodes → x.ok (g.nodes.length + C.length) = true := fun x hx => by
  rw [fresh_nodes] at hx
  rcases List.mem_append.1 hx with h1 | h1
  · exact ok_wide (ok_nodeM h x h1) (by omega)
  · obtain ⟨a, ha, rfl⟩ := List.mem_map.1 h1
    have haN := hC a ha
    exact ren_ok (N := g.nodes.length) (by rw [g.nd_eq a haN]; exact ok_nodeM h _ (List.getElem_mem haN)) _ (fun z hz => toC_lt hz)
theorem fresh_ok {g : RGr} (h : g.ok = true) {C : List Nat} (hC : ∀ x, x ∈ C → x < g.nodes.length) (hn : g.nodes.length + C.length ≤ 1048576) : (g.freshOf C).ok = true := by
  have hr := ok_root h
  refine ok_build (by rw [fresh_len]; exact hn) (by rw [fresh_root]; omega) ?_ (fun x hx => by rw [fresh_len]; exact fresh_node_ok h hC x hx)
  rw [fresh_root, fresh_len]
  have := toC_lt (N := g.nodes.length) (C := C) (x := g.root.toNat) (by omega)
  omega

/-- What isn't copied leads to nothing that is. -/
theorem cop_step {g : RGr} (h : g.ok = true) {M : List Nat} {b y : Nat} (hb : b ∈ g.reach) (hn : b ∉ g.copL M) (hy : y ∈ g.fa b) : y ∉ g.copL M := fun hc => by
  have hbN := (reach_facts h).2.1 b hb
  have hyc := (List.mem_filter.1 hc).2
  obtain ⟨m, hm, hw⟩ := (genrl_way h (copL_lt h M y hc)).1 hyc
  refine hn (List.mem_filter.2 ⟨hb, (genrl_way h hbN).2 ⟨m, hm, ?_⟩⟩)
  exact (G.Way.one hy).trans hw
theorem reach_step {g : RGr} (h : g.ok = true) {a b : Nat} (ha : a ∈ g.reach) (hw : G.Way g.fa a b) : b ∈ g.reach := by
  rw [mem_reach h] at ha ⊢
  exact ha.trans hw
section
variable {g h : RGr} {M : List Nat}
theorem way_old (hok : g.ok = true) (hc : Copied g (g.copL M) h) {i x : Nat} (hi : i < g.nodes.length) : G.Way h.fa i x ↔ G.Way g.fa i x := by
  constructor
  · intro hw
    induction hw with
    | here => exact .here
    | step hw hy ih =>
      have hl := ih.lt (fa_lt hok) hi
      rw [(hc.old _ hl).1] at hy
      exact .step ih hy
  · intro hw
    induction hw with
    | here => exact .here
    | step hw hy ih =>
      have hl := hw.lt (fa_lt hok) hi
      rw [← (hc.old _ hl).1] at hy
      exact .step ih hy
theorem way_new (hok : g.ok = true) (hc : Copied g (g.copL M) h) {a x : Nat} (ha : a ∈ g.reach) : G.Way h.fa (toC g.nodes.length (g.copL M) a) x ↔ ∃ b, G.Way g.fa a b ∧ x = toC g.nodes.length (g.copL M) b := by
  constructor
  · intro hw
    induction hw with
    | here => exact ⟨a, .here, rfl⟩
    | step hw hy ih =>
      obtain ⟨b, hb, rfl⟩ := ih
      by_cases hbC : b ∈ g.copL M
      · rw [(hc.new b hbC).1] at hy
        obtain ⟨z, hz, rfl⟩ := List.mem_map.1 hy
        exact ⟨z, .step hb hz, rfl⟩
      · have hbr := reach_step hok ha hb
        rw [toC_out hbC, (hc.old b ((reach_facts hok).2.1 b hbr)).1] at hy
        exact ⟨_, .step hb hy, (toC_out (cop_step hok hbr hbC hy)).symm⟩
  · rintro ⟨b, hb, rfl⟩
    induction hb with
    | here => exact .here
    | @step b y hb hy ih =>
      by_cases hbC : b ∈ g.copL M
      · exact .step ih (by rw [(hc.new b hbC).1]; exact List.mem_map_of_mem hy)
      · have hbr := reach_step hok ha hb
        rw [toC_out (cop_step hok hbr hbC hy)]
        rw [toC_out hbC] at ih
        exact .step ih (by rw [(hc.old b ((reach_facts hok).2.1 b hbr)).1]; exact hy)
end
/-- Of what is copied just the generic nodes are free. -/
theorem cop_free {g : RGr} (h : g.ok = true) {M : List Nat} (hM : ∀ m, m ∈ M → m < g.nodes.length) : ((g.copL M).filter g.fr).Perm (g.genL M) := by
  refine (List.perm_ext_iff_of_nodup ((copL_nodup h M).filter _) ((List.nodup_range).filter _)).2 fun x => ?_
  have hmg : ∀ y, y ∈ g.genL M ↔ y < g.nodes.length ∧ y ∈ g.reach ∧ g.isHeld M y = false ∧ g.fr y = true := fun y => by
    unfold RGr.genL
    simp only [List.mem_filter, List.mem_range, Bool.and_eq_true, Bool.not_eq_true', decide_eq_true_eq]
  have hmc : x ∈ g.copL M ↔ x ∈ g.reach ∧ g.genrl M x = true := List.mem_filter
  rw [List.mem_filter, hmc, show x ∈ List.filter _ (List.range g.nodes.length) ↔ _ from hmg x]
  constructor
  · rintro ⟨⟨h1, h2⟩, h3⟩
    have hN := (reach_facts h).2.1 x h1
    refine ⟨hN, h1, ?_, h3⟩
    rcases hh : g.isHeld M x with _ | _
    · rfl
    · obtain ⟨m, hm, hw⟩ := (genrl_way h hN).1 h2
      obtain ⟨k, hk, hv⟩ := (isHeld_iff h hM x).1 hh
      have := (isHeld_iff h hM m).2 ⟨k, hk, hv.trans hw⟩
      rw [((hmg m).1 hm).2.2.1] at this
      cases this
  · rintro ⟨hN, h1, h2, h3⟩
    exact ⟨⟨h1, (genrl_way h hN).2 ⟨x, (hmg x).2 ⟨hN, h1, h2, h3⟩, .here⟩⟩, h3⟩
theorem idx_inj {C : List Nat} {a b : Nat} (ha : a ∈ C) (hb : b ∈ C) (e : C.idxOf a = C.idxOf b) : a = b := by
  have h1 := List.idxOf_lt_length_iff.2 ha
  have h2 := List.idxOf_lt_length_iff.2 hb
  have e1 : C[C.idxOf a] = a := List.getElem_idxOf h1
  have e2 : C[C.idxOf b] = b := List.getElem_idxOf h2
  rw [← e1, ← e2]
  simp only [e]
theorem toC_nodup {N : Nat} {C : List Nat} (hn : C.Nodup) : (C.map (toC N C)).Nodup := by
  unfold List.Nodup
  rw [List.pairwise_map]
  refine List.Pairwise.imp_of_mem ?_ hn
  intro a b ha hb hab e
  rw [toC_in ha, toC_in hb] at e
  exact hab (idx_inj ha hb (by omega))

def starR (a b : Int) : RNd := ⟨2, ⟨#[42]⟩, [a, b], [], false⟩
theorem starR_ok {N : Nat} {a b : Int} (ha : 0 ≤ a ∧ a < N) (hb : 0 ≤ b ∧ b < N) : (starR a b).ok N = true := by
  have h1 : (starR a b).own = true := by
    unfold RNd.own starR
    rw [if_neg (by simp), if_pos rfl]
    have h2 : argsOfB (ByteArray.toList ⟨#[42]⟩) = some 2 := by decide +kernel
    simp only [h2]
    rfl
  simp only [RNd.ok, RNd.within, Bool.and_eq_true, List.all_eq_true, decide_eq_true_eq]
  refine ⟨fun z hz => ?_, h1⟩
  simp only [starR, List.mem_cons, List.not_mem_nil, or_false] at hz
  rcases hz with rfl | rfl
  · exact ha
  · exact hb
/-- A type beside its fresh copy. -/
def RGr.bothOf (g : RGr) (C : List Nat) : RGr := ⟨(g.freshOf C).nodes ++ [starR g.root (g.freshOf C).root], ((g.freshOf C).nodes.length : Nat)⟩
theorem both_len (g : RGr) (C : List Nat) : (g.bothOf C).nodes.length = g.nodes.length + C.length + 1 := by
  unfold RGr.bothOf
  rw [List.length_append, fresh_len]
  rfl
theorem both_ok {g : RGr} (h : g.ok = true) {C : List Nat} (hC : ∀ x, x ∈ C → x < g.nodes.length) (hn : g.nodes.length + C.length + 1 ≤ 1048576) : (g.bothOf C).ok = true := by
  have hr := ok_root h
  have ht := toC_lt (N := g.nodes.length) (C := C) (x := g.root.toNat) (by omega)
  refine ok_build (by rw [both_len]; exact hn) (by unfold RGr.bothOf; simp only; omega) ?_ (fun x hx => ?_)
  · rw [both_len]; unfold RGr.bothOf; simp only [fresh_len]; omega
  · rw [both_len]
    rcases List.mem_append.1 hx with h1 | h1
    · exact ok_wide (fresh_node_ok h hC x h1) (by omega)
    · rw [List.mem_singleton.1 h1]
      exact starR_ok ⟨hr.1, by omega⟩ (by rw [fresh_root]; omega)
theorem both_top (g : RGr) (C : List Nat) : (g.bothOf C).fa (g.nodes.length + C.length) = [g.root.toNat, toC g.nodes.length C g.root.toNat] ∧ (g.bothOf C).fr (g.nodes.length + C.length) = false := by
  have h1 : g.nodes.length + C.length < (g.bothOf C).nodes.length := by rw [both_len]; omega
  have h0 : g.nodes.length + C.length < ((g.freshOf C).nodes ++ [starR g.root (g.freshOf C).root]).length := h1
  have h2 : ((g.freshOf C).nodes ++ [starR g.root (g.freshOf C).root])[g.nodes.length + C.length]'h0 = starR g.root (g.freshOf C).root := by
    rw [List.getElem_append_right (by rw [fresh_len]; omega)]
    simp
  have h3 : (g.bothOf C).nodes[g.nodes.length + C.length]'h1 = starR g.root (g.freshOf C).root := h2
  rw [fa_get _ _ h1, fr_get _ _ h1]
  simp only [h3]
  exact ⟨by simp [starR, fresh_root], rfl⟩
theorem both_way {g : RGr} (h : g.ok = true) {M : List Nat} (x : Nat) : G.Way (g.bothOf (g.copL M)).fa (g.nodes.length + (g.copL M).length) x ↔ x = g.nodes.length + (g.copL M).length ∨ x ∈ g.reach ∨ ∃ b, b ∈ g.reach ∧ x = toC g.nodes.length (g.copL M) b := by
  have hr := ok_root h
  have hc : Copied g (g.copL M) (g.bothOf (g.copL M)) := copied_app (copL_lt h M) _ _
  have hrr : g.root.toNat ∈ g.reach := (mem_reach h _).2 .here
  have h1 : ∀ x, G.Way (g.bothOf (g.copL M)).fa g.root.toNat x ↔ x ∈ g.reach := fun x => by rw [way_old h hc (by omega), mem_reach h]
  have h2 : ∀ x, G.Way (g.bothOf (g.copL M)).fa (toC g.nodes.length (g.copL M) g.root.toNat) x ↔ ∃ b, b ∈ g.reach ∧ x = toC g.nodes.length (g.copL M) b := fun x => by
    rw [way_new h hc hrr]
    constructor
    · rintro ⟨b, hb, e⟩; exact ⟨b, (mem_reach h b).2 hb, e⟩
    · rintro ⟨b, hb, e⟩; exact ⟨b, (mem_reach h b).1 hb, e⟩
  constructor
  · intro hw
    rcases hw.first with e | ⟨b, hb, hw⟩
    · exact .inl e.symm
    · rw [(both_top g _).1] at hb
      simp only [List.mem_cons, List.not_mem_nil, or_false] at hb
      rcases hb with rfl | rfl
      · exact .inr (.inl ((h1 x).1 hw))
      · exact .inr (.inr ((h2 x).1 hw))
  · rintro (rfl | hx | hx)
    · exact .here
    · exact (G.Way.one (by rw [(both_top g _).1]; simp)).trans ((h1 x).2 hx)
    · exact (G.Way.one (by rw [(both_top g _).1]; simp)).trans ((h2 x).2 hx)
theorem both_reach {g : RGr} (h : g.ok = true) {M : List Nat} (hn : g.nodes.length + (g.copL M).length + 1 ≤ 1048576) : (g.bothOf (g.copL M)).reach.Perm ((g.nodes.length + (g.copL M).length) :: (g.reach ++ (g.copL M).map (toC g.nodes.length (g.copL M)))) := by
  have hb := both_ok h (copL_lt h M) hn
  have hlt : ∀ x, x ∈ (g.copL M).map (toC g.nodes.length (g.copL M)) → g.nodes.length ≤ x ∧ x < g.nodes.length + (g.copL M).length := fun x hx => by
    obtain ⟨b, hb, rfl⟩ := List.mem_map.1 hx
    have := List.idxOf_lt_length_iff.2 hb
    rw [toC_in hb]
    omega
  have hrl := (reach_facts h).2.1
  have hnd : ((g.nodes.length + (g.copL M).length) :: (g.reach ++ (g.copL M).map (toC g.nodes.length (g.copL M)))).Nodup := by
    refine List.nodup_cons.2 ⟨fun hm => ?_, List.nodup_append.2 ⟨(reach_facts h).1, toC_nodup (copL_nodup h M), fun a ha b hb e => ?_⟩⟩
    · rcases List.mem_append.1 hm with h1 | h1
      · have := hrl _ h1; omega
      · have := (hlt _ h1).2; omega
    · subst e
      have := hrl _ ha
      have := (hlt _ hb).1
      omega
  refine (List.perm_ext_iff_of_nodup (reach_facts hb).1 hnd).2 fun x => ?_
  have hrt : (g.bothOf (g.copL M)).root.toNat = g.nodes.length + (g.copL M).length := by
    unfold RGr.bothOf
    simp only [fresh_len]
    omega
  rw [mem_reach hb, hrt, both_way h]
  simp only [List.mem_cons, List.mem_append, List.mem_map]
  constructor
  · rintro (e | e | ⟨b, hb, e⟩)
    · exact .inl e
    · exact .inr (.inl e)
    · by_cases hbC : b ∈ g.copL M
      · exact .inr (.inr ⟨b, hbC, e.symm⟩)
      · rw [toC_out hbC] at e
        exact .inr (.inl (e ▸ hb))
  · rintro (e | e | ⟨b, hb, e⟩)
    · exact .inl e
    · exact .inr (.inl e)
    · exact .inr (.inr ⟨b, (List.mem_filter.1 hb).1, e.symm⟩)
/-- The generic nodes stand twice, the fixed ones once. -/
theorem both_free {g : RGr} (h : g.ok = true) {M : List Nat} (hM : ∀ m, m ∈ M → m < g.nodes.length) (hn : g.nodes.length + (g.copL M).length + 1 ≤ 1048576) : ((g.bothOf (g.copL M)).reachU.filter (g.bothOf (g.copL M)).fr).length = (g.reachU.filter g.fr).length + (g.genL M).length := by
  have hb := both_ok h (copL_lt h M) hn
  have hc : Copied g (g.copL M) (g.bothOf (g.copL M)) := copied_app (copL_lt h M) _ _
  rw [reachU_eq hb, reachU_eq h, ((both_reach h hn).filter _).length_eq, List.filter_cons, (both_top g _).2, if_neg (by simp), List.filter_append, List.length_append, List.filter_map, List.length_map, ← (cop_free h hM).length_eq]
  congr 1
  · congr 1
    apply List.filter_congr
    intro x hx
    exact (hc.old x ((reach_facts h).2.1 x hx)).2
  · congr 1
    apply List.filter_congr
    intro x hx
    exact (hc.new x hx).2
end Go.Proofs.Ytnhdgndjpkdhdaa
namespace Go.Proofs.Ytnhdgndjpkdhdaa
open Go.RowKit

theorem toC_inj {N : Nat} {C : List Nat} {a b : Nat} (ha : a < N) (hb : b < N) (e : toC N C a = toC N C b) : a = b := by
  by_cases h1 : a ∈ C
  · by_cases h2 : b ∈ C
    · rw [toC_in h1, toC_in h2] at e
      exact idx_inj h1 h2 (by omega)
    · rw [toC_in h1, toC_out h2] at e; omega
  · by_cases h2 : b ∈ C
    · rw [toC_out h1, toC_in h2] at e; omega
    · rwa [toC_out h1, toC_out h2] at e
theorem fresh_at {g : RGr} {C : List Nat} {b : Nat} (hb : b < g.nodes.length) :
    (g.freshOf C).nd (toC g.nodes.length C b) = if b ∈ C then (g.nd b).ren (toC g.nodes.length C) else g.nd b := by
  by_cases h : b ∈ C
  · have hk := List.idxOf_lt_length_iff.2 h
    rw [if_pos h, toC_in h, RGr.nd_eq _ _ (by rw [fresh_len]; omega)]
    simp only [fresh_nodes]
    rw [List.getElem_append_right (by omega)]
    simp
  · rw [if_neg h, toC_out h, RGr.nd_eq _ _ (by rw [fresh_len]; omega), g.nd_eq b hb]
    simp only [fresh_nodes]
    rw [List.getElem_append_left hb]
/-- A fresh copy is the same type. -/
theorem fresh_same {g : RGr} (h : g.ok = true) (M : List Nat) : G.Same (g.freshOf (g.copL M)).gr.f (g.freshOf (g.copL M)).root.toNat g.gr.f g.root.toNat := by
  have hr := ok_root h
  have hlt := (reach_facts h).2.1
  refine G.Same.of_rel (fun a b => b ∈ g.reach ∧ a = toC g.nodes.length (g.copL M) b) ⟨(mem_reach h _).2 .here, by rw [fresh_root]; omega⟩ ?_ ?_
  · rintro a b ⟨hb, rfl⟩
    rw [gr_nd, gr_nd, fresh_at (hlt b hb)]
    by_cases hbC : b ∈ g.copL M
    · rw [if_pos hbC]
      refine ⟨⟨rfl, rfl, rfl, by simp [RNd.ren, RNd.nd], rfl⟩, fun i x y h1 h2 => ?_⟩
      simp only [RNd.ren, RNd.nd, List.getElem?_map] at h1 h2
      rcases hz : (g.nd b).args[i]? with _ | z
      · rw [hz] at h2; simp at h2
      · rw [hz] at h1 h2
        simp only [Option.map_some, Option.some.injEq] at h1 h2
        subst h2
        have hzm := List.mem_of_getElem? hz
        have hcl := (reach_facts h).2.2.2 b hb z hzm
        exact ⟨hcl.2.2, by rw [← h1]; simp⟩
    · rw [if_neg hbC]
      refine ⟨⟨rfl, rfl, rfl, rfl, rfl⟩, fun i x y h1 h2 => ?_⟩
      rw [h1] at h2
      simp only [Option.some.injEq] at h2
      subst h2
      have hy : x ∈ g.fa b := by
        rw [fa_get g b (hlt b hb)]
        have := List.mem_of_getElem? h1
        rwa [g.nd_eq b (hlt b hb)] at this
      exact ⟨reach_step h hb (G.Way.one hy), (toC_out (cop_step h hb hbC hy)).symm⟩
  · rintro a b a' b' ⟨hb, rfl⟩ ⟨hb', rfl⟩ _
    exact ⟨fun e => toC_inj (hlt b hb) (hlt b' hb') e, fun e => by rw [e]⟩
theorem fresh_reach {g : RGr} (h : g.ok = true) {M : List Nat} (hf : (g.freshOf (g.copL M)).ok = true) (x : Nat) : x ∈ (g.freshOf (g.copL M)).reach ↔ ∃ b, b ∈ g.reach ∧ x = toC g.nodes.length (g.copL M) b := by
  have hc : Copied g (g.copL M) (g.freshOf (g.copL M)) := by
    have := copied_app (copL_lt h M) [] (g.freshOf (g.copL M)).root
    rwa [List.append_nil] at this
  have hrr : g.root.toNat ∈ g.reach := (mem_reach h _).2 .here
  rw [mem_reach hf, fresh_root, show (((toC g.nodes.length (g.copL M) g.root.toNat : Nat) : Int)).toNat = toC g.nodes.length (g.copL M) g.root.toNat by omega, way_new h hc hrr]
  constructor
  · rintro ⟨b, hb, e⟩; exact ⟨b, (mem_reach h b).2 hb, e⟩
  · rintro ⟨b, hb, e⟩; exact ⟨b, (mem_reach h b).1 hb, e⟩
/-- Without monos what is free and reached is copied. -/
theorem free_cop {g : RGr} (h : g.ok = true) {b : Nat} (hb : b ∈ g.reach) (hf : g.fr b = true) : b ∈ g.copL [] := by
  have hN := (reach_facts h).2.1 b hb
  refine List.mem_filter.2 ⟨hb, (genrl_way h hN).2 ⟨b, ?_, .here⟩⟩
  unfold RGr.genL
  simp only [List.mem_filter, List.mem_range, Bool.and_eq_true, Bool.not_eq_true', decide_eq_true_eq]
  refine ⟨hN, hb, ?_, hf⟩
  rcases hh : g.isHeld [] b with _ | _
  · rfl
  · obtain ⟨m, hm, _⟩ := (isHeld_iff h (fun m hm => by cases hm) b).1 hh
    cases hm
theorem fresh_free {g : RGr} (h : g.ok = true) (hf : (g.freshOf (g.copL [])).ok = true) : ∀ x, x ∈ ((g.freshOf (g.copL [])).reachU.filter (g.freshOf (g.copL [])).fr) → g.nodes.length ≤ x := by
  intro x hx
  have hc : Copied g (g.copL []) (g.freshOf (g.copL [])) := by
    have := copied_app (copL_lt h []) [] (g.freshOf (g.copL [])).root
    rwa [List.append_nil] at this
  rw [reachU_eq hf] at hx
  obtain ⟨hx, hfx⟩ := List.mem_filter.1 hx
  obtain ⟨b, hb, rfl⟩ := (fresh_reach h hf x).1 hx
  by_cases hbC : b ∈ g.copL []
  · rw [toC_in hbC]; omega
  · rw [toC_out hbC, (hc.old b ((reach_facts h).2.1 b hb)).2] at hfx
    exact absurd (free_cop h hb hfx) hbC
/-- With Root mono nothing is copied. -/
theorem cop_root {g : RGr} (h : g.ok = true) : g.copL [g.root.toNat] = [] := by
  have hr := ok_root h
  rw [List.eq_nil_iff_forall_not_mem]
  intro x hx
  obtain ⟨hx, hg⟩ := List.mem_filter.1 hx
  have hN := (reach_facts h).2.1 x hx
  obtain ⟨m, hm, hw⟩ := (genrl_way h hN).1 hg
  unfold RGr.genL at hm
  simp only [List.mem_filter, List.mem_range, Bool.and_eq_true, Bool.not_eq_true', decide_eq_true_eq] at hm
  have := (isHeld_iff h (M := [g.root.toNat]) (fun k hk => by rw [List.mem_singleton.1 hk]; omega) m).2 ⟨g.root.toNat, List.mem_singleton.2 rfl, (mem_reach h m).1 hm.2.1⟩
  rw [hm.2.2.1] at this
  cases this
theorem fresh_none {g : RGr} (h : g.ok = true) : g.freshOf [] = g := by
  have hr := ok_root h
  have h1 : (g.freshOf []).nodes = g.nodes := by rw [fresh_nodes]; simp
  have h2 : (g.freshOf []).root = g.root := by rw [fresh_root, toC_out (by simp)]; omega
  obtain ⟨n, r⟩ := g
  simp only at h1 h2
  rw [show (RGr.mk n r).freshOf [] = ⟨((RGr.mk n r).freshOf []).nodes, ((RGr.mk n r).freshOf []).root⟩ from rfl, h1, h2]
theorem cop_none {g : RGr} (h : g.ok = true) : (g.copL []).length = 0 ↔ (g.reachU.filter g.fr).length = 0 := by
  rw [reachU_eq h, List.length_eq_zero_iff, List.length_eq_zero_iff, List.eq_nil_iff_forall_not_mem, List.eq_nil_iff_forall_not_mem]
  constructor
  · intro h1 x hx
    obtain ⟨hx, hf⟩ := List.mem_filter.1 hx
    exact h1 x (free_cop h hx hf)
  · intro h1 x hx
    obtain ⟨hx, hg⟩ := List.mem_filter.1 hx
    obtain ⟨m, hm, hw⟩ := (genrl_way h ((reach_facts h).2.1 x hx)).1 hg
    unfold RGr.genL at hm
    simp only [List.mem_filter, List.mem_range, Bool.and_eq_true, Bool.not_eq_true', decide_eq_true_eq] at hm
    exact h1 m (List.mem_filter.2 ⟨hm.2.1, hm.2.2.2⟩)
/-- What GenSame asks. -/
theorem same_codes {g : RGr} (h : g.ok = true) (hn : g.nodes.length ≤ 500000) : g.fcode [] = 0 ∧ g.freshU [] = g.freshOf (g.copL []) ∧ g.fcode [g.root] = 0 ∧ g.freshU [g.root] = g := by
  have hr := ok_root h
  have hl := copL_len h []
  have m1 : g.mcode [] = 0 := ok_mcode h rfl
  have m2 : g.mcode [g.root] = 0 := ok_mcode h (by simp [RGr.monoOk]; omega)
  have c2 : g.copL ([g.root].map Int.toNat) = [] := cop_root h
  have f1 : g.fcode [] = 0 := by
    unfold RGr.fcode
    rw [if_pos m1, if_pos (by simp only [List.map_nil]; omega)]
  have f2 : g.fcode [g.root] = 0 := by
    unfold RGr.fcode
    rw [if_pos m2, c2, if_pos (by simp only [List.length_nil]; omega)]
  refine ⟨f1, ?_, f2, ?_⟩
  · unfold RGr.freshU
    rw [if_pos f1]
    rfl
  · unfold RGr.freshU
    rw [if_pos f2, c2, fresh_none h]
end Go.Proofs.Ytnhdgndjpkdhdaa

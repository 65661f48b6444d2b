/-
  What is trimmed, once more: plain facts for the laws.
-/
import Derived.Test.YtipehahfbcbigaaGTrm
import Derived.Test.YtipehahfbcbigaaDFits
namespace Go.Proofs.Ytipehahfbcbigaa
open Go.RowKit

theorem toNat_inj : ∀ (l m : List Int), (∀ z, z ∈ l → 0 ≤ z) → (∀ z, z ∈ m → 0 ≤ z) → l.map Int.toNat = m.map Int.toNat → l = m
  | [], [], _, _, _ => rfl
  | [], _ :: _, _, _, h => by simp at h
  | _ :: _, [], _, _, h => by simp at h
  | a :: l, b :: m, h1, h2, h => by
    simp only [List.map_cons, List.cons.injEq] at h
    have ha := h1 a (by simp)
    have hb := h2 b (by simp)
    rw [toNat_inj l m (fun z hz => h1 z (List.mem_cons_of_mem _ hz)) (fun z hz => h2 z (List.mem_cons_of_mem _ hz)) h.2, show a = b by omega]
theorem RNd.nd_inj {x y : RNd} (h1 : ∀ z, z ∈ x.args → 0 ≤ z) (h2 : ∀ z, z ∈ y.args → 0 ≤ z) (h : x.nd = y.nd) : x = y := by
  obtain ⟨k, n, a, l, o⟩ := x
  obtain ⟨k', n', a', l', o'⟩ := y
  simp only [RNd.nd, G.Nd.mk.injEq] at h
  obtain ⟨rfl, rfl, h3, rfl, rfl⟩ := h
  rw [toNat_inj a a' h1 h2 h3]
theorem nds_inj : ∀ (l m : List RNd), (∀ x, x ∈ l → ∀ z, z ∈ x.args → 0 ≤ z) → (∀ x, x ∈ m → ∀ z, z ∈ x.args → 0 ≤ z) → l.map RNd.nd = m.map RNd.nd → l = m
  | [], [], _, _, _ => rfl
  | [], _ :: _, _, _, h => by simp at h
  | _ :: _, [], _, _, h => by simp at h
  | a :: l, b :: m, h1, h2, h => by
    simp only [List.map_cons, List.cons.injEq] at h
    rw [nds_inj l m (fun z hz => h1 z (List.mem_cons_of_mem _ hz)) (fun z hz => h2 z (List.mem_cons_of_mem _ hz)) h.2, RNd.nd_inj (h1 a (by simp)) (h2 b (by simp)) h.1]
theorem RGr.ok_parts {g : RGr} (h : g.ok = true) : g.nodes.length ≤ 1048576 ∧ 0 ≤ g.root ∧ g.root < g.nodes.length ∧ ∀ x, x ∈ g.nodes → x.ok g.nodes.length = true := by
  simp only [RGr.ok, Bool.and_eq_true, decide_eq_true_eq] at h
  exact ⟨h.1, h.2.1.1, h.2.1.2, fun x hx => List.all_eq_true.1 h.2.2 x hx⟩
theorem RGr.gr_inj {g h : RGr} (hg : g.ok = true) (hh : h.ok = true) (e : g.gr = h.gr) : g = h := by
  obtain ⟨_, r1, _, n1⟩ := RGr.ok_parts hg
  obtain ⟨_, r2, _, n2⟩ := RGr.ok_parts hh
  obtain ⟨l, r⟩ := g
  obtain ⟨l', r'⟩ := h
  simp only [RGr.gr, G.Gr.mk.injEq] at e
  simp only [] at r1 r2 n1 n2
  rw [nds_inj l l' (fun x hx z hz => (RNd.within_args (n1 x hx) z hz).1) (fun x hx z hz => (RNd.within_args (n2 x hx) z hz).1) e.1, show r = r' by omega]
theorem RNd.own_cut (R : List Nat) (x : RNd) : (x.cut R).own = x.own := by
  unfold RNd.own RNd.cut
  simp [List.map_eq_nil_iff]
theorem RGr.trim_ok {g : RGr} (h : g.ok = true) : g.trim.ok = true := by
  obtain ⟨f1, f2, f3, f4⟩ := reach_facts h
  have hN := RGr.ok_len h
  obtain ⟨t, ht⟩ := (RGr.ok_fit h).reach_root
  have ht' : g.reach = g.gr.root :: t := ht
  have hl : g.trim.nodes.length = g.reach.length := by simp [RGr.trim]
  simp only [RGr.ok, Bool.and_eq_true, decide_eq_true_eq]
  rw [hl]
  refine ⟨by omega, ⟨Int.le_refl _, ?_⟩, ?_⟩
  · show (0 : Int) < _
    rw [ht']; simp only [List.length_cons]; omega
  · rw [List.all_eq_true]
    intro x hx
    obtain ⟨a, ha, rfl⟩ := List.mem_map.1 hx
    have hok := ok_node h a (f2 a ha)
    rw [← g.nd_eq a (f2 a ha)] at hok
    simp only [RNd.ok, Bool.and_eq_true] at hok ⊢
    refine ⟨?_, by rw [RNd.own_cut]; exact hok.2⟩
    unfold RNd.within
    rw [List.all_eq_true]
    intro z hz
    obtain ⟨y, hy, rfl⟩ := List.mem_map.1 hz
    have := List.idxOf_lt_length_of_mem (f4 a ha y hy).2.2
    simp only [Bool.and_eq_true, decide_eq_true_eq]
    omega
theorem RGr.trim_trimU {g : RGr} (h : g.ok = true) : g.trim.trimU = g.trim := by
  have h1 := RGr.trim_ok h
  have h2 := RGr.trim_ok h1
  unfold RGr.trimU
  rw [if_pos h1]
  apply RGr.gr_inj h2 h1
  rw [trim_gr, trim_gr]
  exact (RGr.ok_fit h).trim_trim
theorem RGr.trim_same {g : RGr} (h : g.ok = true) : G.Same g.gr.f g.root.toNat g.trim.gr.f g.trim.root.toNat := by
  rw [trim_gr]
  exact (RGr.ok_fit h).trim_same
theorem RGr.trim_fits {g : RGr} (h : g.ok = true) (hF : g.fits) : g.trim.fits := by
  intro x hx
  obtain ⟨a, ha, rfl⟩ := List.mem_map.1 hx
  have haN := (reach_facts h).2.1 a ha
  have h1 := hF _ (List.getElem_mem haN)
  rw [← g.nd_eq a haN] at h1
  simpa [RNd.cut] using h1
end Go.Proofs.Ytipehahfbcbigaa

/-
  What is trimmed, as it lies in memory: plain facts.
-/
import Derived.Test.YtnhdgndjpkdhdaaGNds
namespace Go.Proofs.Ytnhdgndjpkdhdaa
open Go.RowKit

def RGr.nd (g : RGr) (a : Nat) : RNd := g.nodes.getD a zeroN
theorem RGr.nd_eq (g : RGr) (a : Nat) (h : a < g.nodes.length) : g.nd a = g.nodes[a] := by
  unfold RGr.nd
  rw [List.getD_eq_getElem?_getD, List.getElem?_eq_getElem h]
  rfl
def RNd.cut (R : List Nat) (x : RNd) : RNd := { x with args := x.args.map fun z => ((R.idxOf z.toNat : Nat) : Int) }
def RGr.trim (g : RGr) : RGr := ⟨g.reach.map fun a => (g.nd a).cut g.reach, 0⟩
/-- Of what may not be, nothing. -/
def RGr.trimU (g : RGr) : RGr := if g.ok = true then g.trim else ⟨[], 0⟩
theorem gr_nd (g : RGr) (a : Nat) : g.gr.f a = (g.nd a).nd := by
  show List.getD (g.nodes.map RNd.nd) a _ = _
  unfold RGr.nd
  rw [List.getD_eq_getElem?_getD, List.getElem?_map, List.getD_eq_getElem?_getD]
  cases g.nodes[a]? <;> rfl
theorem cut_nd (R : List Nat) (x : RNd) : (x.cut R).nd = { x.nd with args := x.nd.args.map (fun y => R.idxOf y) } := by
  simp [RNd.cut, RNd.nd, List.map_map]
theorem trim_gr (g : RGr) : g.trim.gr = g.gr.trim := by
  unfold RGr.gr RGr.trim G.Gr.trim
  simp only [G.Gr.mk.injEq]
  refine ⟨?_, rfl⟩
  rw [List.map_map]
  apply List.map_congr_left
  intro a _
  show ((g.nd a).cut g.reach).nd = _
  rw [cut_nd, ← gr_nd]
  rfl
/-- The new number of a node, once k of them have got theirs. -/
def RGr.num (g : RGr) (k a : Nat) : Nat := if a ∈ g.reach.take k then g.reach.idxOf a else 0
theorem num_zero (g : RGr) : g.num 0 = fun _ => 0 := by
  funext a; simp [RGr.num]
theorem num_step {g : RGr} (hn : g.reach.Nodup) (k : Nat) (hk : k < g.reach.length) (i : Nat) : g.num (k + 1) i = if i = g.reach[k] then k else g.num k i := by
  unfold RGr.num
  rw [List.take_add_one, List.getElem?_eq_getElem hk]
  simp only [Option.toList_some, List.mem_append, List.mem_singleton]
  by_cases e : i = g.reach[k]
  · rw [if_pos (.inr e), if_pos e, e]
    exact hn.idxOf_getElem k hk
  · rw [if_neg e]
    simp [e]
theorem reach_facts {g : RGr} (h : g.ok = true) : g.reach.Nodup ∧ (∀ x, x ∈ g.reach → x < g.nodes.length) ∧ g.reach.length ≤ g.nodes.length ∧ (∀ a, a ∈ g.reach → ∀ z, z ∈ (g.nd a).args → 0 ≤ z ∧ z < g.nodes.length ∧ z.toNat ∈ g.reach) := by
  have h1 := (RGr.ok_fit h).reach_went.1
  have hN : g.gr.nodes.length = g.nodes.length := by simp [RGr.gr]
  rw [hN] at h1
  refine ⟨h1.nodup, h1.lt, G.nodup_len _ h1.nodup h1.lt, fun a ha z hz => ?_⟩
  have haN := h1.lt a ha
  have h2 := ok_args h a haN z (by rw [← g.nd_eq a haN]; exact hz)
  refine ⟨h2.1, h2.2, (RGr.ok_fit h).reach_closed ha ?_⟩
  rw [gr_nd]
  exact List.mem_map.2 ⟨z, hz, rfl⟩
def RGr.to (g : RGr) : List Int := (List.range g.nodes.length).map fun i => ((g.num g.reach.length i : Nat) : Int)
theorem to_len (g : RGr) : g.to.length = g.nodes.length := by simp [RGr.to]
theorem cut_hin {g : RGr} (h : g.ok = true) {a : Nat} (ha : a ∈ g.reach) : ∀ k (hk : k < (g.nd a).args.length), ∃ n : Nat, (g.nd a).args[k] = n ∧ ∃ hn : n < g.to.length, ((g.nd a).cut g.reach).args[k]? = some g.to[n] := by
  intro k hk
  obtain ⟨h1, h2, h3⟩ := (reach_facts h).2.2.2 a ha _ (List.getElem_mem hk)
  obtain ⟨z, hz⟩ : ∃ z : Nat, (g.nd a).args[k] = (z : Int) := ⟨((g.nd a).args[k]).toNat, by omega⟩
  rw [hz] at h1 h2 h3
  rw [Int.toNat_natCast] at h3
  refine ⟨z, hz, by rw [to_len]; omega, ?_⟩
  show ((g.nd a).args.map _)[k]? = _
  rw [List.getElem?_map, List.getElem?_eq_getElem hk, hz]
  simp only [Option.map_some, Int.toNat_natCast, RGr.to, List.getElem_map, List.getElem_range, Option.some.injEq]
  unfold RGr.num
  rw [List.take_length, if_pos h3]
/-- The row of nodes, once k of them are done. -/
def fillN (T : List RNd) (k : Nat) : List RNd := T.take k ++ List.replicate (T.length - k) zeroN
theorem fillN_len (T : List RNd) (k : Nat) (hk : k ≤ T.length) : (fillN T k).length = T.length := by
  unfold fillN
  rw [List.length_append, List.length_take, List.length_replicate]
  omega
theorem fillN_set (T : List RNd) (k : Nat) (hk : k < T.length) : (fillN T k).set k T[k] = fillN T (k + 1) := by
  unfold fillN
  have h1 : T.length - k = (T.length - (k + 1)) + 1 := by omega
  rw [h1, List.replicate_succ, List.set_append_right _ _ (by rw [List.length_take]; omega), List.length_take, Nat.min_eq_left (by omega), Nat.sub_self, List.set_cons_zero, List.take_add_one, List.getElem?_eq_getElem hk]
  show _ = (T.take k ++ [T[k]]) ++ _
  rw [List.append_assoc]
  rfl
theorem fillN_all (T : List RNd) : fillN T T.length = T := by
  unfold fillN
  rw [Nat.sub_self, List.take_length]
  simp
theorem fillN_zero (T : List RNd) : fillN T 0 = List.replicate T.length zeroN := by
  unfold fillN
  simp
/-- No list of the graph's is too long for memory. -/
def RGr.fits (g : RGr) : Prop := ∀ x, x ∈ g.nodes → x.args.length * 8 ≤ 140737488355328 ∧ x.labels.length * 16 ≤ 140737488355328
end Go.Proofs.Ytnhdgndjpkdhdaa

/-
  what Reach answers; which nodes are free (layer 13: trefoilref06.Free isn't in the cut).
-/
import Derived.Test.YtnhdgndjpkdhdaaGReach
namespace Go.Proofs.Ytnhdgndjpkdhdaa
open Go.RowKit

/-- What Reach answers: none, if the graph may not be. -/
def RGr.reachU (g : RGr) : List Nat := if g.ok = true then g.reach else []
theorem reachU_lt (g : RGr) : (∀ x, x ∈ g.reachU → x < g.nodes.length) ∧ g.reachU.Nodup := by
  unfold RGr.reachU
  by_cases h : g.ok = true
  · rw [if_pos h]
    have h1 := (RGr.ok_fit h).reach_went.1
    have hN : g.gr.nodes.length = g.nodes.length := by simp [RGr.gr]
    rw [hN] at h1
    exact ⟨h1.lt, h1.nodup⟩
  · rw [if_neg h]; exact ⟨fun x hx => (by cases hx), (by simp)⟩
theorem reachU_len (g : RGr) : g.reachU.length ≤ 1048576 := by
  unfold RGr.reachU
  by_cases h : g.ok = true
  · rw [if_pos h]
    have h1 := (RGr.ok_fit h).reach_went.1
    have hN : g.gr.nodes.length = g.nodes.length := by simp [RGr.gr]
    rw [hN] at h1
    exact Nat.le_trans (G.nodup_len _ h1.nodup h1.lt) (RGr.ok_len h)
  · rw [if_neg h]; simp
theorem greach_u (w : World) (S : Nat → Prop) (g : RGr) (gv : Value) (hS : ∀ k, S k → k < w.heap.size) (he : GrV w S g gv) :
    Calls Try.prog 35 #[gv] w fun e w' => ∃ A c, e = .returned (.slice A g.reachU.length c) ∧ g.reachU.length ≤ c ∧ c ≤ maxLen ∧ IntsO w' (fun k => w.heap.size ≤ k ∧ k < w'.heap.size) (g.reachU.map Int.ofNat) A ∧ Below w.heap.size w w' := by
  unfold RGr.reachU
  cases hok : g.ok with
  | true => simp only [if_true]; exact greach_r w S g gv hok hS he
  | false =>
    simp only [Bool.false_eq_true, if_false]
    refine (greach_no w S g gv hok hS he).mono ?_
    rintro e w' ⟨rfl, hb⟩
    exact ⟨none, 0, rfl, Nat.le_refl _, Nat.zero_le _, trivial, hb⟩

def RGr.fr (g : RGr) (a : Nat) : Bool := (g.nodes.getD a ⟨0, ⟨#[]⟩, [], [], false⟩).free
theorem RGr.fr_eq (g : RGr) (a : Nat) (h : a < g.nodes.length) : g.fr a = g.nodes[a].free := by
  unfold RGr.fr
  rw [List.getD_eq_getElem?_getD, List.getElem?_eq_getElem h]
  rfl

end Go.Proofs.Ytnhdgndjpkdhdaa

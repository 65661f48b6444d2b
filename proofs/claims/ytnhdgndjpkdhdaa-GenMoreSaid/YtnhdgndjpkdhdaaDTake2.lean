/-
  graph.takeFirst, by what is left; graph.reach.
-/
import Derived.Test.YtnhdgndjpkdhdaaDTake
import Derived.Deep.LoopGhost
namespace Go.Proofs.Ytnhdgndjpkdhdaa
open Go.RowKit

/-- What is left, in a variable of block g. -/
structure LeftAt (base : Nat) (w : World) (S : Nat → Prop) (g : Nat) (v : Value) (st : List (List Int)) : Prop where
  box : Box w g 86 v
  row : RowG srtL 25 base w S v st
  apart : ¬ S g
theorem LeftAt.ne {base : Nat} {w : World} {S : Nat → Prop} {g : Nat} {v : Value} {st : List (List Int)} (h : LeftAt base w S g v st) : v.ownBlock ≠ some g := by
  obtain ⟨xs, h1, _⟩ := h.row.raw
  exact own_box_ne h1 h.box (by decide)

theorem take_any (base : Nat) (w : World) (S : Nat → Prop) (g : Nat) (v : Value) (st : List (List Int)) (x : Int) (l : List Int) (h : LeftAt base w S g v (st ++ [x :: l])) :
    Calls Try.prog 63 #[.pointer (some ⟨g, 0, none⟩)] w fun e w' => e = .returned (.int .i64 x) ∧ ∃ v', LeftAt base w' S g v' (G.pushR st l) ∧ Keeps (Own g v) w w' ∧ v'.ownBlock = v.ownBlock := by
  obtain ⟨g1, c, b, o, ci, rfl, h1, h2, h3, h4, h5, h6, h7, h8, h9⟩ := left_last h.row
  have hne : g1 ≠ g := fun e => h.ne (by simp [Value.ownBlock, e])
  cases l with
  | nil =>
    refine (take_last g g1 st.length c b o ci x w h.box.cell h1 h2 h.box.frozen (by simpa using h3) h7 h4 (by simpa using h5) h6 hne).mono ?_
    rintro e w' ⟨rfl, X, rfl⟩
    have hk1 : Keeps (Own g (.slice (some ⟨g1, 0, none⟩) (st.length + 1) c)) w (w.setCell ⟨g1, st.length, none⟩ X) := (Keeps.refl _ w).setCell (p := ⟨g1, st.length, none⟩) (fun _ => .inr rfl) X
    refine ⟨rfl, .slice (some ⟨g1, 0, none⟩) st.length c, ⟨(h.box.far (p := ⟨g1, st.length, none⟩) (Ne.symm hne) X).set _, ?_, h.apart⟩, hk1.setCell (p := ⟨g, 0, none⟩) (fun _ => .inl rfl) _, rfl⟩
    exact (left_cut h.row X).keep (F := fun k => k = g) ((Keeps.refl (fun k => k = g) _).setCell (p := ⟨g, 0, none⟩) (fun _ => rfl) _) (fun k e _ => ⟨fun e' => hne (by simp [Value.ownBlock] at e'; omega), fun e' => h.apart (e ▸ e')⟩)
  | cons a r =>
    refine (take_more g g1 st.length c b o r.length ci x w h.box.cell h1 h2 (by simpa using h3) h7 h4 (by simpa using h5) h6).mono ?_
    rintro e w' ⟨rfl, rfl⟩
    refine ⟨rfl, .slice (some ⟨g1, 0, none⟩) (st.length + 1) c, ⟨h.box.far (p := ⟨g1, st.length, none⟩) (Ne.symm hne) _, ?_, h.apart⟩, (Keeps.refl _ w).setCell (p := ⟨g1, st.length, none⟩) (fun _ => .inr rfl) _, rfl⟩
    exact left_set h.row (by simp) h3 h5 h6
end Go.Proofs.Ytnhdgndjpkdhdaa

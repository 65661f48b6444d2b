/-
  What several laws of layer 6 share: contracts in all worlds behind one; a graph's nodes as items of a row.
-/
import Derived.Test.YtipehahfbcbigaaLSam
namespace Go.Proofs.Ytipehahfbcbigaa
open Go.ChangeShapes Go.WideShapes Go.ChangeAt Go.RowKit Go.Deep

theorem check_c {w1 W : World} {S : Nat → Prop} {g : RGr} {gv : Value} (hS : ∀ k, S k → k < w1.heap.size) (hg : GrV w1 S g gv) (hW : BelC w1 W) : Calls Try.prog 13 #[gv] W fun e w' => e = .returned (.int .i64 g.code) ∧ BelC w1 w' :=
  (check_r W S g gv (fun k hk => Nat.lt_of_lt_of_le (hS k hk) (Below.size hW)) (hg.keep (fun k hk => ⟨hk, Below.block hW k (hS k hk)⟩))).mono fun _ _ ⟨h1, h2⟩ => ⟨h1, Below.trans hW (h2.mono (Below.size hW))⟩
theorem RGr.ok_of_code {g : RGr} (h : g.code = 0) : g.ok = true := by
  rcases hk : g.ok with _ | _
  · rcases RGr.code_no hk with e | e <;> rw [h] at e <;> cases e
  · rfl

theorem items_of_nds {w : World} {S : Nat → Prop} : ∀ (l : List RNd) (b o : Nat), NdsO w S l (some ⟨b, o, none⟩) → ∃ xs, Items srtN w S l xs ∧ ∀ j u, xs[j]? = some u → w.cell? ⟨b, o + j, none⟩ = some u
  | [], _, _, _ => ⟨[], rfl, fun j u h => by simp at h⟩
  | x :: r, b, o, h => by
    obtain ⟨b', o', e, ⟨hb, v, hc, hv⟩, hr⟩ := h
    simp only [Option.some.injEq, Addr.mk.injEq, and_true] at e
    obtain ⟨rfl, rfl⟩ := e
    obtain ⟨ys, h1, h2⟩ := items_of_nds r b (o + 5) hr
    have h5 : v.cells.toList.length = 5 := srtN.cells w S x v hv
    refine ⟨v.cells.toList ++ ys, ⟨v, ys, rfl, hv, h1⟩, fun j u hu => ?_⟩
    by_cases hj : j < 5
    · rw [List.getElem?_append_left (by omega)] at hu
      exact hc j u (by simpa using hu)
    · rw [List.getElem?_append_right (by omega), h5] at hu
      have := h2 (j - 5) u hu
      rwa [show o + 5 + (j - 5) = o + j by omega] at this
theorem lies_nds {w : World} {S : Nat → Prop} {l : List RNd} {A : Option Addr} (h : NdsO w S l A) (hA : A = none → l = []) : LiesAt srtN w S l A := by
  cases A with
  | none => exact .inl ⟨rfl, hA rfl⟩
  | some a =>
    cases l with
    | nil => exact .inr ⟨a, rfl, [], (fun j u h => by simp at h), rfl⟩
    | cons x r =>
      have h' := h
      obtain ⟨b, o, e, _⟩ := h'
      injection e with e
      subst e
      obtain ⟨xs, h1, h2⟩ := items_of_nds _ b o h
      exact .inr ⟨_, rfl, xs, fun j u hu => by rw [add_plain']; exact h2 j u hu, h1⟩

theorem RowG.emptyS {α : Type} {T : Srt α} {t : TypeId} {base gg : Nat} {W : World} {S : Nat → Prop} (hg : Blk W gg (.cells #[] t (0, 0))) (hb : base ≤ gg) (hS : ∀ k, S k → k < base) : RowG T t base W S (.slice (some ⟨gg, 0, none⟩) 0 0) [] :=
  (RowG.empty (T := T) hg hb).wide (fun _ h => h.elim) (fun k hk => ⟨by have := hS k hk; have := hg.lt; omega, fun e => by have := hS k hk; simp [Value.ownBlock] at e; omega⟩)
/-- A list that was answered, in all worlds behind. -/
def Stays (w : World) (l : List Int) (A : Option Addr) : Prop := ∀ W, BelC w W → IntsO W (fun k => k < w.heap.size) l A
theorem Stays.of {w : World} {n : Nat} {l : List Int} {A : Option Addr} (h : IntsO w (fun k => n ≤ k ∧ k < w.heap.size) l A) : Stays w l A := fun _ hW => IntsO.keep (fun k hk => ⟨hk.2, Below.block hW k hk.2⟩) _ _ h
section
variable {wC X W : World} {S : Nat → Prop} {g : RGr} {gv : Value}
theorem reach_e (hS : ∀ k, S k → k < wC.heap.size) (hg : GrV wC S g gv) (hX : BelC wC X) (hW : BelC X W) : Calls Try.prog 16 #[gv] W fun e w' => ∃ A c, e = .returned (.slice A g.reachU.length c) ∧ g.reachU.length ≤ c ∧ c ≤ maxLen ∧ Stays w' (g.reachU.map Int.ofNat) A ∧ BelC wC w' ∧ BelC X w' := by
  have hCW : BelC wC W := Below.trans hX (Below.mono hW (Below.size hX))
  exact (dreach_u W S g gv (fun k hk => Nat.lt_of_lt_of_le (hS k hk) (Below.size hCW)) (hg.keep (fun k hk => ⟨hk, Below.block hCW k (hS k hk)⟩))).mono fun _ _ ⟨A, c, h1, h2, h3, h4, h5⟩ => ⟨A, c, h1, h2, h3, .of h4, Below.trans hCW (h5.mono (Below.size hCW)), Below.trans hW (h5.mono (Below.size hW))⟩
end
end Go.Proofs.Ytipehahfbcbigaa

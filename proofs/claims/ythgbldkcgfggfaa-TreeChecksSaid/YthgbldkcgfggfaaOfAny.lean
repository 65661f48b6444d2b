/-
  trefoilref02.Of, whole.
-/
import Derived.Test.YthgbldkcgfggfaaOf14b
import Derived.Test.YthgbldkcgfggfaaOf18
namespace Go.Proofs.Ythgbldkcgfggfaa
open Go.RowKit

theorem ofAt : ∀ f, OfAt f
  | 0 => fun l w S A c hl => absurd hl (Nat.not_lt_zero _)
  | f + 1 => by
    intro l w S A c hl hS hp hc hc9
    cases l with
    | nil =>
      refine (of_nil w A c).mono ?_
      rintro e w' ⟨v, rfl, hv, hb⟩
      exact ⟨v, none, 0, rfl, hv, trivial, Nat.le_refl _, Nat.zero_le _, hb⟩
    | cons p l =>
      have hp' := hp
      obtain ⟨b, o, hA, _⟩ := hp'
      subst hA
      simp only [List.length_cons] at hl hc ⊢
      by_cases h14 : (p.k : Int) % 21 = 14
      · exact of_14 f (ofAt f) p l w S b o c (by omega) hS hp hc hc9 h14
      · by_cases h18 : (p.k : Int) % 21 = 18
        · exact of_18 f (ofAt f) p l w S b o c (by omega) hS hp hc hc9 h18
        · by_cases h19 : (p.k : Int) % 21 = 19
          · exact of_19 f (ofAt f) p l w S b o c (by omega) hS hp hc hc9 h19
          · by_cases h20 : (p.k : Int) % 21 = 20
            · exact of_20 f (ofAt f) p l w S b o c (by omega) hS hp hc hc9 h20
            · exact of_other f (ofAt f) p l w S b o c (by omega) hS hp hc hc9 h14 h18 h19 h20

def ofE (l : List Part) : Ex := (ofN (l.length + 1) l).1

/-- trefoilref02.Of: the term that parts stand for; all its memory is new. -/
theorem of_any (l : List Part) (w : World) (S : Nat → Prop) (A : Option Addr) (c : Nat) (hS : ∀ k, S k → k < w.heap.size) (hp : PtsO w S l A) (hc : l.length ≤ c) (hc9 : c ≤ 10000000000000) :
    Calls Try.prog 11 #[.slice A l.length c] w fun e w' => ∃ v u, e = .returned (.tuple #[v, u]) ∧ ExV w' (New w w') (ofE l) v ∧ Below w.heap.size w w' := by
  refine (ofAt (l.length + 1) l w S A c (Nat.lt_succ_self _) hS hp hc hc9).mono ?_
  rintro e w' ⟨v, A', c', rfl, hv, _, _, _, hb⟩
  exact ⟨v, _, rfl, hv, hb⟩

theorem ofE_small (l : List Part) : (ofE l).size ≤ 1 + 7 * l.length ∧ (ofE l).tsize ≤ 9 * l.length := by
  have h := ofN_ok (l.length + 1) l
  unfold ofE
  omega

end Go.Proofs.Ythgbldkcgfggfaa

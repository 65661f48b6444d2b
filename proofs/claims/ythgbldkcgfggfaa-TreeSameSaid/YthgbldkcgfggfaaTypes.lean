/-
  trefoillaw02.TreeTypes: plain facts, and the walk.
-/
import Derived.Test.YthgbldkcgfggfaaValues
import Derived.Test.YthgbldkcgfggfaaOf20
namespace Go.Proofs.Ythgbldkcgfggfaa
open Go.RowKit

/-- What CheckType answers. -/
def tcheck (t : Ty) : Int := if t.all tyOk = false then 2 else if 200 < t.deep then 4 else 0
theorem tcode_one (t : Ty) : tcode [([t], 1)] = tcheck t := by
  unfold tcode tcheck
  simp only [stAll, Ty.alls, Bool.and_true, stDeep, Ty.deeps]
  have e : (200 < max (1 - 1 + ((max t.deep 0 : Nat) : Int)) 0) ↔ 200 < t.deep := by omega
  simp only [e]

/-- A type, with as put behind it k times. -/
def asN : Nat → Ty → Ty
  | 0, t => t
  | k + 1, t => .mk 4 ⟨#[97]⟩ [asN k t] [] false
theorem asN_size (k : Nat) (t : Ty) : (asN k t).size = t.size + k := by
  induction k with
  | zero => rfl
  | succ k ih => simp only [asN, Ty.size, Ty.sizes, ih]; omega

theorem all_annot (e : Ex) (t : Ty) : (Ex.mk 19 ⟨#[]⟩ 0 [e] [] [t] []).all okNode = e.all okNode := by
  have h : okNode (Ex.mk 19 ⟨#[]⟩ 0 [e] [] [t] []) = true := by rfl
  simp [Ex.all, h, Ex.alls, Mm.alls]
theorem check_annot (e : Ex) (t : Ty) : checkCode (Ex.mk 19 ⟨#[]⟩ 0 [e] [] [t] []) = if checkCode e = 2 ∨ tcheck t = 2 then 2 else if checkCode e = 4 ∨ tcheck t = 4 ∨ 200 ≤ e.deep then 4 else 0 := by
  have h1 : (Ex.mk 19 ⟨#[]⟩ 0 [e] [] [t] []).tall tyOk = (t.all tyOk && e.tall tyOk) := by simp [Ex.tall, Ty.alls, Ex.talls, Mm.talls]
  have h2 : (Ex.mk 19 ⟨#[]⟩ 0 [e] [] [t] []).tdeep = max t.deep e.tdeep := by simp [Ex.tdeep, Ty.deeps, Ex.tdeeps, Mm.tdeeps]
  have h3 : (Ex.mk 19 ⟨#[]⟩ 0 [e] [] [t] []).deep = 1 + e.deep := by simp [Ex.deep, Ex.deeps, Mm.deeps]
  unfold checkCode tcheck
  rw [all_annot, h1, h2, h3]
  cases e.all okNode <;> cases e.tall tyOk <;> cases t.all tyOk <;> simp
  all_goals (repeat' split) <;> first | rfl | omega | (simp_all; omega) | simp_all
theorem check_codes (e : Ex) : checkCode e = 0 ∨ checkCode e = 2 ∨ checkCode e = 4 := by
  unfold checkCode
  repeat' split
  all_goals simp
theorem tcheck_codes (t : Ty) : tcheck t = 0 ∨ tcheck t = 2 ∨ tcheck t = 4 := by
  unfold tcheck
  repeat' split
  all_goals simp
theorem tcheck_part (t : Ty) (h : tcheck t = 0) (k : Nat) (hk : k < t.args.length) : tcheck t.args[k] = 0 := by
  have hs : ∀ (l : List Ty) (k : Nat) (hk : k < l.length), Ty.alls tyOk l = true → l[k].all tyOk = true ∧ l[k].deep ≤ Ty.deeps l := by
    intro l
    induction l with
    | nil => intro k hk; simp at hk
    | cons a r ih =>
      intro k hk hl
      simp only [Ty.alls, Bool.and_eq_true] at hl
      cases k with
      | zero => simp only [List.getElem_cons_zero, Ty.deeps]; exact ⟨hl.1, by omega⟩
      | succ k =>
        have := ih k (by simpa using hk) hl.2
        simp only [List.getElem_cons_succ, Ty.deeps]
        exact ⟨this.1, by omega⟩
  unfold tcheck at h ⊢
  rw [Ty.all_eq, Ty.deep_eq] at h
  cases h1 : Ty.alls tyOk t.args with
  | false => simp [h1] at h
  | true =>
    obtain ⟨g1, g2⟩ := hs _ k hk h1
    rw [g1]
    simp only [Bool.true_eq_false, if_false]
    split at h
    · simp at h
    · split at h
      · simp at h
      · rw [if_neg (by omega)]

end Go.Proofs.Ythgbldkcgfggfaa

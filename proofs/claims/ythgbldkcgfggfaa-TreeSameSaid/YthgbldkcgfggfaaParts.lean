/-
  trefoillaw02.TreeParts: plain facts.
-/
import Derived.Test.YthgbldkcgfggfaaTypes2
namespace Go.Proofs.Ythgbldkcgfggfaa
open Go.RowKit

theorem code_zero (e : Ex) : checkCode e = 0 ↔ e.all okNode = true ∧ e.tall tyOk = true ∧ e.tdeep ≤ 200 ∧ e.deep ≤ 200 := by
  unfold checkCode
  cases e.all okNode <;> cases e.tall tyOk <;> simp
  by_cases h1 : 200 < e.tdeep
  · rw [if_pos h1]; simp; omega
  · rw [if_neg h1]
    by_cases h2 : 200 < e.deep
    · rw [if_pos h2]; simp; omega
    · rw [if_neg h2]; simp; omega

theorem alls_get (p : Ex → Bool) : ∀ (l : List Ex) (k : Nat) (h : k < l.length), Ex.alls p l = true → l[k].all p = true
  | e :: r, 0, _, h => by simp only [Ex.alls, Bool.and_eq_true] at h; exact h.1
  | e :: r, k + 1, h, hl => by simp only [Ex.alls, Bool.and_eq_true] at hl; exact alls_get p r k (by simpa using h) hl.2
theorem talls_get (p : Ty → Bool) : ∀ (l : List Ex) (k : Nat) (h : k < l.length), Ex.talls p l = true → l[k].tall p = true
  | e :: r, 0, _, h => by simp only [Ex.talls, Bool.and_eq_true] at h; exact h.1
  | e :: r, k + 1, h, hl => by simp only [Ex.talls, Bool.and_eq_true] at hl; exact talls_get p r k (by simpa using h) hl.2
theorem tdeeps_get : ∀ (l : List Ex) (k : Nat) (h : k < l.length), l[k].tdeep ≤ Ex.tdeeps l
  | e :: r, 0, _ => by simp only [List.getElem_cons_zero, Ex.tdeeps]; omega
  | e :: r, k + 1, h => by have := tdeeps_get r k (by simpa using h); simp only [List.getElem_cons_succ, Ex.tdeeps]; omega
theorem deeps_get : ∀ (l : List Ex) (k : Nat) (h : k < l.length), l[k].deep ≤ Ex.deeps l
  | e :: r, 0, _ => by simp only [List.getElem_cons_zero, Ex.deeps]; omega
  | e :: r, k + 1, h => by have := deeps_get r k (by simpa using h); simp only [List.getElem_cons_succ, Ex.deeps]; omega
theorem tsizes_get : ∀ (l : List Ex) (k : Nat) (h : k < l.length), l[k].tsize ≤ Ex.tsizes l
  | e :: r, 0, _ => by simp only [List.getElem_cons_zero, Ex.tsizes]; omega
  | e :: r, k + 1, h => by have := tsizes_get r k (by simpa using h); simp only [List.getElem_cons_succ, Ex.tsizes]; omega
theorem malls_get (p : Ex → Bool) : ∀ (l : List Mm) (k : Nat) (h : k < l.length), Mm.alls p l = true → l[k].all p = true
  | e :: r, 0, _, h => by simp only [Mm.alls, Bool.and_eq_true] at h; exact h.1
  | e :: r, k + 1, h, hl => by simp only [Mm.alls, Bool.and_eq_true] at hl; exact malls_get p r k (by simpa using h) hl.2
theorem mtalls_get (p : Ty → Bool) : ∀ (l : List Mm) (k : Nat) (h : k < l.length), Mm.talls p l = true → l[k].tall p = true
  | e :: r, 0, _, h => by simp only [Mm.talls, Bool.and_eq_true] at h; exact h.1
  | e :: r, k + 1, h, hl => by simp only [Mm.talls, Bool.and_eq_true] at hl; exact mtalls_get p r k (by simpa using h) hl.2
theorem mtdeeps_get : ∀ (l : List Mm) (k : Nat) (h : k < l.length), l[k].tdeep ≤ Mm.tdeeps l
  | e :: r, 0, _ => by simp only [List.getElem_cons_zero, Mm.tdeeps]; omega
  | e :: r, k + 1, h => by have := mtdeeps_get r k (by simpa using h); simp only [List.getElem_cons_succ, Mm.tdeeps]; omega
theorem mdeeps_get : ∀ (l : List Mm) (k : Nat) (h : k < l.length), l[k].deep ≤ Mm.deeps l
  | e :: r, 0, _ => by simp only [List.getElem_cons_zero, Mm.deeps]; omega
  | e :: r, k + 1, h => by have := mdeeps_get r k (by simpa using h); simp only [List.getElem_cons_succ, Mm.deeps]; omega
theorem mtsizes_get : ∀ (l : List Mm) (k : Nat) (h : k < l.length), l[k].tsize ≤ Mm.tsizes l
  | e :: r, 0, _ => by simp only [List.getElem_cons_zero, Mm.tsizes]; omega
  | e :: r, k + 1, h => by have := mtsizes_get r k (by simpa using h); simp only [List.getElem_cons_succ, Mm.tsizes]; omega

/-- A part of what may be may be, is less deep, and smaller. -/
theorem part_ok (e : Ex) (h : checkCode e = 0) (k : Nat) (hk : k < e.args.length) : checkCode e.args[k] = 0 ∧ e.args[k].deep < e.deep ∧ e.args[k].size < e.size ∧ e.args[k].tsize ≤ e.tsize := by
  obtain ⟨h1, h2, h3, h4⟩ := (code_zero e).1 h
  rw [Ex.all_eq] at h1
  rw [Ex.tall_eq] at h2
  rw [Ex.tdeep_eq] at h3
  rw [Ex.deep_eq] at h4
  simp only [Bool.and_eq_true] at h1 h2
  have g1 := tdeeps_get e.args k hk
  have g2 := deeps_get e.args k hk
  have g3 := sizes_get e.args k hk
  have g4 := tsizes_get e.args k hk
  have g5 := Ex.size_eq e
  have g6 := Ex.deep_eq e
  have g7 := Ex.tsize_eq e
  exact ⟨(code_zero _).2 ⟨alls_get _ _ k hk h1.1.2, talls_get _ _ k hk h2.2.1, by omega, by omega⟩, by omega, by omega, by omega⟩
theorem mem_ok (e : Ex) (h : checkCode e = 0) (i : Nat) (hi : i < e.mems.length) (k : Nat) (hk : k < e.mems[i].args.length) : checkCode e.mems[i].args[k] = 0 ∧ e.mems[i].args[k].size < e.size ∧ e.mems[i].args[k].tsize ≤ e.tsize := by
  obtain ⟨h1, h2, h3, h4⟩ := (code_zero e).1 h
  rw [Ex.all_eq] at h1
  rw [Ex.tall_eq] at h2
  rw [Ex.tdeep_eq] at h3
  rw [Ex.deep_eq] at h4
  simp only [Bool.and_eq_true] at h1 h2
  have m1 := malls_get _ _ i hi h1.2
  have m2 := mtalls_get _ _ i hi h2.2.2
  rw [Mm.all_eq] at m1
  rw [Mm.tall_eq] at m2
  simp only [Bool.and_eq_true] at m2
  have m3 := mtdeeps_get e.mems i hi
  have m4 := mdeeps_get e.mems i hi
  have m5 := msizes_get e.mems i hi
  have m6 := mtsizes_get e.mems i hi
  have n3 := Mm.tdeep_eq e.mems[i]
  have n4 := Mm.deep_eq e.mems[i]
  have n5 := Mm.size_eq e.mems[i]
  have n6 := Mm.tsize_eq e.mems[i]
  have g1 := tdeeps_get e.mems[i].args k hk
  have g2 := deeps_get e.mems[i].args k hk
  have g3 := sizes_get e.mems[i].args k hk
  have g4 := tsizes_get e.mems[i].args k hk
  have g5 := Ex.size_eq e
  have g7 := Ex.tsize_eq e
  exact ⟨(code_zero _).2 ⟨alls_get _ _ k hk m1, talls_get _ _ k hk m2.2, by omega, by omega⟩, by omega, by omega⟩

def bothE (e : Ex) : Ex := .mk 10 ⟨#[]⟩ 0 [e, e] [] [] []
theorem both_size (e : Ex) : (bothE e).size = 2 * e.size + 1 := by simp only [bothE, Ex.size, Ex.sizes, Mm.sizes]; omega
theorem both_tsize (e : Ex) : (bothE e).tsize = 2 * e.tsize := by simp only [bothE, Ex.tsize, Ex.tsizes, Mm.tsizes, Ty.sizes]; omega
theorem both_deep (e : Ex) : (bothE e).deep = e.deep + 1 := by simp only [bothE, Ex.deep, Ex.deeps, Mm.deeps]; omega
theorem both_value (e : Ex) : (bothE e).value = e.value := by simp [bothE, Ex.value, vkind, Ex.values]
theorem both_code (e : Ex) (h : checkCode e = 0) : checkCode (bothE e) = if 200 < e.deep + 1 then 4 else 0 := by
  obtain ⟨h1, h2, h3, h4⟩ := (code_zero e).1 h
  have hn : okNode (bothE e) = true := by rfl
  have a1 : (bothE e).all okNode = true := by
    rw [Ex.all_eq, hn]
    simp [bothE, Ex.args, Ex.mems, Ex.alls, Mm.alls, h1]
  have a2 : (bothE e).tall tyOk = true := by
    rw [Ex.tall_eq]
    simp [bothE, Ex.args, Ex.mems, Ex.types, Ex.talls, Mm.talls, Ty.alls, h2]
  have a3 : (bothE e).tdeep = e.tdeep := by
    rw [Ex.tdeep_eq]
    simp only [bothE, Ex.args, Ex.mems, Ex.types, Ex.tdeeps, Mm.tdeeps, Ty.deeps]; omega
  unfold checkCode
  rw [a1, a2, a3, both_deep]
  simp only [Bool.true_eq_false, if_false]
  rw [if_neg (by omega)]

end Go.Proofs.Ythgbldkcgfggfaa

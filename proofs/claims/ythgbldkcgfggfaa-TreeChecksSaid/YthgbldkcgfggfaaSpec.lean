/-
  What layer 2 is to answer of a tree, as plain functions: size, depth, and whether something holds at all nodes; and the same of a walk's levels.
-/
import Derived.Test.YthgbldkcgfggfaaApp
namespace Go.Proofs.Ythgbldkcgfggfaa

mutual
def Ex.size : Ex → Nat
  | .mk _ _ _ args _ _ mems => 1 + Ex.sizes args + Mm.sizes mems
def Ex.sizes : List Ex → Nat
  | [] => 0
  | e :: r => Ex.size e + Ex.sizes r
def Mm.sizes : List Mm → Nat
  | [] => 0
  | m :: r => Mm.size m + Mm.sizes r
def Mm.size : Mm → Nat
  | .mk _ _ _ args _ => 1 + Ex.sizes args
end

mutual
def Ex.deep : Ex → Nat
  | .mk _ _ _ args _ _ mems => 1 + max (Ex.deeps args) (Mm.deeps mems)
def Ex.deeps : List Ex → Nat
  | [] => 0
  | e :: r => max (Ex.deep e) (Ex.deeps r)
def Mm.deeps : List Mm → Nat
  | [] => 0
  | m :: r => max (Mm.deep m) (Mm.deeps r)
def Mm.deep : Mm → Nat
  | .mk _ _ _ args _ => 1 + Ex.deeps args
end

mutual
def Ex.all (p : Ex → Bool) : Ex → Bool
  | .mk k s n args names types mems => p (.mk k s n args names types mems) && Ex.alls p args && Mm.alls p mems
def Ex.alls (p : Ex → Bool) : List Ex → Bool
  | [] => true
  | e :: r => Ex.all p e && Ex.alls p r
def Mm.alls (p : Ex → Bool) : List Mm → Bool
  | [] => true
  | m :: r => Mm.all p m && Mm.alls p r
def Mm.all (p : Ex → Bool) : Mm → Bool
  | .mk _ _ _ args _ => Ex.alls p args
end

mutual
def Ty.size : Ty → Nat
  | .mk _ _ args _ _ => 1 + Ty.sizes args
def Ty.sizes : List Ty → Nat
  | [] => 0
  | e :: r => Ty.size e + Ty.sizes r
end
mutual
def Ty.deep : Ty → Nat
  | .mk _ _ args _ _ => 1 + Ty.deeps args
def Ty.deeps : List Ty → Nat
  | [] => 0
  | e :: r => max (Ty.deep e) (Ty.deeps r)
end
mutual
def Ty.all (p : Ty → Bool) : Ty → Bool
  | .mk k s args labels op => p (.mk k s args labels op) && Ty.alls p args
def Ty.alls (p : Ty → Bool) : List Ty → Bool
  | [] => true
  | e :: r => Ty.all p e && Ty.alls p r
end

theorem Ex.size_eq (e : Ex) : e.size = 1 + Ex.sizes e.args + Mm.sizes e.mems := by cases e; simp [Ex.size, Ex.args, Ex.mems]
theorem Ex.deep_eq (e : Ex) : e.deep = 1 + max (Ex.deeps e.args) (Mm.deeps e.mems) := by cases e; simp [Ex.deep, Ex.args, Ex.mems]
theorem Ex.all_eq (p : Ex → Bool) (e : Ex) : e.all p = (p e && Ex.alls p e.args && Mm.alls p e.mems) := by cases e; simp [Ex.all, Ex.args, Ex.mems]
theorem Mm.size_eq (m : Mm) : m.size = 1 + Ex.sizes m.args := by cases m; simp [Mm.size, Mm.args]
theorem Mm.deep_eq (m : Mm) : m.deep = 1 + Ex.deeps m.args := by cases m; simp [Mm.deep, Mm.args]
theorem Mm.all_eq (p : Ex → Bool) (m : Mm) : m.all p = Ex.alls p m.args := by cases m; simp [Mm.all, Mm.args]
theorem Ty.size_eq (e : Ty) : e.size = 1 + Ty.sizes e.args := by cases e; simp [Ty.size, Ty.args]
theorem Ty.deep_eq (e : Ty) : e.deep = 1 + Ty.deeps e.args := by cases e; simp [Ty.deep, Ty.args]
theorem Ty.all_eq (p : Ty → Bool) (e : Ty) : e.all p = (p e && Ty.alls p e.args) := by cases e; simp [Ty.all, Ty.args]
theorem Ex.size_pos (e : Ex) : 0 < e.size := by rw [Ex.size_eq]; omega
theorem Ty.size_pos (e : Ty) : 0 < e.size := by rw [Ty.size_eq]; omega
theorem Ex.deep_pos (e : Ex) : 0 < e.deep := by rw [Ex.deep_eq]; omega

/-- The same of levels. -/
def stSize {α : Type} (f : List α → Nat) : List (List α × Int) → Nat
  | [] => 0
  | x :: r => f x.1 + stSize f r
theorem stSize_snoc {α : Type} (f : List α → Nat) (st : List (List α × Int)) (x : List α × Int) : stSize f (st ++ [x]) = stSize f st + f x.1 := by
  induction st with
  | nil => simp [stSize]
  | cons a r ih => simp [stSize, ih]; omega
theorem stSize_push {α : Type} (f : List α → Nat) (h0 : f [] = 0) (st : List (List α × Int)) (l : List α) (d : Int) : stSize f (pushL st l d) = stSize f st + f l := by
  cases l with
  | nil => simp [pushL, h0]
  | cons a r => simp [pushL, stSize_snoc]
theorem stSize_length {α : Type} (f : List α → Nat) : ∀ (st : List (List α × Int)), (∀ x, x ∈ st → 0 < f x.1) → st.length ≤ stSize f st
  | [], _ => Nat.le_refl _
  | a :: r, h => by
    have h1 := stSize_length f r (fun x hx => h x (List.mem_cons_of_mem _ hx))
    have h2 := h a (List.mem_cons_self ..)
    simp only [List.length_cons, stSize]
    omega

def stAll {α : Type} (f : List α → Bool) : List (List α × Int) → Bool
  | [] => true
  | x :: r => f x.1 && stAll f r
theorem stAll_snoc {α : Type} (f : List α → Bool) (st : List (List α × Int)) (x : List α × Int) : stAll f (st ++ [x]) = (stAll f st && f x.1) := by
  induction st with
  | nil => simp [stAll]
  | cons a r ih => simp [stAll, ih, Bool.and_assoc]
theorem stAll_push {α : Type} (f : List α → Bool) (h0 : f [] = true) (st : List (List α × Int)) (l : List α) (d : Int) : stAll f (pushL st l d) = (stAll f st && f l) := by
  cases l with
  | nil => simp [pushL, h0]
  | cons a r => simp [pushL, stAll_snoc]

/-- How deep the deepest part of the levels stands. -/
def stDeep {α : Type} (f : List α → Nat) : List (List α × Int) → Int
  | [] => 0
  | x :: r => max (x.2 - 1 + f x.1) (stDeep f r)
theorem stDeep_snoc {α : Type} (f : List α → Nat) (st : List (List α × Int)) (x : List α × Int) (hx : 0 ≤ x.2 - 1 + f x.1) : stDeep f (st ++ [x]) = max (stDeep f st) (x.2 - 1 + f x.1) := by
  induction st with
  | nil => simp only [List.nil_append, stDeep]; omega
  | cons a r ih => simp only [List.cons_append, stDeep, ih]; omega
theorem stDeep_push {α : Type} (f : List α → Nat) (st : List (List α × Int)) (l : List α) (d : Int) (hd : 1 ≤ d) : stDeep f (pushL st l d) = if l = [] then stDeep f st else max (stDeep f st) (d - 1 + f l) := by
  cases l with
  | nil => simp [pushL]
  | cons a r => simp [pushL, stDeep_snoc f st (a :: r, d) (by simp only []; omega)]
theorem stDeep_nonneg {α : Type} (f : List α → Nat) (st : List (List α × Int)) : 0 ≤ stDeep f st := by
  induction st with
  | nil => simp [stDeep]
  | cons a r ih => simp only [stDeep]; omega

/-- No level is empty, each stands at a depth from 1 on that leaves room. -/
def stOk {α : Type} (f : List α → Nat) (N : Nat) (st : List (List α × Int)) : Prop := ∀ x, x ∈ st → x.1 ≠ [] ∧ 1 ≤ x.2 ∧ x.2 + 2 * (f x.1 : Int) ≤ N
theorem stOk.snoc {α : Type} {f : List α → Nat} {N : Nat} {st : List (List α × Int)} {x : List α × Int} (h : stOk f N (st ++ [x])) : stOk f N st ∧ (x.1 ≠ [] ∧ 1 ≤ x.2 ∧ x.2 + 2 * (f x.1 : Int) ≤ N) :=
  ⟨fun y hy => h y (List.mem_append_left _ hy), h x (by simp)⟩
theorem stOk.push {α : Type} {f : List α → Nat} {N : Nat} {st : List (List α × Int)} {l : List α} {d : Int} (h : stOk f N st) (h1 : l ≠ [] → 1 ≤ d ∧ d + 2 * (f l : Int) ≤ N) : stOk f N (pushL st l d) := by
  cases l with
  | nil => exact h
  | cons a r =>
    intro x hx
    rcases List.mem_append.1 hx with hx | hx
    · exact h x hx
    · simp at hx; subst hx; exact ⟨by simp, h1 (by simp)⟩
theorem stOk.length {α : Type} {f : List α → Nat} {N : Nat} {st : List (List α × Int)} (h : stOk f N st) (hf : ∀ l, l ≠ [] → 0 < f l) : st.length ≤ stSize f st :=
  stSize_length f st (fun x hx => hf _ (h x hx).1)

theorem Ex.sizes_pos (l : List Ex) (h : l ≠ []) : 0 < Ex.sizes l := by
  cases l with
  | nil => exact absurd rfl h
  | cons a r => simp only [Ex.sizes]; have := Ex.size_pos a; omega
theorem Ty.sizes_pos (l : List Ty) (h : l ≠ []) : 0 < Ty.sizes l := by
  cases l with
  | nil => exact absurd rfl h
  | cons a r => simp only [Ty.sizes]; have := Ty.size_pos a; omega
theorem Mm.length_le (l : List Mm) : l.length ≤ Mm.sizes l := by
  induction l with
  | nil => simp
  | cons a r ih => simp only [List.length_cons, Mm.sizes]; rw [Mm.size_eq]; omega

theorem pushMs_size (st : List (List Ex × Int)) (d : Int) (l : List Mm) : stSize Ex.sizes (pushMs st d l) + l.length = stSize Ex.sizes st + Mm.sizes l := by
  induction l generalizing st with
  | nil => simp [pushMs, Mm.sizes]
  | cons a r ih =>
    have h := ih (pushL st a.args d)
    rw [stSize_push _ (by simp [Ex.sizes])] at h
    simp only [pushMs, List.length_cons, Mm.sizes]
    rw [Mm.size_eq]
    omega
theorem pushMs_all (p : Ex → Bool) (st : List (List Ex × Int)) (d : Int) (l : List Mm) : stAll (Ex.alls p) (pushMs st d l) = (stAll (Ex.alls p) st && Mm.alls p l) := by
  induction l generalizing st with
  | nil => simp [pushMs, Mm.alls]
  | cons a r ih =>
    have h := ih (pushL st a.args d)
    rw [stAll_push _ (by simp [Ex.alls])] at h
    simp only [pushMs, Mm.alls]
    rw [h, Mm.all_eq, Bool.and_assoc]
theorem pushMs_ok {N : Nat} {st : List (List Ex × Int)} {d : Int} (h : stOk Ex.sizes N st) (hd : 1 ≤ d) : ∀ (l : List Mm), d + 2 * (Mm.sizes l : Int) ≤ N → stOk Ex.sizes N (pushMs st d l) := by
  intro l
  induction l generalizing st with
  | nil => intro _; exact h
  | cons a r ih =>
    intro hl
    simp only [Mm.sizes] at hl
    have := Mm.size_eq a
    exact ih (h.push (fun _ => ⟨hd, by omega⟩)) (by omega)
theorem pushMs_deep (st : List (List Ex × Int)) (d : Int) (hd : 1 ≤ d) (l : List Mm) (m : Int) (hm : l ≠ [] → d - 1 ≤ m) : max m (stDeep Ex.deeps (pushMs st d l)) = max (max m (stDeep Ex.deeps st)) (if l = [] then 0 else d - 2 + Mm.deeps l) := by
  induction l generalizing st with
  | nil => have := stDeep_nonneg Ex.deeps st; simp [pushMs]; omega
  | cons a r ih =>
    have hm' := hm (by simp)
    rw [pushMs, ih (pushL st a.args d) (fun _ => hm'), stDeep_push _ _ _ _ hd]
    simp only [Mm.deeps]
    rw [Mm.deep_eq]
    have := stDeep_nonneg Ex.deeps st
    by_cases h1 : a.args = []
    · rw [if_pos h1, h1]
      simp only [Ex.deeps]
      by_cases h2 : r = []
      · simp [h2, Mm.deeps]; omega
      · simp [h2]; omega
    · rw [if_neg h1]
      by_cases h2 : r = []
      · simp [h2, Mm.deeps]; omega
      · simp [h2]; omega

/-- Which expressions are done already: 0: one that is, 1: one that is if its parts are, 2: one that isn't. -/
def vkind (k : Int) (n : Nat) : Nat :=
  if k = 1 ∨ k = 2 ∨ k = 3 ∨ k = 4 ∨ k = 5 ∨ k = 6 then 0 else if k = 10 ∧ n = 2 ∨ k = 19 ∧ n = 1 then 1 else 2

mutual
def Ex.value : Ex → Bool
  | .mk k _ _ args _ _ _ => match vkind k args.length with
    | 0 => true
    | 1 => Ex.values args
    | _ => false
def Ex.values : List Ex → Bool
  | [] => true
  | e :: r => Ex.value e && Ex.values r
end
theorem Ex.value_0 (e : Ex) (h : vkind e.kind e.args.length = 0) : e.value = true := by cases e; simp only [Ex.kind, Ex.args] at h; simp [Ex.value, h]
theorem Ex.value_1 (e : Ex) (h : vkind e.kind e.args.length = 1) : e.value = Ex.values e.args := by cases e; simp only [Ex.kind, Ex.args] at h; simp [Ex.value, h, Ex.args]
theorem Ex.value_2 (e : Ex) (h : vkind e.kind e.args.length = 2) : e.value = false := by cases e; simp only [Ex.kind, Ex.args] at h; simp [Ex.value, h]

mutual
def Ex.tsize : Ex → Nat
  | .mk _ _ _ args _ types mems => Ty.sizes types + Ex.tsizes args + Mm.tsizes mems
def Ex.tsizes : List Ex → Nat
  | [] => 0
  | e :: r => Ex.tsize e + Ex.tsizes r
def Mm.tsizes : List Mm → Nat
  | [] => 0
  | m :: r => Mm.tsize m + Mm.tsizes r
def Mm.tsize : Mm → Nat
  | .mk _ _ _ args types => Ty.sizes types + Ex.tsizes args
end
mutual
def Ex.tdeep : Ex → Nat
  | .mk _ _ _ args _ types mems => max (Ty.deeps types) (max (Ex.tdeeps args) (Mm.tdeeps mems))
def Ex.tdeeps : List Ex → Nat
  | [] => 0
  | e :: r => max (Ex.tdeep e) (Ex.tdeeps r)
def Mm.tdeeps : List Mm → Nat
  | [] => 0
  | m :: r => max (Mm.tdeep m) (Mm.tdeeps r)
def Mm.tdeep : Mm → Nat
  | .mk _ _ _ args types => max (Ty.deeps types) (Ex.tdeeps args)
end
mutual
def Ex.tall (p : Ty → Bool) : Ex → Bool
  | .mk _ _ _ args _ types mems => Ty.alls p types && (Ex.talls p args && Mm.talls p mems)
def Ex.talls (p : Ty → Bool) : List Ex → Bool
  | [] => true
  | e :: r => Ex.tall p e && Ex.talls p r
def Mm.talls (p : Ty → Bool) : List Mm → Bool
  | [] => true
  | m :: r => Mm.tall p m && Mm.talls p r
def Mm.tall (p : Ty → Bool) : Mm → Bool
  | .mk _ _ _ args types => Ty.alls p types && Ex.talls p args
end
theorem Ex.tsize_eq (e : Ex) : e.tsize = Ty.sizes e.types + Ex.tsizes e.args + Mm.tsizes e.mems := by cases e; simp [Ex.tsize, Ex.types, Ex.args, Ex.mems]
theorem Ex.tdeep_eq (e : Ex) : e.tdeep = max (Ty.deeps e.types) (max (Ex.tdeeps e.args) (Mm.tdeeps e.mems)) := by cases e; simp [Ex.tdeep, Ex.types, Ex.args, Ex.mems]
theorem Ex.tall_eq (p : Ty → Bool) (e : Ex) : e.tall p = (Ty.alls p e.types && (Ex.talls p e.args && Mm.talls p e.mems)) := by cases e; simp [Ex.tall, Ex.types, Ex.args, Ex.mems]
theorem Mm.tsize_eq (m : Mm) : m.tsize = Ty.sizes m.types + Ex.tsizes m.args := by cases m; simp [Mm.tsize, Mm.types, Mm.args]
theorem Mm.tdeep_eq (m : Mm) : m.tdeep = max (Ty.deeps m.types) (Ex.tdeeps m.args) := by cases m; simp [Mm.tdeep, Mm.types, Mm.args]
theorem Mm.tall_eq (p : Ty → Bool) (m : Mm) : m.tall p = (Ty.alls p m.types && Ex.talls p m.args) := by cases m; simp [Mm.tall, Mm.types, Mm.args]

/-- The greatest over levels. -/
def stMax {α : Type} (f : List α → Nat) : List (List α × Int) → Nat
  | [] => 0
  | x :: r => max (f x.1) (stMax f r)
theorem stMax_snoc {α : Type} (f : List α → Nat) (st : List (List α × Int)) (x : List α × Int) : stMax f (st ++ [x]) = max (stMax f st) (f x.1) := by
  induction st with
  | nil => simp [stMax]
  | cons a r ih => simp only [List.cons_append, stMax, ih]; omega
theorem stMax_push {α : Type} (f : List α → Nat) (h0 : f [] = 0) (st : List (List α × Int)) (l : List α) (d : Int) : stMax f (pushL st l d) = max (stMax f st) (f l) := by
  cases l with
  | nil => simp [pushL, h0]
  | cons a r => simp [pushL, stMax_snoc]

/-- Behind one step of both walks, expressions and types: what is in them together is as it was. -/
theorem pushMs_tsize (T : List (List Ty × Int)) (st : List (List Ex × Int)) (d : Int) (l : List Mm) : stSize Ty.sizes (pushTs T l) + stSize Ex.tsizes (pushMs st d l) = stSize Ty.sizes T + stSize Ex.tsizes st + Mm.tsizes l := by
  induction l generalizing st T with
  | nil => simp [pushMs, pushTs, Mm.tsizes]
  | cons a r ih =>
    have h := ih (pushL T a.types 1) (pushL st a.args d)
    rw [stSize_push Ex.tsizes (by simp [Ex.tsizes]), stSize_push Ty.sizes (by simp [Ty.sizes])] at h
    simp only [pushMs, pushTs, Mm.tsizes]
    rw [Mm.tsize_eq]
    omega
theorem pushMs_tall (p : Ty → Bool) (T : List (List Ty × Int)) (st : List (List Ex × Int)) (d : Int) (l : List Mm) : (stAll (Ty.alls p) (pushTs T l) && stAll (Ex.talls p) (pushMs st d l)) = ((stAll (Ty.alls p) T && stAll (Ex.talls p) st) && Mm.talls p l) := by
  induction l generalizing st T with
  | nil => simp [pushMs, pushTs, Mm.talls]
  | cons a r ih =>
    have h := ih (pushL T a.types 1) (pushL st a.args d)
    rw [stAll_push (Ex.talls p) (by simp [Ex.talls]), stAll_push (Ty.alls p) (by simp [Ty.alls])] at h
    simp only [pushMs, pushTs, Mm.talls]
    rw [Mm.tall_eq, h]
    cases stAll (Ty.alls p) T <;> cases stAll (Ex.talls p) st <;> cases Ty.alls p a.types <;> cases Ex.talls p a.args <;> cases Mm.talls p r <;> rfl
theorem stDeep_push1 (T : List (List Ty × Int)) (l : List Ty) : stDeep Ty.deeps (pushL T l 1) = max (stDeep Ty.deeps T) (Ty.deeps l) := by
  have := stDeep_nonneg Ty.deeps T
  rw [stDeep_push _ _ _ _ (by omega)]
  by_cases h : l = []
  · rw [if_pos h, h]; simp only [Ty.deeps]; omega
  · rw [if_neg h]; omega
theorem pushMs_tdeep (T : List (List Ty × Int)) (st : List (List Ex × Int)) (d : Int) (l : List Mm) : max (stDeep Ty.deeps (pushTs T l)) (stMax Ex.tdeeps (pushMs st d l)) = max (max (stDeep Ty.deeps T) (stMax Ex.tdeeps st)) (Mm.tdeeps l) := by
  induction l generalizing st T with
  | nil => have := stDeep_nonneg Ty.deeps T; simp only [pushMs, pushTs, Mm.tdeeps]; omega
  | cons a r ih =>
    have h := ih (pushL T a.types 1) (pushL st a.args d)
    rw [stMax_push _ (by simp [Ex.tdeeps]), stDeep_push1] at h
    simp only [pushMs, pushTs, Mm.tdeeps]
    rw [Mm.tdeep_eq, h]
    omega
theorem pushTs_ok {N : Nat} {st : List (List Ty × Int)} (h : stOk Ty.sizes N st) : ∀ (l : List Mm), (∀ m, m ∈ l → 1 + 2 * (Ty.sizes m.types : Int) ≤ N) → stOk Ty.sizes N (pushTs st l) := by
  intro l
  induction l generalizing st with
  | nil => intro _; exact h
  | cons a r ih =>
    intro hl
    exact ih (h.push (fun _ => ⟨by omega, hl a (by simp)⟩)) (fun m hm => hl m (by simp [hm]))
theorem Mm.tsizes_mem (l : List Mm) : ∀ m, m ∈ l → Ty.sizes m.types ≤ Mm.tsizes l := by
  induction l with
  | nil => simp
  | cons a r ih =>
    intro m hm
    simp only [Mm.tsizes]
    rcases List.mem_cons.1 hm with e | e
    · subst e; have := Mm.tsize_eq m; omega
    · have := ih m e; omega

end Go.Proofs.Ythgbldkcgfggfaa

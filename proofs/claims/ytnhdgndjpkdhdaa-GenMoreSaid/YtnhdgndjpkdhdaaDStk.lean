/-
  Plain theory of graph.reach: what is left in lists, the last one first, is the same as to visit.
-/
import Derived.Test.YtnhdgndjpkdhdaaGTrim
namespace Go.Proofs.Ytnhdgndjpkdhdaa
namespace G

/-- What is reached, once the lists that are left have been gone through, the last one first. -/
def fin (f : Nat → List Nat) (n : Nat) (out : List Nat) (st : List (List Nat)) : List Nat := st.reverse.flatten.foldl (fun o x => visit f n x o) out
/-- A list that is left, unless it is empty. -/
def pushR {α : Type} (st : List (List α)) (l : List α) : List (List α) := if l.isEmpty then st else st ++ [l]
theorem pushR_flat {α : Type} (st : List (List α)) (l : List α) : (pushR st l).reverse.flatten = l ++ st.reverse.flatten := by
  unfold pushR
  cases l with
  | nil => rfl
  | cons a r => simp
theorem pushR_flat' {α : Type} (st : List (List α)) (l : List α) : (pushR st l).flatten.length = st.flatten.length + l.length := by
  unfold pushR
  cases l with
  | nil => rfl
  | cons a r => simp
theorem pushR_ne {α : Type} {st : List (List α)} {l : List α} (h : ∀ x, x ∈ st → x ≠ []) : ∀ x, x ∈ pushR st l → x ≠ [] := by
  intro x hx
  unfold pushR at hx
  cases l with
  | nil => exact h x hx
  | cons a r =>
    rcases List.mem_append.1 hx with e | e
    · exact h x e
    · simp at e; subst e; simp

section
variable {f : Nat → List Nat} {N : Nat}
theorem fin_nil (n : Nat) (out : List Nat) : fin f n out [] = out := rfl
theorem fin_seen {n x : Nat} {out l : List Nat} {st : List (List Nat)} (h : x ∈ out) : fin f (n + 1) out (st ++ [x :: l]) = fin f (n + 1) out (pushR st l) := by
  unfold fin
  rw [pushR_flat]
  simp only [List.reverse_append, List.reverse_cons, List.reverse_nil, List.nil_append, List.flatten_cons, List.cons_append, List.foldl_cons]
  rw [visit_succ, if_pos h]
theorem fin_new (hf : ∀ a, a < N → ∀ y, y ∈ f a → y < N) {x : Nat} {out l : List Nat} {st : List (List Nat)} (hx : x < N) (h : x ∉ out) (hn : out.Nodup) (hl : ∀ y, y ∈ out → y < N) :
    fin f (N + 1) out (st ++ [x :: l]) = fin f (N + 1) (out ++ [x]) (pushR (pushR st l) (f x)) := by
  have h1 := visit_more hf (N + 1) x out hx hn hl (by omega)
  unfold fin
  rw [pushR_flat, pushR_flat, List.foldl_append]
  simp only [List.reverse_append, List.reverse_cons, List.reverse_nil, List.nil_append, List.flatten_cons, List.cons_append, List.foldl_cons]
  rw [← h1, visit_succ, if_neg h]

/-- How many numbers the nodes that were not met lead to. -/
def pend (f : Nat → List Nat) : Nat → List Nat → Nat
  | 0, _ => 0
  | n + 1, out => (if n ∈ out then 0 else (f n).length) + pend f n out
theorem pend_other {n x : Nat} {out : List Nat} (h : n ≤ x) : pend f n (out ++ [x]) = pend f n out := by
  induction n with
  | zero => rfl
  | succ n ih =>
    unfold pend
    rw [ih (by omega)]
    have : n ∈ out ++ [x] ↔ n ∈ out := by
      rw [List.mem_append, List.mem_singleton]
      exact ⟨fun e => e.resolve_right (by omega), .inl⟩
    simp only [this]
theorem pend_step {n x : Nat} {out : List Nat} (hx : x < n) (h : x ∉ out) : pend f n out = (f x).length + pend f n (out ++ [x]) := by
  induction n with
  | zero => omega
  | succ n ih =>
    unfold pend
    by_cases e : x = n
    · subst e
      rw [if_neg h, if_pos (by simp), pend_other (Nat.le_refl _)]
      omega
    · have : n ∈ out ++ [x] ↔ n ∈ out := by
        rw [List.mem_append, List.mem_singleton]
        exact ⟨fun e' => e'.resolve_right (fun e2 => e e2.symm), .inl⟩
      simp only [this]
      rw [ih (by omega)]
      omega
/-- How many steps are left at most. -/
def togo (f : Nat → List Nat) (N : Nat) (out : List Nat) (st : List (List Nat)) : Nat := pend f N out + st.flatten.length
theorem togo_seen {x : Nat} {out l : List Nat} {st : List (List Nat)} : togo f N out (pushR st l) + 1 = togo f N out (st ++ [x :: l]) := by
  unfold togo
  rw [pushR_flat']
  simp
  omega
theorem togo_new {x : Nat} {out l : List Nat} {st : List (List Nat)} (hx : x < N) (h : x ∉ out) : togo f N (out ++ [x]) (pushR (pushR st l) (f x)) + 1 = togo f N out (st ++ [x :: l]) := by
  unfold togo
  rw [pushR_flat', pushR_flat', pend_step hx h]
  simp
  omega
end

theorem pushR_len {α : Type} (st : List (List α)) (l : List α) : (pushR st l).length ≤ st.length + 1 := by
  unfold pushR
  split <;> simp
theorem pushR_all {α : Type} {P : α → Prop} {st : List (List α)} {l : List α} (h : ∀ x, x ∈ st → ∀ y, y ∈ x → P y) (hl : ∀ y, y ∈ l → P y) : ∀ x, x ∈ pushR st l → ∀ y, y ∈ x → P y := by
  intro x hx
  unfold pushR at hx
  split at hx
  · exact h x hx
  · rcases List.mem_append.1 hx with e | e
    · exact h x e
    · simp at e; subst e; exact hl
end G
end Go.Proofs.Ytnhdgndjpkdhdaa

/-
  Plain theory of gen.backward: edges put in order of what they lead to.
-/
import Derived.Test.YtnhdgndjpkdhdaaNWay
namespace Go.Proofs.Ytnhdgndjpkdhdaa
namespace G

/-- All edges, each with what it leads to first, in the order of the nodes. -/
def edges (f : Nat → List Nat) (N : Nat) : List (Nat × Nat) := (List.range N).flatMap fun i => (f i).map fun a => (a, i)
def ecnt (L : List (Nat × Nat)) (a : Nat) : Nat := L.countP fun e => decide (e.1 = a)
def under (L : List (Nat × Nat)) (b : Nat) : Nat := L.countP fun e => decide (e.1 < b)

theorem mem_edges {f : Nat → List Nat} {N : Nat} {a i : Nat} : (a, i) ∈ edges f N ↔ i < N ∧ a ∈ f i := by
  unfold edges
  simp only [List.mem_flatMap, List.mem_range, List.mem_map, Prod.mk.injEq]
  constructor
  · rintro ⟨j, hj, b, hb, rfl, rfl⟩; exact ⟨hj, hb⟩
  · rintro ⟨h1, h2⟩; exact ⟨i, h1, a, h2, rfl, rfl⟩
theorem edges_succ (f : Nat → List Nat) (N : Nat) : edges f (N + 1) = edges f N ++ (f N).map fun a => (a, N) := by
  unfold edges
  rw [List.range_succ, List.flatMap_append]
  simp
theorem edges_split (f : Nat → List Nat) {N i : Nat} (hi : i < N) : ∃ r, edges f N = edges f i ++ ((f i).map fun a => (a, i)) ++ r := by
  induction N with
  | zero => omega
  | succ n ih =>
    rw [edges_succ]
    by_cases e : i = n
    · subst e; exact ⟨[], by simp⟩
    · obtain ⟨r, hr⟩ := ih (by omega)
      exact ⟨r ++ (f n).map fun a => (a, n), by rw [hr]; simp⟩

section
variable {L : List (Nat × Nat)} {a b : Nat}
theorem under_zero : under L 0 = 0 := by simp [under]
theorem under_succ : under L (b + 1) = under L b + ecnt L b := by
  unfold under ecnt
  induction L with
  | nil => rfl
  | cons e r ih =>
    simp only [List.countP_cons]
    rw [ih]
    by_cases h1 : e.1 < b
    · have h2 : e.1 < b + 1 := by omega
      have h3 : ¬ e.1 = b := by omega
      simp [h1, h2, h3]; omega
    · by_cases h3 : e.1 = b
      · have h2 : e.1 < b + 1 := by omega
        simp [h3]; omega
      · have h2 : ¬ e.1 < b + 1 := by omega
        simp [h1, h2, h3]
theorem under_le (h : a ≤ b) : under L a ≤ under L b := by
  induction b with
  | zero => have : a = 0 := by omega
            subst this; exact Nat.le_refl _
  | succ n ih =>
    by_cases e : a = n + 1
    · subst e; exact Nat.le_refl _
    · rw [under_succ]
      have := ih (by omega)
      omega
theorem under_len : under L b ≤ L.length := by unfold under; exact List.countP_le_length
theorem under_all {N : Nat} (h : ∀ e, e ∈ L → e.1 < N) : under L N = L.length := by
  unfold under
  rw [List.countP_eq_length]
  intro e he
  simpa using h e he
theorem ecnt_none {N : Nat} (h : ∀ e, e ∈ L → e.1 < N) (ha : N ≤ a) : ecnt L a = 0 := by
  unfold ecnt
  rw [List.countP_eq_zero]
  intro e he
  have := h e he
  simp; omega
theorem ecnt_snoc (e : Nat × Nat) : ecnt (L ++ [e]) a = ecnt L a + if e.1 = a then 1 else 0 := by
  unfold ecnt
  rw [List.countP_append]
  by_cases h : e.1 = a <;> simp [h]
theorem ecnt_app (M : List (Nat × Nat)) : ecnt (L ++ M) a = ecnt L a + ecnt M a := by unfold ecnt; rw [List.countP_append]
theorem ecnt_len : ecnt L a ≤ L.length := by unfold ecnt; exact List.countP_le_length
theorem ecnt_cons (e : Nat × Nat) : ecnt (e :: L) a = ecnt L a + if e.1 = a then 1 else 0 := by
  unfold ecnt
  rw [List.countP_cons]
  by_cases h : e.1 = a <;> simp [h]
/-- Each rank is some edge's. -/
theorem ecnt_rank : ∀ (L : List (Nat × Nat)) (r : Nat), r < ecnt L a → ∃ L1 e L2, L = L1 ++ e :: L2 ∧ e.1 = a ∧ ecnt L1 a = r
  | [], r, h => by simp [ecnt] at h
  | e :: t, r, h => by
    rw [ecnt_cons] at h
    by_cases he : e.1 = a
    · rw [if_pos he] at h
      cases r with
      | zero => exact ⟨[], e, t, rfl, he, rfl⟩
      | succ r =>
        obtain ⟨L1, e', L2, h1, h2, h3⟩ := ecnt_rank t r (by omega)
        refine ⟨e :: L1, e', L2, by rw [h1]; rfl, h2, ?_⟩
        rw [ecnt_cons, if_pos he, h3]
    · rw [if_neg he] at h
      obtain ⟨L1, e', L2, h1, h2, h3⟩ := ecnt_rank t r (by omega)
      refine ⟨e :: L1, e', L2, by rw [h1]; rfl, h2, ?_⟩
      rw [ecnt_cons, if_neg he, h3]; rfl
end

/-- Each edge that was put stands where it ought to. -/
def Put (E L : List (Nat × Nat)) (g : Nat → Nat) : Prop := ∀ L1 e L2, L = L1 ++ e :: L2 → g (under E e.1 + ecnt L1 e.1) = e.2
def fst1 (E L : List (Nat × Nat)) (j : Nat) : Nat := if j = 0 then 0 else under E (j - 1) + ecnt L (j - 1)
section
variable {E L R : List (Nat × Nat)} {e : Nat × Nat} {g : Nat → Nat}
theorem put_pos (h : E = L ++ e :: R) : under E e.1 + ecnt L e.1 < under E (e.1 + 1) := by
  rw [under_succ]
  have : ecnt E e.1 = ecnt L e.1 + (ecnt R e.1 + 1) := by rw [h, ecnt_app, ecnt_cons, if_pos rfl]
  omega
theorem put_len (h : E = L ++ e :: R) : under E e.1 + ecnt L e.1 < E.length := Nat.lt_of_lt_of_le (put_pos h) under_len
theorem Put.nil : Put E [] g := fun L1 e L2 h => by
  have := congrArg List.length h
  simp at this
theorem Put.step (hE : E = L ++ e :: R) (h : Put E L g) : Put E (L ++ [e]) (fun i => if i = under E e.1 + ecnt L e.1 then e.2 else g i) := by
  intro L1 e' L2 hd
  rcases List.eq_nil_or_concat L2 with rfl | ⟨L3, e3, rfl⟩
  · have := List.append_inj' hd (by simp)
    simp at this
    obtain ⟨rfl, rfl⟩ := this
    simp
  · have h1 : L ++ [e] = (L1 ++ e' :: L3) ++ [e3] := by rw [hd]; simp
    have h2 := List.append_inj' h1 (by simp)
    obtain ⟨h3, h4⟩ := h2
    have h5 := h L1 e' L3 h3
    have hE' : E = L1 ++ e' :: (L3 ++ e :: R) := by rw [hE, h3]; simp
    have h6 := put_pos hE'
    have h7 := put_pos hE
    show (if under E e'.1 + ecnt L1 e'.1 = under E e.1 + ecnt L e.1 then e.2 else g _) = e'.2
    rw [if_neg ?_]
    · exact h5
    · intro h8
      by_cases hx : e'.1 = e.1
      · rw [hx] at h8
        have h9 : ecnt L e.1 = ecnt L1 e.1 + (ecnt L3 e.1 + 1) := by rw [h3, ecnt_app, ecnt_cons, if_pos hx]
        omega
      · rcases Nat.lt_or_ge e'.1 e.1 with hl | hl
        · have := under_le (L := E) (a := e'.1 + 1) (b := e.1) (by omega)
          omega
        · have := under_le (L := E) (a := e.1 + 1) (b := e'.1) (by omega)
          omega
theorem fst1_nil (j : Nat) : fst1 E [] j = under E (j - 1) := by
  unfold fst1
  by_cases h : j = 0
  · subst h; simp [under_zero]
  · rw [if_neg h]; simp [ecnt]
theorem fst1_snoc (j : Nat) : fst1 E (L ++ [e]) j = if j = e.1 + 1 then fst1 E L (e.1 + 1) + 1 else fst1 E L j := by
  unfold fst1
  by_cases h : j = e.1 + 1
  · subst h
    simp [ecnt_snoc]; omega
  · rw [if_neg h]
    by_cases h0 : j = 0
    · simp [h0]
    · rw [if_neg h0, if_neg h0, ecnt_snoc, if_neg (by omega)]
      rfl
theorem fst1_all (j : Nat) : fst1 E E j = under E j := by
  unfold fst1
  by_cases h : j = 0
  · subst h; simp [under_zero]
  · rw [if_neg h]
    have := under_succ (L := E) (b := j - 1)
    rw [show j - 1 + 1 = j by omega] at this
    omega
/-- What is put for a node: those that lead to it. -/
theorem put_mem (h : Put E E g) (x y : Nat) : y ∈ (List.range (under E (x + 1) - under E x)).map (fun r => g (under E x + r)) ↔ (x, y) ∈ E := by
  rw [under_succ, Nat.add_sub_cancel_left]
  simp only [List.mem_map, List.mem_range]
  constructor
  · rintro ⟨r, hr, hy⟩
    obtain ⟨L1, e, L2, h1, h2, h3⟩ := ecnt_rank E r hr
    have h4 := h L1 e L2 h1
    rw [h2, h3, hy] at h4
    rw [h1]
    have : e = (x, y) := by cases e; simp_all
    rw [this]; simp
  · intro hm
    obtain ⟨L1, L2, h1⟩ := List.append_of_mem hm
    refine ⟨ecnt L1 x, ?_, h L1 (x, y) L2 h1⟩
    conv => rhs; rw [h1]
    rw [ecnt_app, ecnt_cons, if_pos rfl]
    omega
end
/-- How many edges lead to each node, two places on. -/
def fst0 (L : List (Nat × Nat)) (j : Nat) : Nat := if j < 2 then 0 else ecnt L (j - 2)
theorem fst0_nil (j : Nat) : fst0 [] j = 0 := by simp [fst0, ecnt]
theorem fst0_snoc (L : List (Nat × Nat)) (e : Nat × Nat) (j : Nat) : fst0 (L ++ [e]) j = if j = e.1 + 2 then fst0 L (e.1 + 2) + 1 else fst0 L j := by
  unfold fst0
  by_cases h : j = e.1 + 2
  · subst h
    rw [if_neg (by omega), if_pos rfl, if_neg (by omega)]
    simp [ecnt_snoc]
  · rw [if_neg h]
    by_cases h0 : j < 2
    · simp [h0]
    · rw [if_neg h0, if_neg h0, ecnt_snoc, if_neg (by omega)]
      rfl
/-- The sums under way: those before i are reckoned. -/
def sums (L : List (Nat × Nat)) (i j : Nat) : Nat := if j < i then under L (j - 1) else fst0 L j
theorem sums_two (L : List (Nat × Nat)) (j : Nat) : sums L 2 j = fst0 L j := by
  unfold sums
  by_cases h : j < 2
  · rw [if_pos h]
    have : j - 1 = 0 := by omega
    rw [this, under_zero]
    unfold fst0
    rw [if_pos h]
  · rw [if_neg h]
theorem sums_step (L : List (Nat × Nat)) (i : Nat) (hi : 2 ≤ i) (j : Nat) : sums L (i + 1) j = if j = i then sums L i i + sums L i (i - 1) else sums L i j := by
  unfold sums
  by_cases h : j = i
  · subst h
    rw [if_pos (by omega), if_pos rfl, if_neg (by omega), if_pos (by omega)]
    unfold fst0
    rw [if_neg (by omega)]
    have := under_succ (L := L) (b := j - 2)
    rw [show j - 2 + 1 = j - 1 by omega] at this
    rw [this, show j - 1 - 1 = j - 2 by omega]
    omega
  · rw [if_neg h]
    by_cases h2 : j < i
    · rw [if_pos (by omega), if_pos h2]
    · rw [if_neg (by omega), if_neg h2]
end G
end Go.Proofs.Ytnhdgndjpkdhdaa

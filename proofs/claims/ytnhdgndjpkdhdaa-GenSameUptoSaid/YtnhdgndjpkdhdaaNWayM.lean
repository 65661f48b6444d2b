/-
  Plain theory of layer 13: what leads to what; what is come to from some nodes.
-/
/-
  Plain theory of gen.backward: edges put in order of what they lead to.
-/
import Derived.Test.YtnhdgndjpkdhdaaGTrim
namespace Go.Proofs.Ytnhdgndjpkdhdaa
namespace G

/-- A node leads to another one, by whatever way. -/
inductive Way (f : Nat → List Nat) (a : Nat) : Nat → Prop
  | here : Way f a a
  | step {b y : Nat} : Way f a b → y ∈ f b → Way f a y

section
variable {f g : Nat → List Nat} {N : Nat}
theorem Way.trans {a b c : Nat} (h : Way f a b) (k : Way f b c) : Way f a c := by
  induction k with
  | here => exact h
  | step _ hy ih => exact .step ih hy
theorem Way.one {a y : Nat} (h : y ∈ f a) : Way f a y := .step .here h
theorem Way.lt (hf : ∀ a, a < N → ∀ y, y ∈ f a → y < N) {a b : Nat} (ha : a < N) (h : Way f a b) : b < N := by
  induction h with
  | here => exact ha
  | step _ hy ih => exact hf _ ih _ hy
/-- The same ways gone back. -/
theorem Way.back (hf : ∀ a, a < N → ∀ y, y ∈ f a → y < N) (hb : ∀ x y, x < N → y < N → (x ∈ g y ↔ y ∈ f x)) {a b : Nat} (ha : a < N) (h : Way f a b) : Way g b a := by
  induction h with
  | here => exact .here
  | step h1 hy ih =>
    have h2 := Way.lt hf ha h1
    exact Way.trans (Way.one ((hb _ _ h2 (hf _ h2 _ hy)).2 hy)) ih
theorem Way.first {a c : Nat} (h : Way f a c) : a = c ∨ ∃ b, b ∈ f a ∧ Way f b c := by
  induction h with
  | here => exact .inl rfl
  | step _ hy ih =>
    rcases ih with rfl | ⟨b, hb, h2⟩
    · exact .inr ⟨_, hy, .here⟩
    · exact .inr ⟨b, hb, .step h2 hy⟩

theorem visit_way : ∀ (n a : Nat) (out : List Nat) (x : Nat), x ∈ visit f n a out → x ∈ out ∨ Way f a x
  | 0, _, _, _, h => .inl h
  | n + 1, a, out, x, h => by
    rw [visit_succ] at h
    by_cases ha : a ∈ out
    · rw [if_pos ha] at h; exact .inl h
    · rw [if_neg ha] at h
      have key : ∀ (l : List Nat) (o : List Nat), x ∈ l.foldl (fun o x => visit f n x o) o → x ∈ o ∨ ∃ b, b ∈ l ∧ Way f b x := by
        intro l
        induction l with
        | nil => intro o h; exact .inl h
        | cons b r ih =>
          intro o h
          rcases ih _ h with h1 | ⟨c, hc, h1⟩
          · rcases visit_way n b o x h1 with h2 | h2
            · exact .inl h2
            · exact .inr ⟨b, List.mem_cons_self .., h2⟩
          · exact .inr ⟨c, List.mem_cons_of_mem _ hc, h1⟩
      rcases key _ _ h with h1 | ⟨b, hb, h1⟩
      · rcases List.mem_append.1 h1 with h2 | h2
        · exact .inl h2
        · simp at h2; subst h2; exact .inr .here
      · exact .inr (Way.trans (Way.one hb) h1)
/-- What a visit from nothing meets is what its node leads to. -/
theorem mem_visit (hf : ∀ a, a < N → ∀ y, y ∈ f a → y < N) {m : Nat} (hm : m < N) (x : Nat) : x ∈ visit f (N + 1) m [] ↔ Way f m x := by
  constructor
  · intro h
    rcases visit_way _ _ _ _ h with h1 | h1
    · cases h1
    · exact h1
  · intro h
    obtain ⟨h1, h2⟩ := went_visit hf (N + 1) m [] hm (by simp) (fun x hx => by cases hx) (by simp)
    induction h with
    | here => exact h2
    | step _ hy ih => exact h1.closed _ ih (by simp) _ hy
/-- What some nodes reach. -/
def heldL (f : Nat → List Nat) (N : Nat) (M : List Nat) : List Nat := M.flatMap fun m => visit f (N + 1) m []
theorem mem_heldL (hf : ∀ a, a < N → ∀ y, y ∈ f a → y < N) {M : List Nat} (hM : ∀ m, m ∈ M → m < N) (x : Nat) : x ∈ heldL f N M ↔ ∃ m, m ∈ M ∧ Way f m x := by
  unfold heldL
  rw [List.mem_flatMap]
  constructor
  · rintro ⟨m, h1, h2⟩; exact ⟨m, h1, (mem_visit hf (hM m h1) x).1 h2⟩
  · rintro ⟨m, h1, h2⟩; exact ⟨m, h1, (mem_visit hf (hM m h1) x).2 h2⟩
theorem heldL_lt (hf : ∀ a, a < N → ∀ y, y ∈ f a → y < N) {M : List Nat} (hM : ∀ m, m ∈ M → m < N) (x : Nat) (h : x ∈ heldL f N M) : x < N := by
  obtain ⟨m, h1, h2⟩ := (mem_heldL hf hM x).1 h
  exact h2.lt hf (hM m h1)

/-- One looked at: who wasn't met is met, and left. -/
def visL (p : List Nat × List Nat) (x : Nat) : List Nat × List Nat := if x ∈ p.1 then p else (p.1 ++ [x], p.2 ++ [x])
theorem visL_all (l : List Nat) : ∀ p : List Nat × List Nat, ∃ t : List Nat, l.foldl visL p = (p.1 ++ t, p.2 ++ t) ∧ t.Nodup ∧ (∀ x, x ∈ t → x ∉ p.1 ∧ x ∈ l) ∧ ∀ x, x ∈ l → x ∈ p.1 ++ t := by
  induction l with
  | nil => intro p; exact ⟨[], by simp, by simp, (fun x h => by cases h), (fun x h => by cases h)⟩
  | cons a r ih =>
    intro p
    rw [List.foldl_cons]
    unfold visL
    by_cases ha : a ∈ p.1
    · rw [if_pos ha]
      obtain ⟨t, h1, h2, h3, h4⟩ := ih p
      refine ⟨t, h1, h2, fun x hx => ⟨(h3 x hx).1, List.mem_cons_of_mem _ (h3 x hx).2⟩, fun x hx => ?_⟩
      rcases List.mem_cons.1 hx with rfl | e
      · exact List.mem_append_left _ ha
      · exact h4 x e
    · rw [if_neg ha]
      obtain ⟨t, h1, h2, h3, h4⟩ := ih (p.1 ++ [a], p.2 ++ [a])
      refine ⟨a :: t, by rw [show (fun p x => if x ∈ p.1 then p else (p.1 ++ [x], p.2 ++ [x])) = visL from rfl, h1]; simp, ?_, fun x hx => ?_, fun x hx => ?_⟩
      · rw [List.nodup_cons]
        exact ⟨fun e => (h3 a e).1 (by simp), h2⟩
      · rcases List.mem_cons.1 hx with rfl | e
        · exact ⟨ha, List.mem_cons_self ..⟩
        · exact ⟨fun e' => (h3 x e).1 (List.mem_append_left _ e'), List.mem_cons_of_mem _ (h3 x e).2⟩
      · rcases List.mem_cons.1 hx with rfl | e
        · simp
        · have := h4 x e
          simpa using this

theorem nodup_sub {l m : List Nat} (hn : l.Nodup) (h : ∀ x, x ∈ l → x ∈ m) : l.length ≤ m.length := by
  induction l generalizing m with
  | nil => simp
  | cons a r ih =>
    rw [List.nodup_cons] at hn
    have ha := h a (List.mem_cons_self ..)
    have h1 := ih (m := m.erase a) hn.2 (fun x hx => by
      have : x ≠ a := fun e => hn.1 (e ▸ hx)
      exact (List.mem_erase_of_ne this).2 (h x (List.mem_cons_of_mem _ hx)))
    have h2 := List.length_erase_of_mem ha
    have h3 := List.length_pos_of_mem ha
    simp only [List.length_cons]
    omega
/-- Who was met, and who of these is left. -/
structure Spr (f : Nat → List Nat) (N : Nat) (M out st : List Nat) (k : Nat) : Prop where
  nd : out.Nodup
  lt : ∀ x, x ∈ out → x < N
  way : ∀ x, x ∈ out → ∃ m, m ∈ M ∧ Way f m x
  ini : ∀ m, m ∈ M → m ∈ out
  sub : ∀ x, x ∈ st → x ∈ out
  snd : st.Nodup
  cl : ∀ x, x ∈ out → x ∉ st → ∀ y, y ∈ f x → y ∈ out
  go : N - out.length + st.length ≤ k
theorem Spr.start {M : List Nat} (hM : ∀ m, m ∈ M → m < N) : Spr f N M (M.foldl visL ([], [])).1 (M.foldl visL ([], [])).2 N := by
  obtain ⟨t, h1, h2, h3, h4⟩ := visL_all M ([], [])
  rw [h1]
  simp only [List.nil_append]
  have hl : ∀ x, x ∈ t → x < N := fun x hx => hM x (h3 x hx).2
  have := nodup_len N h2 hl
  exact ⟨h2, hl, fun x hx => ⟨x, (h3 x hx).2, .here⟩, fun m hm => by simpa using h4 m hm, fun _ h => h, h2, fun x h1 h2 => absurd h1 h2, by omega⟩
theorem Spr.step (hf : ∀ a, a < N → ∀ y, y ∈ f a → y < N) {M out st : List Nat} {x k : Nat} (h : Spr f N M out (st ++ [x]) k) : Spr f N M ((f x).foldl visL (out, st)).1 ((f x).foldl visL (out, st)).2 (k - 1) ∧ k - 1 < k := by
  obtain ⟨t, h1, h2, h3, h4⟩ := visL_all (f x) (out, st)
  rw [h1]
  simp only
  have hxo := h.sub x (by simp)
  have hxN := h.lt x hxo
  have hsn := h.snd
  rw [List.nodup_append] at hsn
  have hgo := h.go
  simp only [List.length_append, List.length_singleton] at hgo
  have hnd : (out ++ t).Nodup := by
    rw [List.nodup_append]
    exact ⟨h.nd, h2, fun a ha b hb e => (h3 b hb).1 (e ▸ ha)⟩
  have hlt : ∀ y, y ∈ out ++ t → y < N := fun y hy => by
    rcases List.mem_append.1 hy with e | e
    · exact h.lt y e
    · exact hf x hxN y (h3 y e).2
  have hln := nodup_len N hnd hlt
  simp only [List.length_append] at hln
  refine ⟨⟨hnd, hlt, fun y hy => ?_, fun m hm => List.mem_append_left _ (h.ini m hm), fun y hy => ?_, ?_, fun y hy hys z hz => ?_, by simp only [List.length_append]; omega⟩, by omega⟩
  · rcases List.mem_append.1 hy with e | e
    · exact h.way y e
    · obtain ⟨m, hm, hw⟩ := h.way x hxo
      exact ⟨m, hm, .step hw (h3 y e).2⟩
  · rcases List.mem_append.1 hy with e | e
    · exact List.mem_append_left _ (h.sub y (List.mem_append_left _ e))
    · exact List.mem_append_right _ e
  · rw [List.nodup_append]
    exact ⟨hsn.1, h2, fun a ha b hb e => (h3 b hb).1 (e ▸ h.sub a (List.mem_append_left _ ha))⟩
  · rcases List.mem_append.1 hy with e | e
    · by_cases hyx : y = x
      · subst hyx; exact h4 z hz
      · refine List.mem_append_left _ (h.cl y e (fun e' => ?_) z hz)
        rcases List.mem_append.1 e' with e2 | e2
        · exact hys (List.mem_append_left _ e2)
        · simp at e2; exact hyx e2
    · exact absurd (List.mem_append_right _ e) hys
theorem Spr.done {M out : List Nat} {k : Nat} (h : Spr f N M out [] k) (x : Nat) : x ∈ out ↔ ∃ m, m ∈ M ∧ Way f m x := by
  refine ⟨h.way x, ?_⟩
  rintro ⟨m, hm, hw⟩
  induction hw with
  | here => exact h.ini m hm
  | step _ hy ih => exact h.cl _ ih (by simp) _ hy
end
end G
end Go.Proofs.Ytnhdgndjpkdhdaa
namespace Go.Proofs.Ytnhdgndjpkdhdaa
namespace G

/-- All edges, each with what it leads to first, in the order of the nodes. -/
def edges (f : Nat → List Nat) (N : Nat) : List (Nat × Nat) := (List.range N).flatMap fun i => (f i).map fun a => (a, i)
def ecnt (L : List (Nat × Nat)) (a : Nat) : Nat := L.countP fun e => decide (e.1 = a)
def under (L : List (Nat × Nat)) (b : Nat) : Nat := L.countP fun e => decide (e.1 < b)

theorem mem_edges {f : Nat → List Nat} {N : Nat} {a i : Nat} : (a, i) ∈ edges f N ↔ i < N ∧ a ∈ f i := by
  unfold edges
  simp only [List.mem_flatMap, List.mem_range, List.mem_map, Prod.mk.injEq]
  constructor
  · rintro ⟨j, hj, b, hb, rfl, rfl⟩; exact ⟨hj, hb⟩
  · rintro ⟨h1, h2⟩; exact ⟨i, h1, a, h2, rfl, rfl⟩
theorem edges_succ (f : Nat → List Nat) (N : Nat) : edges f (N + 1) = edges f N ++ (f N).map fun a => (a, N) := by
  unfold edges
  rw [List.range_succ, List.flatMap_append]
  simp
theorem edges_split (f : Nat → List Nat) {N i : Nat} (hi : i < N) : ∃ r, edges f N = edges f i ++ ((f i).map fun a => (a, i)) ++ r := by
  induction N with
  | zero => omega
  | succ n ih =>
    rw [edges_succ]
    by_cases e : i = n
    · subst e; exact ⟨[], by simp⟩
    · obtain ⟨r, hr⟩ := ih (by omega)
      exact ⟨r ++ (f n).map fun a => (a, n), by rw [hr]; simp⟩

section
variable {L : List (Nat × Nat)} {a b : Nat}
theorem under_zero : under L 0 = 0 := by simp [under]
theorem under_succ : under L (b + 1) = under L b + ecnt L b := by
  unfold under ecnt
  induction L with
  | nil => rfl
  | cons e r ih =>
    simp only [List.countP_cons]
    rw [ih]
    by_cases h1 : e.1 < b
    · have h2 : e.1 < b + 1 := by omega
      have h3 : ¬ e.1 = b := by omega
      simp [h1, h2, h3]; omega
    · by_cases h3 : e.1 = b
      · have h2 : e.1 < b + 1 := by omega
        simp [h3]; omega
      · have h2 : ¬ e.1 < b + 1 := by omega
        simp [h1, h2, h3]
theorem under_le (h : a ≤ b) : under L a ≤ under L b := by
  induction b with
  | zero => have : a = 0 := by omega
            subst this; exact Nat.le_refl _
  | succ n ih =>
    by_cases e : a = n + 1
    · subst e; exact Nat.le_refl _
    · rw [under_succ]
      have := ih (by omega)
      omega
theorem under_len : under L b ≤ L.length := by unfold under; exact List.countP_le_length
theorem under_all {N : Nat} (h : ∀ e, e ∈ L → e.1 < N) : under L N = L.length := by
  unfold under
  rw [List.countP_eq_length]
  intro e he
  simpa using h e he
theorem ecnt_none {N : Nat} (h : ∀ e, e ∈ L → e.1 < N) (ha : N ≤ a) : ecnt L a = 0 := by
  unfold ecnt
  rw [List.countP_eq_zero]
  intro e he
  have := h e he
  simp; omega
theorem ecnt_snoc (e : Nat × Nat) : ecnt (L ++ [e]) a = ecnt L a + if e.1 = a then 1 else 0 := by
  unfold ecnt
  rw [List.countP_append]
  by_cases h : e.1 = a <;> simp [h]
theorem ecnt_app (M : List (Nat × Nat)) : ecnt (L ++ M) a = ecnt L a + ecnt M a := by unfold ecnt; rw [List.countP_append]
theorem ecnt_len : ecnt L a ≤ L.length := by unfold ecnt; exact List.countP_le_length
theorem ecnt_cons (e : Nat × Nat) : ecnt (e :: L) a = ecnt L a + if e.1 = a then 1 else 0 := by
  unfold ecnt
  rw [List.countP_cons]
  by_cases h : e.1 = a <;> simp [h]
/-- Each rank is some edge's. -/
theorem ecnt_rank : ∀ (L : List (Nat × Nat)) (r : Nat), r < ecnt L a → ∃ L1 e L2, L = L1 ++ e :: L2 ∧ e.1 = a ∧ ecnt L1 a = r
  | [], r, h => by simp [ecnt] at h
  | e :: t, r, h => by
    rw [ecnt_cons] at h
    by_cases he : e.1 = a
    · rw [if_pos he] at h
      cases r with
      | zero => exact ⟨[], e, t, rfl, he, rfl⟩
      | succ r =>
        obtain ⟨L1, e', L2, h1, h2, h3⟩ := ecnt_rank t r (by omega)
        refine ⟨e :: L1, e', L2, by rw [h1]; rfl, h2, ?_⟩
        rw [ecnt_cons, if_pos he, h3]
    · rw [if_neg he] at h
      obtain ⟨L1, e', L2, h1, h2, h3⟩ := ecnt_rank t r (by omega)
      refine ⟨e :: L1, e', L2, by rw [h1]; rfl, h2, ?_⟩
      rw [ecnt_cons, if_neg he, h3]; rfl
end

/-- Each edge that was put stands where it ought to. -/
def Put (E L : List (Nat × Nat)) (g : Nat → Nat) : Prop := ∀ L1 e L2, L = L1 ++ e :: L2 → g (under E e.1 + ecnt L1 e.1) = e.2
def fst1 (E L : List (Nat × Nat)) (j : Nat) : Nat := if j = 0 then 0 else under E (j - 1) + ecnt L (j - 1)
section
variable {E L R : List (Nat × Nat)} {e : Nat × Nat} {g : Nat → Nat}
theorem put_pos (h : E = L ++ e :: R) : under E e.1 + ecnt L e.1 < under E (e.1 + 1) := by
  rw [under_succ]
  have : ecnt E e.1 = ecnt L e.1 + (ecnt R e.1 + 1) := by rw [h, ecnt_app, ecnt_cons, if_pos rfl]
  omega
theorem put_len (h : E = L ++ e :: R) : under E e.1 + ecnt L e.1 < E.length := Nat.lt_of_lt_of_le (put_pos h) under_len
theorem Put.nil : Put E [] g := fun L1 e L2 h => by
  have := congrArg List.length h
  simp at this
theorem Put.step (hE : E = L ++ e :: R) (h : Put E L g) : Put E (L ++ [e]) (fun i => if i = under E e.1 + ecnt L e.1 then e.2 else g i) := by
  intro L1 e' L2 hd
  rcases List.eq_nil_or_concat L2 with rfl | ⟨L3, e3, rfl⟩
  · have := List.append_inj' hd (by simp)
    simp at this
    obtain ⟨rfl, rfl⟩ := this
    simp
  · have h1 : L ++ [e] = (L1 ++ e' :: L3) ++ [e3] := by rw [hd]; simp
    have h2 := List.append_inj' h1 (by simp)
    obtain ⟨h3, h4⟩ := h2
    have h5 := h L1 e' L3 h3
    have hE' : E = L1 ++ e' :: (L3 ++ e :: R) := by rw [hE, h3]; simp
    have h6 := put_pos hE'
    have h7 := put_pos hE
    show (if under E e'.1 + ecnt L1 e'.1 = under E e.1 + ecnt L e.1 then e.2 else g _) = e'.2
    rw [if_neg ?_]
    · exact h5
    · intro h8
      by_cases hx : e'.1 = e.1
      · rw [hx] at h8
        have h9 : ecnt L e.1 = ecnt L1 e.1 + (ecnt L3 e.1 + 1) := by rw [h3, ecnt_app, ecnt_cons, if_pos hx]
        omega
      · rcases Nat.lt_or_ge e'.1 e.1 with hl | hl
        · have := under_le (L := E) (a := e'.1 + 1) (b := e.1) (by omega)
          omega
        · have := under_le (L := E) (a := e.1 + 1) (b := e'.1) (by omega)
          omega
theorem fst1_nil (j : Nat) : fst1 E [] j = under E (j - 1) := by
  unfold fst1
  by_cases h : j = 0
  · subst h; simp [under_zero]
  · rw [if_neg h]; simp [ecnt]
theorem fst1_snoc (j : Nat) : fst1 E (L ++ [e]) j = if j = e.1 + 1 then fst1 E L (e.1 + 1) + 1 else fst1 E L j := by
  unfold fst1
  by_cases h : j = e.1 + 1
  · subst h
    simp [ecnt_snoc]; omega
  · rw [if_neg h]
    by_cases h0 : j = 0
    · simp [h0]
    · rw [if_neg h0, if_neg h0, ecnt_snoc, if_neg (by omega)]
      rfl
theorem fst1_all (j : Nat) : fst1 E E j = under E j := by
  unfold fst1
  by_cases h : j = 0
  · subst h; simp [under_zero]
  · rw [if_neg h]
    have := under_succ (L := E) (b := j - 1)
    rw [show j - 1 + 1 = j by omega] at this
    omega
/-- What is put for a node: those that lead to it. -/
theorem put_mem (h : Put E E g) (x y : Nat) : y ∈ (List.range (under E (x + 1) - under E x)).map (fun r => g (under E x + r)) ↔ (x, y) ∈ E := by
  rw [under_succ, Nat.add_sub_cancel_left]
  simp only [List.mem_map, List.mem_range]
  constructor
  · rintro ⟨r, hr, hy⟩
    obtain ⟨L1, e, L2, h1, h2, h3⟩ := ecnt_rank E r hr
    have h4 := h L1 e L2 h1
    rw [h2, h3, hy] at h4
    rw [h1]
    have : e = (x, y) := by cases e; simp_all
    rw [this]; simp
  · intro hm
    obtain ⟨L1, L2, h1⟩ := List.append_of_mem hm
    refine ⟨ecnt L1 x, ?_, h L1 (x, y) L2 h1⟩
    conv => rhs; rw [h1]
    rw [ecnt_app, ecnt_cons, if_pos rfl]
    omega
end
/-- How many edges lead to each node, two places on. -/
def fst0 (L : List (Nat × Nat)) (j : Nat) : Nat := if j < 2 then 0 else ecnt L (j - 2)
theorem fst0_nil (j : Nat) : fst0 [] j = 0 := by simp [fst0, ecnt]
theorem fst0_snoc (L : List (Nat × Nat)) (e : Nat × Nat) (j : Nat) : fst0 (L ++ [e]) j = if j = e.1 + 2 then fst0 L (e.1 + 2) + 1 else fst0 L j := by
  unfold fst0
  by_cases h : j = e.1 + 2
  · subst h
    rw [if_neg (by omega), if_pos rfl, if_neg (by omega)]
    simp [ecnt_snoc]
  · rw [if_neg h]
    by_cases h0 : j < 2
    · simp [h0]
    · rw [if_neg h0, if_neg h0, ecnt_snoc, if_neg (by omega)]
      rfl
/-- The sums under way: those before i are reckoned. -/
def sums (L : List (Nat × Nat)) (i j : Nat) : Nat := if j < i then under L (j - 1) else fst0 L j
theorem sums_two (L : List (Nat × Nat)) (j : Nat) : sums L 2 j = fst0 L j := by
  unfold sums
  by_cases h : j < 2
  · rw [if_pos h]
    have : j - 1 = 0 := by omega
    rw [this, under_zero]
    unfold fst0
    rw [if_pos h]
  · rw [if_neg h]
theorem sums_step (L : List (Nat × Nat)) (i : Nat) (hi : 2 ≤ i) (j : Nat) : sums L (i + 1) j = if j = i then sums L i i + sums L i (i - 1) else sums L i j := by
  unfold sums
  by_cases h : j = i
  · subst h
    rw [if_pos (by omega), if_pos rfl, if_neg (by omega), if_pos (by omega)]
    unfold fst0
    rw [if_neg (by omega)]
    have := under_succ (L := L) (b := j - 2)
    rw [show j - 2 + 1 = j - 1 by omega] at this
    rw [this, show j - 1 - 1 = j - 2 by omega]
    omega
  · rw [if_neg h]
    by_cases h2 : j < i
    · rw [if_pos (by omega), if_pos h2]
    · rw [if_neg (by omega), if_neg h2]
end G
end Go.Proofs.Ytnhdgndjpkdhdaa

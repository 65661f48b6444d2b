/-
  Plain theory of layer 13: what leads to what; what is come to from some nodes.
-/
import Derived.Test.YtnhdgndjpkdhdaaGTrim
namespace Go.Proofs.Ytnhdgndjpkdhdaa
namespace G

/-- A node leads to another one, by whatever way. -/
inductive Way (f : Nat → List Nat) (a : Nat) : Nat → Prop
  | here : Way f a a
  | step {b y : Nat} : Way f a b → y ∈ f b → Way f a y

section
variable {f g : Nat → List Nat} {N : Nat}
theorem Way.trans {a b c : Nat} (h : Way f a b) (k : Way f b c) : Way f a c := by
  induction k with
  | here => exact h
  | step _ hy ih => exact .step ih hy
theorem Way.one {a y : Nat} (h : y ∈ f a) : Way f a y := .step .here h
theorem Way.lt (hf : ∀ a, a < N → ∀ y, y ∈ f a → y < N) {a b : Nat} (ha : a < N) (h : Way f a b) : b < N := by
  induction h with
  | here => exact ha
  | step _ hy ih => exact hf _ ih _ hy
/-- The same ways gone back. -/
theorem Way.back (hf : ∀ a, a < N → ∀ y, y ∈ f a → y < N) (hb : ∀ x y, x < N → y < N → (x ∈ g y ↔ y ∈ f x)) {a b : Nat} (ha : a < N) (h : Way f a b) : Way g b a := by
  induction h with
  | here => exact .here
  | step h1 hy ih =>
    have h2 := Way.lt hf ha h1
    exact Way.trans (Way.one ((hb _ _ h2 (hf _ h2 _ hy)).2 hy)) ih
theorem Way.first {a c : Nat} (h : Way f a c) : a = c ∨ ∃ b, b ∈ f a ∧ Way f b c := by
  induction h with
  | here => exact .inl rfl
  | step _ hy ih =>
    rcases ih with rfl | ⟨b, hb, h2⟩
    · exact .inr ⟨_, hy, .here⟩
    · exact .inr ⟨b, hb, .step h2 hy⟩

theorem visit_way : ∀ (n a : Nat) (out : List Nat) (x : Nat), x ∈ visit f n a out → x ∈ out ∨ Way f a x
  | 0, _, _, _, h => .inl h
  | n + 1, a, out, x, h => by
    rw [visit_succ] at h
    by_cases ha : a ∈ out
    · rw [if_pos ha] at h; exact .inl h
    · rw [if_neg ha] at h
      have key : ∀ (l : List Nat) (o : List Nat), x ∈ l.foldl (fun o x => visit f n x o) o → x ∈ o ∨ ∃ b, b ∈ l ∧ Way f b x := by
        intro l
        induction l with
        | nil => intro o h; exact .inl h
        | cons b r ih =>
          intro o h
          rcases ih _ h with h1 | ⟨c, hc, h1⟩
          · rcases visit_way n b o x h1 with h2 | h2
            · exact .inl h2
            · exact .inr ⟨b, List.mem_cons_self .., h2⟩
          · exact .inr ⟨c, List.mem_cons_of_mem _ hc, h1⟩
      rcases key _ _ h with h1 | ⟨b, hb, h1⟩
      · rcases List.mem_append.1 h1 with h2 | h2
        · exact .inl h2
        · simp at h2; subst h2; exact .inr .here
      · exact .inr (Way.trans (Way.one hb) h1)
/-- What a visit from nothing meets is what its node leads to. -/
theorem mem_visit (hf : ∀ a, a < N → ∀ y, y ∈ f a → y < N) {m : Nat} (hm : m < N) (x : Nat) : x ∈ visit f (N + 1) m [] ↔ Way f m x := by
  constructor
  · intro h
    rcases visit_way _ _ _ _ h with h1 | h1
    · cases h1
    · exact h1
  · intro h
    obtain ⟨h1, h2⟩ := went_visit hf (N + 1) m [] hm (by simp) (fun x hx => by cases hx) (by simp)
    induction h with
    | here => exact h2
    | step _ hy ih => exact h1.closed _ ih (by simp) _ hy
/-- What some nodes reach. -/
def heldL (f : Nat → List Nat) (N : Nat) (M : List Nat) : List Nat := M.flatMap fun m => visit f (N + 1) m []
theorem mem_heldL (hf : ∀ a, a < N → ∀ y, y ∈ f a → y < N) {M : List Nat} (hM : ∀ m, m ∈ M → m < N) (x : Nat) : x ∈ heldL f N M ↔ ∃ m, m ∈ M ∧ Way f m x := by
  unfold heldL
  rw [List.mem_flatMap]
  constructor
  · rintro ⟨m, h1, h2⟩; exact ⟨m, h1, (mem_visit hf (hM m h1) x).1 h2⟩
  · rintro ⟨m, h1, h2⟩; exact ⟨m, h1, (mem_visit hf (hM m h1) x).2 h2⟩
theorem heldL_lt (hf : ∀ a, a < N → ∀ y, y ∈ f a → y < N) {M : List Nat} (hM : ∀ m, m ∈ M → m < N) (x : Nat) (h : x ∈ heldL f N M) : x < N := by
  obtain ⟨m, h1, h2⟩ := (mem_heldL hf hM x).1 h
  exact h2.lt hf (hM m h1)

/-- One looked at: who wasn't met is met, and left. -/
def visL (p : List Nat × List Nat) (x : Nat) : List Nat × List Nat := if x ∈ p.1 then p else (p.1 ++ [x], p.2 ++ [x])
theorem visL_all (l : List Nat) : ∀ p : List Nat × List Nat, ∃ t : List Nat, l.foldl visL p = (p.1 ++ t, p.2 ++ t) ∧ t.Nodup ∧ (∀ x, x ∈ t → x ∉ p.1 ∧ x ∈ l) ∧ ∀ x, x ∈ l → x ∈ p.1 ++ t := by
  induction l with
  | nil => intro p; exact ⟨[], by simp, by simp, (fun x h => by cases h), (fun x h => by cases h)⟩
  | cons a r ih =>
    intro p
    rw [List.foldl_cons]
    unfold visL
    by_cases ha : a ∈ p.1
    · rw [if_pos ha]
      obtain ⟨t, h1, h2, h3, h4⟩ := ih p
      refine ⟨t, h1, h2, fun x hx => ⟨(h3 x hx).1, List.mem_cons_of_mem _ (h3 x hx).2⟩, fun x hx => ?_⟩
      rcases List.mem_cons.1 hx with rfl | e
      · exact List.mem_append_left _ ha
      · exact h4 x e
    · rw [if_neg ha]
      obtain ⟨t, h1, h2, h3, h4⟩ := ih (p.1 ++ [a], p.2 ++ [a])
      refine ⟨a :: t, by rw [show (fun p x => if x ∈ p.1 then p else (p.1 ++ [x], p.2 ++ [x])) = visL from rfl, h1]; simp, ?_, fun x hx => ?_, fun x hx => ?_⟩
      · rw [List.nodup_cons]
        exact ⟨fun e => (h3 a e).1 (by simp), h2⟩
      · rcases List.mem_cons.1 hx with rfl | e
        · exact ⟨ha, List.mem_cons_self ..⟩
        · exact ⟨fun e' => (h3 x e).1 (List.mem_append_left _ e'), List.mem_cons_of_mem _ (h3 x e).2⟩
      · rcases List.mem_cons.1 hx with rfl | e
        · simp
        · have := h4 x e
          simpa using this

theorem nodup_sub {l m : List Nat} (hn : l.Nodup) (h : ∀ x, x ∈ l → x ∈ m) : l.length ≤ m.length := by
  induction l generalizing m with
  | nil => simp
  | cons a r ih =>
    rw [List.nodup_cons] at hn
    have ha := h a (List.mem_cons_self ..)
    have h1 := ih (m := m.erase a) hn.2 (fun x hx => by
      have : x ≠ a := fun e => hn.1 (e ▸ hx)
      exact (List.mem_erase_of_ne this).2 (h x (List.mem_cons_of_mem _ hx)))
    have h2 := List.length_erase_of_mem ha
    have h3 := List.length_pos_of_mem ha
    simp only [List.length_cons]
    omega
/-- Who was met, and who of these is left. -/
structure Spr (f : Nat → List Nat) (N : Nat) (M out st : List Nat) (k : Nat) : Prop where
  nd : out.Nodup
  lt : ∀ x, x ∈ out → x < N
  way : ∀ x, x ∈ out → ∃ m, m ∈ M ∧ Way f m x
  ini : ∀ m, m ∈ M → m ∈ out
  sub : ∀ x, x ∈ st → x ∈ out
  snd : st.Nodup
  cl : ∀ x, x ∈ out → x ∉ st → ∀ y, y ∈ f x → y ∈ out
  go : N - out.length + st.length ≤ k
theorem Spr.start {M : List Nat} (hM : ∀ m, m ∈ M → m < N) : Spr f N M (M.foldl visL ([], [])).1 (M.foldl visL ([], [])).2 N := by
  obtain ⟨t, h1, h2, h3, h4⟩ := visL_all M ([], [])
  rw [h1]
  simp only [List.nil_append]
  have hl : ∀ x, x ∈ t → x < N := fun x hx => hM x (h3 x hx).2
  have := nodup_len N h2 hl
  exact ⟨h2, hl, fun x hx => ⟨x, (h3 x hx).2, .here⟩, fun m hm => by simpa using h4 m hm, fun _ h => h, h2, fun x h1 h2 => absurd h1 h2, by omega⟩
theorem Spr.step (hf : ∀ a, a < N → ∀ y, y ∈ f a → y < N) {M out st : List Nat} {x k : Nat} (h : Spr f N M out (st ++ [x]) k) : Spr f N M ((f x).foldl visL (out, st)).1 ((f x).foldl visL (out, st)).2 (k - 1) ∧ k - 1 < k := by
  obtain ⟨t, h1, h2, h3, h4⟩ := visL_all (f x) (out, st)
  rw [h1]
  simp only
  have hxo := h.sub x (by simp)
  have hxN := h.lt x hxo
  have hsn := h.snd
  rw [List.nodup_append] at hsn
  have hgo := h.go
  simp only [List.length_append, List.length_singleton] at hgo
  have hnd : (out ++ t).Nodup := by
    rw [List.nodup_append]
    exact ⟨h.nd, h2, fun a ha b hb e => (h3 b hb).1 (e ▸ ha)⟩
  have hlt : ∀ y, y ∈ out ++ t → y < N := fun y hy => by
    rcases List.mem_append.1 hy with e | e
    · exact h.lt y e
    · exact hf x hxN y (h3 y e).2
  have hln := nodup_len N hnd hlt
  simp only [List.length_append] at hln
  refine ⟨⟨hnd, hlt, fun y hy => ?_, fun m hm => List.mem_append_left _ (h.ini m hm), fun y hy => ?_, ?_, fun y hy hys z hz => ?_, by simp only [List.length_append]; omega⟩, by omega⟩
  · rcases List.mem_append.1 hy with e | e
    · exact h.way y e
    · obtain ⟨m, hm, hw⟩ := h.way x hxo
      exact ⟨m, hm, .step hw (h3 y e).2⟩
  · rcases List.mem_append.1 hy with e | e
    · exact List.mem_append_left _ (h.sub y (List.mem_append_left _ e))
    · exact List.mem_append_right _ e
  · rw [List.nodup_append]
    exact ⟨hsn.1, h2, fun a ha b hb e => (h3 b hb).1 (e ▸ h.sub a (List.mem_append_left _ ha))⟩
  · rcases List.mem_append.1 hy with e | e
    · by_cases hyx : y = x
      · subst hyx; exact h4 z hz
      · refine List.mem_append_left _ (h.cl y e (fun e' => ?_) z hz)
        rcases List.mem_append.1 e' with e2 | e2
        · exact hys (List.mem_append_left _ e2)
        · simp at e2; exact hyx e2
    · exact absurd (List.mem_append_right _ e) hys
theorem Spr.done {M out : List Nat} {k : Nat} (h : Spr f N M out [] k) (x : Nat) : x ∈ out ↔ ∃ m, m ∈ M ∧ Way f m x := by
  refine ⟨h.way x, ?_⟩
  rintro ⟨m, hm, hw⟩
  induction hw with
  | here => exact h.ini m hm
  | step _ hy ih => exact h.cl _ ih (by simp) _ hy
end
end G
end Go.Proofs.Ytnhdgndjpkdhdaa

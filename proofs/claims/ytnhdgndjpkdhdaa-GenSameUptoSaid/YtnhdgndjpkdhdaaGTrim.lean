/-
  Plain theory of layer 6: what is reached, in order; what is trimmed is the same type, and trimmed again it is itself.
-/
import Derived.Test.YtnhdgndjpkdhdaaGPlain
namespace Go.Proofs.Ytnhdgndjpkdhdaa
namespace G

section
variable {f : Nat → List Nat} {N : Nat}
theorem visit_succ (n a : Nat) (out : List Nat) : visit f (n + 1) a out = if a ∈ out then out else (f a).foldl (fun o x => visit f n x o) (out ++ [a]) := rfl

/-- With enough fuel its amount changes nothing. -/
theorem visit_more (hf : ∀ a, a < N → ∀ y, y ∈ f a → y < N) : ∀ (n a : Nat) (out : List Nat), a < N → out.Nodup → (∀ x, x ∈ out → x < N) → N + 1 ≤ n + out.length → visit f (n + 1) a out = visit f n a out
  | 0, a, out, _, hn, hl, hN => by have := nodup_len N hn hl; omega
  | n + 1, a, out, ha, hn, hl, hN => by
    rw [visit_succ (n + 1), visit_succ n]
    by_cases h : a ∈ out
    · rw [if_pos h, if_pos h]
    · rw [if_neg h, if_neg h]
      have hn' : (out ++ [a]).Nodup := by
        rw [List.nodup_append]
        refine ⟨hn, by simp, fun x hx y hy e => ?_⟩
        simp at hy
        subst hy
        exact h (e ▸ hx)
      have hl' : ∀ x, x ∈ out ++ [a] → x < N := fun x hx => by
        rcases List.mem_append.1 hx with e | e
        · exact hl x e
        · simp at e; subst e; exact ha
      have key : ∀ (l : List Nat) (o : List Nat), (∀ x, x ∈ l → x < N) → o.Nodup → (∀ x, x ∈ o → x < N) → N + 1 ≤ n + o.length → l.foldl (fun o x => visit f (n + 1) x o) o = l.foldl (fun o x => visit f n x o) o := by
        intro l
        induction l with
        | nil => intros; rfl
        | cons b r ih =>
          intro o hb ho hlo hNo
          have hbN := hb b (List.mem_cons_self ..)
          have e1 := visit_more hf n b o hbN ho hlo hNo
          obtain ⟨w1, _⟩ := went_visit hf n b o hbN ho hlo hNo
          have hlen : o.length ≤ (visit f n b o).length := by
            obtain ⟨t, ht⟩ := w1.pre
            rw [ht, List.length_append]; omega
          simp only [List.foldl_cons]
          rw [e1]
          exact ih _ (fun x hx => hb x (List.mem_cons_of_mem _ hx)) w1.nodup w1.lt (by omega)
      exact key _ _ (hf a ha) hn' hl' (by simp; omega)
theorem visit_fuel (hf : ∀ a, a < N → ∀ y, y ∈ f a → y < N) (k n a : Nat) (out : List Nat) (ha : a < N) (hn : out.Nodup) (hl : ∀ x, x ∈ out → x < N) (hN : N + 1 ≤ n + out.length) : visit f (n + k) a out = visit f n a out := by
  induction k with
  | zero => rfl
  | succ k ih => rw [← Nat.add_assoc, visit_more hf (n + k) a out ha hn hl (by omega), ih]

/-- Other names for nodes: the same order. -/
theorem visit_map {g : Nat → List Nat} (P : Nat → Prop) (m : Nat → Nat) (hm : ∀ a b, P a → P b → m a = m b → a = b) (hP : ∀ a, P a → ∀ y, y ∈ f a → P y) (hg : ∀ a, P a → g (m a) = (f a).map m) :
    ∀ (n a : Nat) (out : List Nat), P a → (∀ x, x ∈ out → P x) → visit g n (m a) (out.map m) = (visit f n a out).map m ∧ ∀ x, x ∈ visit f n a out → P x
  | 0, _, _, _, hl => ⟨rfl, hl⟩
  | n + 1, a, out, ha, hl => by
    rw [visit_succ, visit_succ]
    have hmem : m a ∈ out.map m ↔ a ∈ out := by
      constructor
      · intro h
        obtain ⟨x, hx, e⟩ := List.mem_map.1 h
        exact hm x a (hl x hx) ha e ▸ hx
      · intro h; exact List.mem_map.2 ⟨a, h, rfl⟩
    by_cases h : a ∈ out
    · rw [if_pos h, if_pos (hmem.2 h)]; exact ⟨rfl, hl⟩
    · rw [if_neg h, if_neg (fun e => h (hmem.1 e)), hg a ha]
      have key : ∀ (l : List Nat) (o : List Nat), (∀ x, x ∈ l → P x) → (∀ x, x ∈ o → P x) → (l.map m).foldl (fun o x => visit g n x o) (o.map m) = (l.foldl (fun o x => visit f n x o) o).map m ∧ ∀ x, x ∈ l.foldl (fun o x => visit f n x o) o → P x := by
        intro l
        induction l with
        | nil => intro o _ ho; exact ⟨rfl, ho⟩
        | cons b r ih =>
          intro o hb ho
          obtain ⟨e1, h1⟩ := visit_map P m hm hP hg n b o (hb b (List.mem_cons_self ..)) ho
          simp only [List.map_cons, List.foldl_cons]
          rw [e1]
          exact ih _ (fun x hx => hb x (List.mem_cons_of_mem _ hx)) h1
      have := key (f a) (out ++ [a]) (hP a ha) (fun x hx => by
        rcases List.mem_append.1 hx with e | e
        · exact hl x e
        · simp at e; subst e; exact ha)
      rw [List.map_append] at this
      exact this
end

/-- A graph: nodes in a row, and which one is the type. -/
structure Gr where
  nodes : List Nd
  root : Nat
def Gr.f (g : Gr) (a : Nat) : Nd := g.nodes.getD a ⟨0, ⟨#[]⟩, [], [], false⟩
structure Gr.Fit (g : Gr) : Prop where
  root : g.root < g.nodes.length
  args : ∀ a, a < g.nodes.length → ∀ y, y ∈ (g.f a).args → y < g.nodes.length
def Gr.reach (g : Gr) : List Nat := visit (fun a => (g.f a).args) (g.nodes.length + 1) g.root []
def Gr.cut (g : Gr) (R : List Nat) (a : Nat) : Nd := { g.f a with args := (g.f a).args.map (fun x => R.idxOf x) }
def Gr.trim (g : Gr) : Gr := ⟨g.reach.map (g.cut g.reach), 0⟩

section
variable {g : Gr}
theorem Gr.Fit.reach_went (h : g.Fit) : Went (fun a => (g.f a).args) g.nodes.length [] g.reach ∧ g.root ∈ g.reach :=
  went_visit h.args (g.nodes.length + 1) g.root [] h.root (by simp) (fun x hx => by cases hx) (by simp)
theorem Gr.Fit.reach_root (h : g.Fit) : ∃ t, g.reach = g.root :: t := by
  unfold Gr.reach
  rw [visit_succ, if_neg (by simp)]
  obtain ⟨h1, _⟩ := went_fold (N := g.nodes.length) g.nodes.length (went_visit h.args g.nodes.length) (g.f g.root).args ([] ++ [g.root]) (h.args g.root h.root) (by simp) (fun x hx => by simp at hx; subst hx; exact h.root) (by simp)
  obtain ⟨t, ht⟩ := h1.pre
  exact ⟨t, by rw [ht]; simp⟩
theorem Gr.Fit.reach_closed (h : g.Fit) {a y : Nat} (ha : a ∈ g.reach) (hy : y ∈ (g.f a).args) : y ∈ g.reach := h.reach_went.1.closed a ha (by simp) y hy
theorem Gr.trim_f (i : Nat) (hi : i < g.reach.length) : g.trim.f i = g.cut g.reach g.reach[i] := by
  unfold Gr.f Gr.trim
  simp [List.getD_eq_getElem?_getD, hi]
theorem Gr.trim_len : g.trim.nodes.length = g.reach.length := by simp [Gr.trim]
theorem idx_get {R : List Nat} {a : Nat} (h : a ∈ R) : ∃ hi : R.idxOf a < R.length, R[R.idxOf a] = a :=
  ⟨List.idxOf_lt_length_of_mem h, by simp⟩

theorem Gr.trim_at {a : Nat} (ha : a ∈ g.reach) : g.trim.f (g.reach.idxOf a) = g.cut g.reach a := by
  obtain ⟨hi, e⟩ := idx_get ha
  rw [Gr.trim_f _ hi, e]
theorem Gr.Fit.trim_fit (h : g.Fit) : g.trim.Fit := by
  obtain ⟨t, ht⟩ := h.reach_root
  refine ⟨by rw [Gr.trim_len, ht]; simp [Gr.trim], fun i hi y hy => ?_⟩
  rw [Gr.trim_len] at hi ⊢
  rw [Gr.trim_f i hi] at hy
  simp only [Gr.cut, List.mem_map] at hy
  obtain ⟨x, hx, rfl⟩ := hy
  exact List.idxOf_lt_length_of_mem (h.reach_closed (List.getElem_mem hi) hx)

/-- What is trimmed is the same type. -/
theorem Gr.Fit.trim_same (h : g.Fit) : Same g.f g.root g.trim.f g.trim.root := by
  obtain ⟨t, ht⟩ := h.reach_root
  refine Same.of_rel (fun a b => a ∈ g.reach ∧ b = g.reach.idxOf a) ⟨by rw [ht]; simp, by rw [ht]; simp [Gr.trim]⟩ ?_ ?_
  · rintro a b ⟨ha, rfl⟩
    rw [Gr.trim_at ha]
    refine ⟨⟨rfl, rfl, rfl, by simp [Gr.cut], rfl⟩, fun i x y h1 h2 => ?_⟩
    simp only [Gr.cut, List.getElem?_map, h1, Option.map_some, Option.some.injEq] at h2
    exact ⟨h.reach_closed ha (List.mem_of_getElem? h1), h2.symm⟩
  · rintro a b a' b' ⟨ha, rfl⟩ ⟨ha', rfl⟩ _
    constructor
    · rintro rfl; rfl
    · intro e
      obtain ⟨_, e1⟩ := idx_get ha
      obtain ⟨_, e2⟩ := idx_get ha'
      rw [← e1, ← e2]
      simp only [e]
theorem map_idx {R : List Nat} (h : R.Nodup) : R.map (fun x => R.idxOf x) = List.range R.length := by
  apply List.ext_getElem
  · simp
  · intro i h1 h2
    simp only [List.getElem_map, List.getElem_range]
    simp only [List.length_map] at h1
    exact h.idxOf_getElem i h1

theorem Gr.Fit.trim_reach (h : g.Fit) : g.trim.reach = List.range g.reach.length := by
  obtain ⟨hw, hr⟩ := h.reach_went
  have hle : g.reach.length ≤ g.nodes.length := nodup_len _ hw.nodup hw.lt
  have h0 : g.trim.root = g.reach.idxOf g.root := by obtain ⟨t, ht⟩ := h.reach_root; rw [ht]; simp [Gr.trim]
  have h1 := (visit_map (f := fun a => (g.f a).args) (g := fun a => (g.trim.f a).args) (fun a => a ∈ g.reach) (fun x => g.reach.idxOf x) (fun a b ha hb e => by
    obtain ⟨_, e1⟩ := idx_get ha
    obtain ⟨_, e2⟩ := idx_get hb
    rw [← e1, ← e2]
    simp only [e]) (fun a ha y hy => h.reach_closed ha hy) (fun a ha => by rw [Gr.trim_at ha]; rfl) (g.nodes.length + 1) g.root [] hr (by simp)).1
  have h2 := visit_fuel (f := fun a => (g.trim.f a).args) (N := g.trim.nodes.length) h.trim_fit.args (g.nodes.length - g.reach.length) (g.trim.nodes.length + 1) g.trim.root [] h.trim_fit.root (by simp) (fun x hx => by cases hx) (by simp)
  rw [Gr.trim_len] at h2
  rw [show g.reach.length + 1 + (g.nodes.length - g.reach.length) = g.nodes.length + 1 by omega] at h2
  unfold Gr.reach
  rw [Gr.trim_len, ← h2, h0]
  rw [List.map_nil] at h1
  rw [h1]
  show (g.reach.map fun x => g.reach.idxOf x) = _
  rw [map_idx hw.nodup]
  rfl
theorem idxOf_range {n i : Nat} (h : i < n) : (List.range n).idxOf i = i := by
  have := (List.nodup_range (n := n)).idxOf_getElem i (by simpa using h)
  simpa using this

/-- What is trimmed, trimmed, is itself. -/
theorem Gr.Fit.trim_trim (h : g.Fit) : g.trim.trim = g.trim := by
  have hr := h.trim_reach
  have hn : g.trim.nodes.length = g.reach.length := Gr.trim_len
  show Gr.mk (g.trim.reach.map (g.trim.cut g.trim.reach)) 0 = g.trim
  have : g.trim.reach.map (g.trim.cut g.trim.reach) = g.trim.nodes := by
    rw [hr]
    apply List.ext_getElem
    · simp [hn]
    · intro i h1 h2
      simp only [List.getElem_map, List.getElem_range]
      have hi : i < g.trim.nodes.length := h2
      have e1 : g.trim.f i = g.trim.nodes[i] := by unfold Gr.f; simp [List.getD_eq_getElem?_getD, hi]
      unfold Gr.cut
      rw [e1]
      have hargs : (g.trim.nodes[i].args).map (fun x => (List.range g.reach.length).idxOf x) = g.trim.nodes[i].args := by
        conv => rhs; rw [← List.map_id g.trim.nodes[i].args]
        apply List.map_congr_left
        intro x hx
        have : x < g.trim.nodes.length := h.trim_fit.args i hi x (by rw [e1]; exact hx)
        rw [idxOf_range (by omega)]
        rfl
      rw [hargs]
  rw [this]
  rfl
end

end G
end Go.Proofs.Ytnhdgndjpkdhdaa

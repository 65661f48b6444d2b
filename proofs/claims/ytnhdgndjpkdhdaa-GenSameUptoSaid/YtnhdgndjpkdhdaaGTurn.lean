/-
  Plain theory of layer 6: nodes in another order are the same type; a closed node that stands twice is as one; two variables aren't one.
-/
import Derived.Test.YtnhdgndjpkdhdaaGTrim
namespace Go.Proofs.Ytnhdgndjpkdhdaa
namespace G

theorem rot_eq {n a b : Nat} (ha : a < n) : (a + b) % n = if a + b % n < n then a + b % n else a + b % n - n := by
  have hb : b % n < n := Nat.mod_lt _ (by omega)
  rw [← Nat.add_mod_mod]
  by_cases h : a + b % n < n
  · rw [if_pos h, Nat.mod_eq_of_lt h]
  · rw [if_neg h, Nat.mod_eq_sub_mod (by omega), Nat.mod_eq_of_lt (by omega)]
theorem rot_lt {n a b : Nat} (ha : a < n) : (a + b) % n < n := Nat.mod_lt _ (by omega)
theorem rot_inj {n a a' b : Nat} (ha : a < n) (ha' : a' < n) (h : (a + b) % n = (a' + b) % n) : a = a' := by
  rw [rot_eq ha, rot_eq ha'] at h
  have hb : b % n < n := Nat.mod_lt _ (by omega)
  split at h <;> split at h <;> omega
/-- Where the node that is turned to j stood. -/
def unrot (n b j : Nat) : Nat := if b % n ≤ j then j - b % n else j + n - b % n
theorem unrot_lt {n b j : Nat} (hj : j < n) : unrot n b j < n := by
  have hb : b % n < n := Nat.mod_lt _ (by omega)
  unfold unrot
  split <;> omega
theorem rot_unrot {n b j : Nat} (hj : j < n) : (unrot n b j + b) % n = j := by
  rw [rot_eq (unrot_lt hj)]
  have hb : b % n < n := Nat.mod_lt _ (by omega)
  unfold unrot
  split <;> split <;> omega
theorem unrot_rot {n a b : Nat} (ha : a < n) : unrot n b ((a + b) % n) = a := rot_inj (unrot_lt (rot_lt ha)) ha (rot_unrot (rot_lt ha))

def turnNd (n b : Nat) (x : Nd) : Nd := { x with args := x.args.map fun a => (a + b) % n }
def Gr.turn (g : Gr) (b : Nat) : Gr := ⟨(List.range g.nodes.length).map fun j => turnNd g.nodes.length b (g.f (unrot g.nodes.length b j)), (g.root + b) % g.nodes.length⟩
theorem Gr.turn_len (g : Gr) (b : Nat) : (g.turn b).nodes.length = g.nodes.length := by simp [Gr.turn]
theorem Gr.turn_f (g : Gr) (b : Nat) {a : Nat} (ha : a < g.nodes.length) : (g.turn b).f ((a + b) % g.nodes.length) = turnNd g.nodes.length b (g.f a) := by
  have h := rot_lt (b := b) ha
  show List.getD ((List.range g.nodes.length).map _) _ _ = _
  rw [List.getD_eq_getElem?_getD, List.getElem?_map, List.getElem?_range h]
  simp [unrot_rot ha]
theorem Gr.Fit.turn_same {g : Gr} (h : g.Fit) (b : Nat) : Same g.f g.root (g.turn b).f (g.turn b).root := by
  refine Same.of_rel (fun a c => a < g.nodes.length ∧ c = (a + b) % g.nodes.length) ⟨h.root, rfl⟩ ?_ ?_
  · rintro a c ⟨ha, rfl⟩
    rw [g.turn_f b ha]
    refine ⟨⟨rfl, rfl, rfl, by simp [turnNd], rfl⟩, fun i x y h1 h2 => ?_⟩
    simp only [turnNd, List.getElem?_map, h1, Option.map_some, Option.some.injEq] at h2
    exact ⟨h.args a ha x (List.mem_of_getElem? h1), h2.symm⟩
  · rintro a c a' c' ⟨ha, rfl⟩ ⟨ha', rfl⟩ _
    exact ⟨fun e => by rw [e], fun e => rot_inj ha ha' e⟩

/-- Whoever led to k first, leads to n. -/
def redir (k n : Nat) : List Nat → List Nat
  | [] => []
  | a :: r => (if a = k then n else a) :: r
theorem redir_len (k n : Nat) (l : List Nat) : (redir k n l).length = l.length := by cases l <;> simp [redir]
theorem redir_get {k n : Nat} {l : List Nat} {i x y : Nat} (h1 : l[i]? = some x) (h2 : (redir k n l)[i]? = some y) : y = x ∨ y = n ∧ x = k := by
  cases l with
  | nil => simp at h1
  | cons a r =>
    cases i with
    | zero =>
      simp only [redir, List.getElem?_cons_zero, Option.some.injEq] at h1 h2
      subst h1
      by_cases e : a = k
      · rw [if_pos e] at h2; exact .inr ⟨h2.symm, e⟩
      · rw [if_neg e] at h2; exact .inl h2.symm
    | succ i =>
      simp only [redir, List.getElem?_cons_succ] at h1 h2
      rw [h1] at h2
      injection h2 with h2
      exact .inl h2.symm
def twiceNd (k n : Nat) (x : Nd) : Nd := { x with args := redir k n x.args }
/-- A node that stands twice: the second one last; who led to it first leads to the second one. -/
def Gr.twice (g : Gr) (k : Nat) : Gr := ⟨(g.nodes ++ [g.f k]).map (twiceNd k g.nodes.length), g.root⟩
theorem Gr.twice_f (g : Gr) (k : Nat) {a : Nat} (ha : a < g.nodes.length) : (g.twice k).f a = twiceNd k g.nodes.length (g.f a) := by
  unfold Gr.f Gr.twice
  rw [List.getD_eq_getElem?_getD, List.getElem?_map, List.getElem?_append_left ha]
  simp [List.getD_eq_getElem?_getD, ha]
theorem Gr.twice_last (g : Gr) (k : Nat) : (g.twice k).f g.nodes.length = twiceNd k g.nodes.length (g.f k) := by
  unfold Gr.twice
  show List.getD _ _ _ = _
  rw [List.getD_eq_getElem?_getD, List.getElem?_map, List.getElem?_append_right (Nat.le_refl _)]
  simp

theorem Gr.Fit.twice_same {g : Gr} (h : g.Fit) (b k : Nat) (hc : ¬ ((g.turn b).f k).free) : Same g.f g.root ((g.turn b).twice k).f ((g.turn b).twice k).root := by
  have hl := g.turn_len b
  have hnf : ∀ a, a < g.nodes.length → (g.f a).free → (a + b) % g.nodes.length ≠ k := fun a ha hf e => hc (by rw [← e, g.turn_f b ha]; exact hf)
  have hf1 : ∀ a, a < g.nodes.length → ((g.turn b).twice k).f ((a + b) % g.nodes.length) = twiceNd k g.nodes.length (turnNd g.nodes.length b (g.f a)) := fun a ha => by
    rw [Gr.twice_f _ _ (by rw [hl]; exact rot_lt ha), g.turn_f b ha, hl]
  have hf2 : ∀ a, a < g.nodes.length → (a + b) % g.nodes.length = k → ((g.turn b).twice k).f g.nodes.length = twiceNd k g.nodes.length (turnNd g.nodes.length b (g.f a)) := fun a ha e => by
    have := Gr.twice_last (g.turn b) k
    rw [hl] at this
    rw [this, ← e, g.turn_f b ha]
  have step : ∀ a (d : Nd), a < g.nodes.length → d = twiceNd k g.nodes.length (turnNd g.nodes.length b (g.f a)) → (g.f a).alike d ∧ ∀ i x y : Nat, (g.f a).args[i]? = some x → d.args[i]? = some y → x < g.nodes.length ∧ (y = (x + b) % g.nodes.length ∨ y = g.nodes.length ∧ (x + b) % g.nodes.length = k) := by
    rintro a d ha rfl
    refine ⟨⟨rfl, rfl, rfl, by simp [twiceNd, turnNd, redir_len], rfl⟩, fun i x y h1 h2 => ⟨h.args a ha x (List.mem_of_getElem? h1), ?_⟩⟩
    have h3 : (turnNd g.nodes.length b (g.f a)).args[i]? = some ((x + b) % g.nodes.length) := by simp [turnNd, List.getElem?_map, h1]
    exact redir_get h3 h2
  refine Same.of_rel (fun a c => a < g.nodes.length ∧ (c = (a + b) % g.nodes.length ∨ c = g.nodes.length ∧ (a + b) % g.nodes.length = k)) ⟨h.root, .inl rfl⟩ ?_ ?_
  · rintro a c ⟨ha, rfl | ⟨rfl, e⟩⟩
    · exact step a _ ha (hf1 a ha)
    · exact step a _ ha (hf2 a ha e)
  · rintro a c a' c' ⟨ha, hc⟩ ⟨ha', hc'⟩ hfree
    have h1 : c = (a + b) % g.nodes.length := hc.resolve_right (fun e => hnf a ha hfree e.2)
    subst h1
    constructor
    · rintro rfl
      exact (hc'.resolve_right (fun e => hnf a ha hfree e.2)).symm
    · intro e
      rcases hc' with e' | ⟨e', _⟩
      · exact rot_inj ha ha' (e.trans e')
      · have := rot_lt (b := b) ha
        omega

/-- A pair of one variable, and a pair of two. -/
def varNd : Nd := ⟨1, ⟨#[]⟩, [], [], false⟩
def pairNd (a b : Nat) : Nd := ⟨2, ⟨#[42]⟩, [a, b], [], false⟩
def Gr.one (g : Gr) : Gr := ⟨g.nodes ++ [varNd, pairNd g.nodes.length g.nodes.length], g.nodes.length + 1⟩
def Gr.two (g : Gr) : Gr := ⟨g.nodes ++ [varNd, varNd, pairNd g.nodes.length (g.nodes.length + 1)], g.nodes.length + 2⟩
theorem app_f {n : Nat} (l r : List Nd) (a k : Nat) (x : Nd) (ha : a = l.length + k) (hx : r[k]? = some x) : (Gr.mk (l ++ r) n).f a = x := by
  subst ha
  show List.getD _ _ _ = _
  rw [List.getD_eq_getElem?_getD, List.getElem?_append_right (by omega)]
  simp [hx]
theorem Gr.one_0 (g : Gr) : g.one.f g.nodes.length = varNd := app_f _ _ _ 0 _ rfl rfl
theorem Gr.one_1 (g : Gr) : g.one.f (g.nodes.length + 1) = pairNd g.nodes.length g.nodes.length := app_f _ _ _ 1 _ rfl rfl
theorem Gr.two_0 (g : Gr) : g.two.f g.nodes.length = varNd := app_f _ _ _ 0 _ rfl rfl
theorem Gr.two_1 (g : Gr) : g.two.f (g.nodes.length + 1) = varNd := app_f _ _ _ 1 _ rfl rfl
theorem Gr.two_2 (g : Gr) : g.two.f (g.nodes.length + 2) = pairNd g.nodes.length (g.nodes.length + 1) := app_f _ _ _ 2 _ rfl rfl
theorem Gr.one_two (g : Gr) : ¬ Same g.one.f g.one.root g.two.f g.two.root := by
  intro h
  have p0 : Pr g.one.f g.two.f g.one.root g.two.root g.nodes.length g.nodes.length := .step (i := 0) .root (by show (g.one.f (g.nodes.length + 1)).args[0]? = _; rw [g.one_1]; rfl) (by show (g.two.f (g.nodes.length + 2)).args[0]? = _; rw [g.two_2]; rfl)
  have p1 : Pr g.one.f g.two.f g.one.root g.two.root g.nodes.length (g.nodes.length + 1) := .step (i := 1) .root (by show (g.one.f (g.nodes.length + 1)).args[1]? = _; rw [g.one_1]; rfl) (by show (g.two.f (g.nodes.length + 2)).args[1]? = _; rw [g.two_2]; rfl)
  have := (h.2 _ _ _ _ p0 p1 (by rw [g.one_0]; exact .inl rfl)).1 rfl
  omega
theorem visit_new {f : Nat → List Nat} (n a : Nat) (out l : List Nat) (h : a ∉ out) (hl : f a = l) : visit f (n + 1) a out = l.foldl (fun o x => visit f n x o) (out ++ [a]) := by
  rw [visit_succ, if_neg h, hl]
theorem Gr.one_reach (g : Gr) : g.one.reach = [g.nodes.length + 1, g.nodes.length] := by
  have hl : g.one.nodes.length + 1 = (g.nodes.length + 2) + 1 := by simp [Gr.one]
  unfold Gr.reach
  rw [hl]
  show visit _ (g.nodes.length + 1 + 1 + 1) (g.nodes.length + 1) [] = _
  rw [visit_new _ _ _ [g.nodes.length, g.nodes.length] (by simp) (by rw [g.one_1]; rfl)]
  simp only [List.foldl_cons, List.foldl_nil, List.nil_append]
  rw [visit_new _ g.nodes.length [g.nodes.length + 1] [] (by simp) (by rw [g.one_0]; rfl), List.foldl_nil, visit_succ, if_pos (by simp)]
  rfl
theorem Gr.two_reach (g : Gr) : g.two.reach = [g.nodes.length + 2, g.nodes.length, g.nodes.length + 1] := by
  have hl : g.two.nodes.length + 1 = (g.nodes.length + 3) + 1 := by simp [Gr.two]
  unfold Gr.reach
  rw [hl]
  show visit _ (g.nodes.length + 2 + 1 + 1) (g.nodes.length + 2) [] = _
  rw [visit_new _ _ _ [g.nodes.length, g.nodes.length + 1] (by simp) (by rw [g.two_2]; rfl)]
  simp only [List.foldl_cons, List.foldl_nil, List.nil_append]
  rw [visit_new _ g.nodes.length [g.nodes.length + 2] [] (by simp) (by rw [g.two_0]; rfl), List.foldl_nil, visit_new _ (g.nodes.length + 1) _ [] (by simp) (by rw [g.two_1]; rfl)]
  rfl

end G
end Go.Proofs.Ytnhdgndjpkdhdaa

/-
  Plain theory of layer 6, without any program: graphs as functions from numbers to nodes; when two are the same; what is reached, in order.
-/
import Init
namespace Go.Proofs.Ytnhdgndjpkdhdaa
namespace G

structure Nd where
  kind : Int
  name : ByteArray
  args : List Nat
  labels : List ByteArray
  op : Bool

def Nd.alike (a b : Nd) : Prop := a.kind = b.kind ∧ a.name = b.name ∧ a.op = b.op ∧ a.args.length = b.args.length ∧ a.labels = b.labels
def Nd.free (a : Nd) : Prop := a.kind = 1 ∨ a.kind = 3 ∧ a.op = true

theorem Nd.alike.refl (a : Nd) : a.alike a := ⟨rfl, rfl, rfl, rfl, rfl⟩
theorem Nd.alike.symm {a b : Nd} (h : a.alike b) : b.alike a := ⟨h.1.symm, h.2.1.symm, h.2.2.1.symm, h.2.2.2.1.symm, h.2.2.2.2.symm⟩
theorem Nd.alike.trans {a b c : Nd} (h : a.alike b) (k : b.alike c) : a.alike c := ⟨h.1.trans k.1, h.2.1.trans k.2.1, h.2.2.1.trans k.2.2.1, h.2.2.2.1.trans k.2.2.2.1, h.2.2.2.2.trans k.2.2.2.2⟩
theorem Nd.alike.free {a b : Nd} (h : a.alike b) : a.free ↔ b.free := by
  unfold Nd.free
  rw [h.1, h.2.2.1]

/-- The pairs that must be matched. -/
inductive Pr (f g : Nat → Nd) (r s : Nat) : Nat → Nat → Prop
  | root : Pr f g r s r s
  | step {a b i x y : Nat} : Pr f g r s a b → (f a).args[i]? = some x → (g b).args[i]? = some y → Pr f g r s x y

/-- Two graphs are the same type. -/
def Same (f : Nat → Nd) (r : Nat) (g : Nat → Nd) (s : Nat) : Prop :=
  (∀ a b, Pr f g r s a b → (f a).alike (g b)) ∧ ∀ a b a' b', Pr f g r s a b → Pr f g r s a' b' → (f a).free → (a = a' ↔ b = b')

section
variable {f g h : Nat → Nd} {r s t : Nat}
theorem Pr.symm {a b : Nat} (p : Pr f g r s a b) : Pr g f s r b a := by
  induction p with
  | root => exact .root
  | step _ h1 h2 ih => exact .step ih h2 h1
theorem Same.symm (p : Same f r g s) : Same g s f r := by
  refine ⟨fun a b q => (p.1 b a q.symm).symm, fun a b a' b' q q' hf => ?_⟩
  exact (p.2 b a b' a' q.symm q'.symm ((p.1 b a q.symm).free.2 hf)).symm
/-- Whoever has a relation that keeps to the rules has the same type. -/
theorem Same.of_rel (R : Nat → Nat → Prop) (hr : R r s) (hs : ∀ a b, R a b → (f a).alike (g b) ∧ ∀ i x y : Nat, (f a).args[i]? = some x → (g b).args[i]? = some y → R x y)
    (h1 : ∀ a b a' b', R a b → R a' b' → (f a).free → (a = a' ↔ b = b')) : Same f r g s := by
  have hR : ∀ a b, Pr f g r s a b → R a b := by
    intro a b p
    induction p with
    | root => exact hr
    | step _ h1 h2 ih => exact (hs _ _ ih).2 _ _ _ h1 h2
  exact ⟨fun a b p => (hs a b (hR a b p)).1, fun a b a' b' p p' hf => h1 a b a' b' (hR a b p) (hR a' b' p') hf⟩
theorem Same.refl (f : Nat → Nd) (r : Nat) : Same f r f r :=
  Same.of_rel (fun a b => a = b) rfl (fun a b e => by subst e; exact ⟨.refl _, fun i x y h1 h2 => by rw [h1] at h2; injection h2⟩) (fun a b a' b' e e' _ => by subst e; subst e'; exact Iff.rfl)
theorem Same.mid (p : Same f r g s) {a c : Nat} (q : Pr f h r t a c) : ∃ b, Pr f g r s a b ∧ Pr g h s t b c := by
  induction q with
  | root => exact ⟨s, .root, .root⟩
  | @step a c i x z _ h1 h2 ih =>
    obtain ⟨b, p1, p2⟩ := ih
    have hl := (p.1 _ _ p1).2.2.2.1
    have hi := (List.getElem?_eq_some_iff.1 h1).1
    have h3 : (g b).args[i]? = some ((g b).args[i]'(by omega)) := List.getElem?_eq_getElem (by omega)
    exact ⟨_, .step p1 h1 h3, .step p2 h3 h2⟩
theorem Same.trans (p : Same f r g s) (q : Same g s h t) : Same f r h t := by
  refine ⟨fun a c k => ?_, fun a c a' c' k k' hf => ?_⟩
  · obtain ⟨b, p1, p2⟩ := p.mid k
    exact (p.1 _ _ p1).trans (q.1 _ _ p2)
  · obtain ⟨b, p1, p2⟩ := p.mid k
    obtain ⟨b', p1', p2'⟩ := p.mid k'
    exact (p.2 _ _ _ _ p1 p1' hf).trans (q.2 _ _ _ _ p2 p2' ((p.1 _ _ p1).free.1 hf))
end

/-- The nodes that are reached behind those that were met, in order. -/
def visit (f : Nat → List Nat) : Nat → Nat → List Nat → List Nat
  | 0, _, out => out
  | n + 1, a, out => if a ∈ out then out else (f a).foldl (fun o x => visit f n x o) (out ++ [a])

/-- What a visit does to those that were met. -/
structure Went (f : Nat → List Nat) (N : Nat) (out o : List Nat) : Prop where
  pre : ∃ t, o = out ++ t
  nodup : o.Nodup
  lt : ∀ x, x ∈ o → x < N
  closed : ∀ x, x ∈ o → x ∉ out → ∀ y, y ∈ f x → y ∈ o

theorem Went.refl {f : Nat → List Nat} {N : Nat} {out : List Nat} (hn : out.Nodup) (hl : ∀ x, x ∈ out → x < N) : Went f N out out :=
  ⟨⟨[], by simp⟩, hn, hl, fun x h1 h2 => absurd h1 h2⟩
theorem Went.mem {f : Nat → List Nat} {N : Nat} {out o : List Nat} (h : Went f N out o) {x : Nat} (hx : x ∈ out) : x ∈ o := by
  obtain ⟨t, rfl⟩ := h.pre
  exact List.mem_append_left _ hx
theorem Went.trans {f : Nat → List Nat} {N : Nat} {a b c : List Nat} (h : Went f N a b) (k : Went f N b c) : Went f N a c := by
  refine ⟨?_, k.nodup, k.lt, fun x h1 h2 y hy => ?_⟩
  · obtain ⟨t, rfl⟩ := h.pre
    obtain ⟨u, rfl⟩ := k.pre
    exact ⟨t ++ u, by simp⟩
  · by_cases hb : x ∈ b
    · exact k.mem (h.closed x hb h2 y hy)
    · exact k.closed x h1 hb y hy

theorem nodup_len : ∀ (N : Nat) {l : List Nat}, l.Nodup → (∀ x, x ∈ l → x < N) → l.length ≤ N
  | 0, l, _, hl => by
    cases l with
    | nil => simp
    | cons a r => exact absurd (hl a (List.mem_cons_self ..)) (by omega)
  | N + 1, l, hn, hl => by
    by_cases h : N ∈ l
    · have h1 := nodup_len N (hn.erase N) (fun x hx => by
        have h2 := (hn.mem_erase_iff).1 hx
        have := hl x h2.2
        have := h2.1
        omega)
      have h2 := List.length_erase_of_mem h
      omega
    · have := nodup_len N hn (fun x hx => by
        have := hl x hx
        have : x ≠ N := fun e => h (e ▸ hx)
        omega)
      omega

section
variable {f : Nat → List Nat} {N : Nat}
theorem went_fold (n : Nat) (hv : ∀ a out, a < N → out.Nodup → (∀ x, x ∈ out → x < N) → N + 1 ≤ n + out.length → Went f N out (visit f n a out) ∧ a ∈ visit f n a out) :
    ∀ (l : List Nat) (out : List Nat), (∀ x, x ∈ l → x < N) → out.Nodup → (∀ x, x ∈ out → x < N) → N + 1 ≤ n + out.length →
      Went f N out (l.foldl (fun o x => visit f n x o) out) ∧ ∀ x, x ∈ l → x ∈ l.foldl (fun o x => visit f n x o) out
  | [], out, _, hn, hl, _ => ⟨.refl hn hl, fun x h => by cases h⟩
  | a :: r, out, ha, hn, hl, hN => by
    obtain ⟨h1, h2⟩ := hv a out (ha a (List.mem_cons_self ..)) hn hl hN
    have hlen : out.length ≤ (visit f n a out).length := by
      obtain ⟨t, ht⟩ := h1.pre
      rw [ht, List.length_append]; omega
    obtain ⟨h3, h4⟩ := went_fold n hv r (visit f n a out) (fun x hx => ha x (List.mem_cons_of_mem _ hx)) h1.nodup h1.lt (by omega)
    refine ⟨h1.trans h3, fun x hx => ?_⟩
    rcases List.mem_cons.1 hx with e | e
    · subst e; exact h3.mem h2
    · exact h4 x e

/-- A visit reaches its node, and whatever the new ones lead to. -/
theorem went_visit (hf : ∀ a, a < N → ∀ y, y ∈ f a → y < N) : ∀ (n a : Nat) (out : List Nat), a < N → out.Nodup → (∀ x, x ∈ out → x < N) → N + 1 ≤ n + out.length → Went f N out (visit f n a out) ∧ a ∈ visit f n a out
  | 0, a, out, _, hn, hl, hN => by have := nodup_len N hn hl; omega
  | n + 1, a, out, ha, hn, hl, hN => by
    unfold visit
    by_cases h : a ∈ out
    · rw [if_pos h]; exact ⟨.refl hn hl, h⟩
    · rw [if_neg h]
      have hn' : (out ++ [a]).Nodup := by
        rw [List.nodup_append]
        refine ⟨hn, by simp, fun x hx y hy e => ?_⟩
        simp at hy
        subst hy
        exact h (e ▸ hx)
      have hl' : ∀ x, x ∈ out ++ [a] → x < N := fun x hx => by
        rcases List.mem_append.1 hx with e | e
        · exact hl x e
        · simp at e; subst e; exact ha
      obtain ⟨h1, h2⟩ := went_fold n (went_visit hf n) (f a) (out ++ [a]) (hf a ha) hn' hl' (by simp; omega)
      have hm : a ∈ (f a).foldl (fun o x => visit f n x o) (out ++ [a]) := h1.mem (by simp)
      refine ⟨⟨?_, h1.nodup, h1.lt, fun x hx hxo y hy => ?_⟩, hm⟩
      · obtain ⟨t, ht⟩ := h1.pre
        exact ⟨a :: t, by rw [ht]; simp⟩
      · by_cases hxa : x = a
        · subst hxa; exact h2 y hy
        · exact h1.closed x hx (fun e => by
            rcases List.mem_append.1 e with e | e
            · exact hxo e
            · simp at e; exact hxa e) y hy
end

end G
end Go.Proofs.Ytnhdgndjpkdhdaa

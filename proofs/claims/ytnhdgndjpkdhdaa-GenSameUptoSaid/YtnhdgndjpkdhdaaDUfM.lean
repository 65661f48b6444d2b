/-
  Plain theory of graph.same: numbers that belong together, by parents; how many belong to one.
-/
/-
  Plain theory of graph.same: nodes that are matched, by whatever way, are a class; what is left to be looked at.
-/
import Derived.Test.YtnhdgndjpkdhdaaGPlain
namespace Go.Proofs.Ytnhdgndjpkdhdaa
namespace G

def upd (p : Nat → Nat) (x y : Nat) (z : Nat) : Nat := if z = x then y else p z
theorem upd_same (p : Nat → Nat) (x y : Nat) : upd p x y x = y := by simp [upd]
theorem upd_other (p : Nat → Nat) {x y z : Nat} (h : z ≠ x) : upd p x y z = p z := by simp [upd, h]

/-- Each number leads, by p, to c of it, which stands for its class; r rises on the way, and is no more than B. -/
structure UF (U : Nat) (p c r : Nat → Nat) (B : Nat) : Prop where
  plt : ∀ x, x < U → p x < U
  clt : ∀ x, x < U → c x < U
  cp : ∀ x, x < U → c (p x) = c x
  pc : ∀ x, x < U → p (c x) = c x
  fix : ∀ x, x < U → p x = x → c x = x
  rb : ∀ x, x < U → r x ≤ B
  rise : ∀ x, x < U → p x ≠ x → r x < r (p x)

section
variable {U B : Nat} {p c r : Nat → Nat}
theorem UF.start (U : Nat) : UF U (fun x => x) (fun x => x) (fun _ => 0) 0 :=
  ⟨fun _ h => h, fun _ h => h, fun _ _ => rfl, fun _ _ => rfl, fun _ _ _ => rfl, fun _ _ => Nat.le_refl _, fun _ _ h => absurd rfl h⟩
theorem UF.cc (h : UF U p c r B) {x : Nat} (hx : x < U) : c (c x) = c x := h.fix _ (h.clt x hx) (h.pc x hx)
theorem UF.root (h : UF U p c r B) {x : Nat} (hx : x < U) (hc : c x = x) : p x = x := by have := h.pc x hx; rwa [hc] at this
/-- A way made shorter. -/
theorem UF.half (h : UF U p c r B) {x : Nat} (hx : x < U) : UF U (upd p x (p (p x))) c r B := by
  have hpx := h.plt x hx
  refine ⟨fun y hy => ?_, h.clt, fun y hy => ?_, fun y hy => ?_, fun y hy e => ?_, h.rb, fun y hy e => ?_⟩
  · by_cases e : y = x
    · subst e; rw [upd_same]; exact h.plt _ hpx
    · rw [upd_other p e]; exact h.plt y hy
  · by_cases e : y = x
    · subst e; rw [upd_same, h.cp _ hpx, h.cp _ hy]
    · rw [upd_other p e]; exact h.cp y hy
  · by_cases e : c y = x
    · have h1 := h.pc y hy
      rw [e] at h1 ⊢
      rw [upd_same, h1, h1]
    · rw [upd_other p e]; exact h.pc y hy
  · by_cases e' : y = x
    · subst e'
      rw [upd_same] at e
      by_cases e2 : p y = y
      · exact h.fix y hy e2
      · have h1 := h.rise y hy e2
        by_cases e3 : p (p y) = p y
        · exact absurd (e3.symm.trans e) e2
        · have h2 := h.rise (p y) hpx e3
          rw [e] at h2
          omega
    · rw [upd_other p e'] at e; exact h.fix y hy e
  · by_cases e' : y = x
    · subst e'
      rw [upd_same] at e ⊢
      have e2 : p y ≠ y := fun e2 => e (by rw [e2, e2])
      have h1 := h.rise y hy e2
      by_cases e3 : p (p y) = p y
      · rw [e3]; exact h1
      · have := h.rise (p y) hpx e3; omega
    · rw [upd_other p e'] at e ⊢; exact h.rise y hy e
/-- One step on the way. -/
theorem UF.step (h : UF U p c r B) {x : Nat} (hx : x < U) (hp : p x ≠ x) : p (p x) < U ∧ c (p (p x)) = c x ∧ B - r (p (p x)) < B - r x := by
  have hpx := h.plt x hx
  refine ⟨h.plt _ hpx, by rw [h.cp _ hpx, h.cp _ hx], ?_⟩
  have h1 := h.rise x hx hp
  have h2 := h.rb _ (h.plt _ hpx)
  have h3 : r (p x) ≤ r (p (p x)) := by
    by_cases e3 : p (p x) = p x
    · rw [e3]; exact Nat.le_refl _
    · exact Nat.le_of_lt (h.rise (p x) hpx e3)
  omega

/-- Two classes made one: y is put below x. -/
def joinC (c : Nat → Nat) (x y z : Nat) : Nat := if c z = y then x else c z
theorem UF.join (h : UF U p c r B) {x y : Nat} (hx : x < U) (hy : y < U) (cx : c x = x) (cy : c y = y) (hne : x ≠ y) :
    UF U (upd p y x) (joinC c x y) (fun z => r z + if c z = x then B + 1 else 0) (B + (B + 1)) := by
  refine ⟨fun z hz => ?_, fun z hz => ?_, fun z hz => ?_, fun z hz => ?_, fun z hz e => ?_, fun z hz => ?_, fun z hz e => ?_⟩
  · by_cases e : z = y
    · subst e; rw [upd_same]; exact hx
    · rw [upd_other p e]; exact h.plt z hz
  · unfold joinC; split
    · exact hx
    · exact h.clt z hz
  · unfold joinC
    by_cases e : z = y
    · subst e; rw [upd_same, cx, cy, if_pos rfl, if_neg hne]
    · rw [upd_other p e, h.cp z hz]
  · unfold joinC
    by_cases e : c z = y
    · rw [if_pos e, upd_other p hne]; exact h.root hx cx
    · rw [if_neg e, upd_other p e]; exact h.pc z hz
  · unfold joinC
    by_cases e' : z = y
    · subst e'; rw [upd_same] at e; exact absurd e hne
    · rw [upd_other p e'] at e
      have := h.fix z hz e
      rw [this, if_neg e']
  · have := h.rb z hz
    split <;> omega
  · by_cases e' : z = y
    · subst e'
      rw [upd_same] at e ⊢
      have := h.rb z hz
      rw [if_neg (by rw [cy]; exact fun e => hne e.symm), if_pos cx]
      omega
    · rw [upd_other p e'] at e ⊢
      rw [h.cp z hz]
      have := h.rise z hz e
      omega
end

/-- How many belong to a class. -/
def cnt (c : Nat → Nat) : Nat → Nat → Nat
  | 0, _ => 0
  | n + 1, x => (if c n = x then 1 else 0) + cnt c n x
section
variable {c : Nat → Nat}
theorem cnt_le (n x : Nat) : cnt c n x ≤ n := by
  induction n with
  | zero => exact Nat.le_refl _
  | succ n ih => unfold cnt; split <;> omega
theorem cnt_id (n x : Nat) : cnt (fun z => z) n x = if x < n then 1 else 0 := by
  induction n with
  | zero => rfl
  | succ n ih =>
    unfold cnt
    rw [ih]
    by_cases h : n = x
    · subst h; simp
    · rw [if_neg h]
      by_cases h2 : x < n
      · rw [if_pos h2, if_pos (by omega)]
      · rw [if_neg h2, if_neg (by omega)]
theorem cnt_pos {n x z : Nat} (hz : z < n) (h : c z = x) : 1 ≤ cnt c n x := by
  induction n with
  | zero => omega
  | succ n ih =>
    unfold cnt
    by_cases e : z = n
    · subst e; rw [if_pos h]; omega
    · have := ih (by omega); omega
theorem cnt_two {n x z y : Nat} (hz : z < n) (hy : y < n) (hne : z ≠ y) (h : c z = x) (h' : c y = x) : 2 ≤ cnt c n x := by
  induction n with
  | zero => omega
  | succ n ih =>
    unfold cnt
    by_cases e : z = n
    · subst e; rw [if_pos h]; have := cnt_pos (c := c) (n := z) (z := y) (by omega) h'; omega
    · by_cases e2 : y = n
      · subst e2; rw [if_pos h']; have := cnt_pos (c := c) (n := y) (z := z) (by omega) h; omega
      · have := ih (by omega) (by omega); omega
theorem cnt_other {n x z : Nat} (h : 2 ≤ cnt c n x) : ∃ y, y < n ∧ c y = x ∧ y ≠ z := by
  induction n with
  | zero => simp [cnt] at h
  | succ n ih =>
    unfold cnt at h
    by_cases e : c n = x
    · by_cases e2 : n = z
      · subst e2
        rw [if_pos e] at h
        have h1 : 1 ≤ cnt c n x := by omega
        clear ih h
        induction n with
        | zero => simp [cnt] at h1
        | succ m ih2 =>
          unfold cnt at h1
          by_cases e3 : c m = x
          · exact ⟨m, by omega, e3, by omega⟩
          · rw [if_neg e3] at h1
            have : ∀ k, 1 ≤ cnt c k x → ∃ y, y < k ∧ c y = x := by
              intro k
              induction k with
              | zero => intro h; simp [cnt] at h
              | succ k ih3 =>
                intro h
                unfold cnt at h
                by_cases e4 : c k = x
                · exact ⟨k, by omega, e4⟩
                · rw [if_neg e4] at h
                  obtain ⟨y, h1, h2⟩ := ih3 (by omega)
                  exact ⟨y, by omega, h2⟩
            obtain ⟨y, h2, h3⟩ := this m (by omega)
            exact ⟨y, by omega, h3, by omega⟩
      · exact ⟨n, by omega, e, e2⟩
    · rw [if_neg e] at h
      obtain ⟨y, h1, h2, h3⟩ := ih (by omega)
      exact ⟨y, by omega, h2, h3⟩
theorem cnt_join {n x y : Nat} (hne : x ≠ y) : cnt (joinC c x y) n x = cnt c n x + cnt c n y := by
  induction n with
  | zero => rfl
  | succ n ih =>
    unfold cnt
    rw [ih]
    unfold joinC
    by_cases e : c n = y
    · rw [if_pos e, if_pos rfl, if_pos e, if_neg (by rw [e]; exact fun e => hne e.symm)]
      omega
    · rw [if_neg e, if_neg e]; omega
theorem cnt_join' {n x y z : Nat} (h1 : z ≠ x) (h2 : z ≠ y) : cnt (joinC c x y) n z = cnt c n z := by
  induction n with
  | zero => rfl
  | succ n ih =>
    unfold cnt
    rw [ih]
    unfold joinC
    by_cases e : c n = y
    · rw [if_pos e, if_neg (fun e => h1 e.symm), if_neg (by rw [e]; exact fun e => h2 e.symm)]
    · rw [if_neg e]
end
end G
end Go.Proofs.Ytnhdgndjpkdhdaa
namespace Go.Proofs.Ytnhdgndjpkdhdaa
namespace G

/-- A node of either graph, by one number. -/
def un (f g : Nat → Nd) (N u : Nat) : Nd := if u < N then f u else g (u - N)
def loc (N u x : Nat) : Nat := if u < N then x else N + x
theorem un_l {f g : Nat → Nd} {N u : Nat} (h : u < N) : un f g N u = f u := by simp [un, h]
theorem un_r (f g : Nat → Nd) (N b : Nat) : un f g N (N + b) = g b := by
  unfold un
  rw [if_neg (by omega), Nat.add_sub_cancel_left]

theorem loc_l {N u : Nat} (h : u < N) (x : Nat) : loc N u x = x := by unfold loc; rw [if_pos h]
theorem loc_r (N b x : Nat) : loc N (N + b) x = N + x := by unfold loc; rw [if_neg (by omega)]

/-- Nodes that will be of one class, once all that is left has been matched. -/
inductive Cl (N : Nat) (c : Nat → Nat) (left : List (Nat × Nat)) : Nat → Nat → Prop
  | cls {u v : Nat} : c u = c v → Cl N c left u v
  | pr {a b : Nat} : (a, b) ∈ left → Cl N c left a (N + b)
  | symm {u v : Nat} : Cl N c left u v → Cl N c left v u
  | trans {u v w : Nat} : Cl N c left u v → Cl N c left v w → Cl N c left u w
theorem Cl.mono {N : Nat} {c c' : Nat → Nat} {left left' : List (Nat × Nat)} (hc : ∀ u v, c u = c v → Cl N c' left' u v) (hl : ∀ p, p ∈ left → Cl N c' left' p.1 (N + p.2)) {u v : Nat} (h : Cl N c left u v) : Cl N c' left' u v := by
  induction h with
  | cls h => exact hc _ _ h
  | pr h => exact hl _ h
  | symm _ ih => exact .symm ih
  | trans _ _ ih1 ih2 => exact .trans ih1 ih2
theorem Cl.done {N : Nat} {c : Nat → Nat} {u v : Nat} (h : Cl N c [] u v) : c u = c v := by
  induction h with
  | cls h => exact h
  | pr h => cases h
  | symm _ ih => exact ih.symm
  | trans _ _ ih1 ih2 => exact ih1.trans ih2

structure Mt (f g : Nat → Nd) (N M r s : Nat) (c : Nat → Nat) (L left : List (Nat × Nat)) : Prop where
  lk : ∀ p, p ∈ L → p.1 < N ∧ p.2 < M ∧ Pr f g r s p.1 p.2
  nd : L.Nodup
  rt : (r, s) ∈ L
  sub : ∀ p, p ∈ left → p ∈ L
  fin : ∀ p, p ∈ L → p ∈ left ∨ c p.1 = c (N + p.2)
  bis : ∀ u v, u < N + M → v < N + M → c u = c v → (un f g N u).alike (un f g N v) ∧ ∀ i x y : Nat, (un f g N u).args[i]? = some x → (un f g N v).args[i]? = some y → Cl N c left (loc N u x) (loc N v y)
  fr : ∀ u, u < N + M → (un f g N u).free → ∀ v, v < N + M → c v = c u → v ≠ u → (∃ a b, a < N ∧ b < M ∧ Pr f g r s a b ∧ (u = a ∧ v = N + b ∨ u = N + b ∧ v = a)) ∧ ∀ w, w < N + M → c w = c u → w = u ∨ w = v

section
variable {f g : Nat → Nd} {N M r s : Nat} {c : Nat → Nat} {L left : List (Nat × Nat)}
theorem Mt.start (hr : r < N) (hs : s < M) : Mt f g N M r s (fun x => x) [(r, s)] [(r, s)] := by
  refine ⟨fun p hp => ?_, by simp, by simp, fun p hp => hp, fun p hp => .inl hp, fun u v _ _ e => ?_, fun u _ _ v _ e hne => absurd e hne⟩
  · simp at hp; subst hp; exact ⟨hr, hs, .root⟩
  · have e' : u = v := e
    subst e'
    refine ⟨.refl _, fun i x y h1 h2 => ?_⟩
    rw [h1] at h2
    injection h2 with h2
    subst h2
    exact .cls rfl
/-- A pair that tells nothing new. -/
theorem Mt.skip {p : Nat × Nat} (h : Mt f g N M r s c L (left ++ [p])) (hp : c p.1 = c (N + p.2)) : Mt f g N M r s c L left := by
  refine ⟨h.lk, h.nd, h.rt, fun q hq => h.sub q (List.mem_append_left _ hq), fun q hq => ?_, fun u v hu hv e => ⟨(h.bis u v hu hv e).1, fun i x y h1 h2 => ?_⟩, h.fr⟩
  · rcases h.fin q hq with e | e
    · rcases List.mem_append.1 e with e | e
      · exact .inl e
      · simp at e; subst e; exact .inr hp
    · exact .inr e
  · refine Cl.mono (fun _ _ e => .cls e) (fun q hq => ?_) ((h.bis u v hu hv e).2 i x y h1 h2)
    rcases List.mem_append.1 hq with e | e
    · exact .pr e
    · simp at e; subst e; exact .cls hp

/-- One pair looked at. -/
def look1 (S : List (Nat × Nat) × List (Nat × Nat)) (q : Nat × Nat) : List (Nat × Nat) × List (Nat × Nat) := if q ∈ S.1 then S else (S.1 ++ [q], S.2 ++ [q])
def lookAll (S : List (Nat × Nat) × List (Nat × Nat)) (qs : List (Nat × Nat)) : List (Nat × Nat) × List (Nat × Nat) := qs.foldl look1 S
structure Looked (N M : Nat) (S S' : List (Nat × Nat) × List (Nat × Nat)) (qs : List (Nat × Nat)) : Prop where
  old : ∀ p, p ∈ S.1 → p ∈ S'.1
  oldl : ∀ p, p ∈ S.2 → p ∈ S'.2
  new : ∀ p, p ∈ qs → p ∈ S'.1
  from' : ∀ p, p ∈ S'.1 → p ∈ S.1 ∨ p ∈ qs ∧ p ∈ S'.2
  sub : (∀ p, p ∈ S.2 → p ∈ S.1) → ∀ p, p ∈ S'.2 → p ∈ S'.1
  nd : S.1.Nodup → S'.1.Nodup
  len : S'.2.length + S.1.length = S.2.length + S'.1.length
  lenle : S.1.length ≤ S'.1.length
theorem looked_all (N M : Nat) (qs : List (Nat × Nat)) : ∀ S : List (Nat × Nat) × List (Nat × Nat), Looked N M S (lookAll S qs) qs := by
  induction qs with
  | nil => intro S; exact ⟨fun _ h => h, fun _ h => h, (fun _ h => by cases h), fun _ h => .inl h, fun h => h, fun h => h, by simp [lookAll], Nat.le_refl _⟩
  | cons q qs ih =>
    intro S
    have h2 := ih (look1 S q)
    show Looked N M S (lookAll (look1 S q) qs) (q :: qs)
    unfold look1 at h2 ⊢
    by_cases hq : q ∈ S.1
    · rw [if_pos hq] at h2 ⊢
      exact ⟨h2.old, h2.oldl, fun p hp => by rcases List.mem_cons.1 hp with e | e; (· subst e; exact h2.old _ hq); (· exact h2.new p e), fun p hp => by rcases h2.from' p hp with e | e; (· exact .inl e); (· exact .inr ⟨List.mem_cons_of_mem _ e.1, e.2⟩), h2.sub, h2.nd, h2.len, h2.lenle⟩
    · rw [if_neg hq] at h2 ⊢
      refine ⟨fun p hp => h2.old p (List.mem_append_left _ hp), fun p hp => h2.oldl p (List.mem_append_left _ hp), fun p hp => ?_, fun p hp => ?_, fun hs p hp => h2.sub (fun p hp => ?_) p hp, fun hn => h2.nd ?_, ?_, ?_⟩
      · rcases List.mem_cons.1 hp with e | e
        · subst e; exact h2.old _ (by simp)
        · exact h2.new p e
      · rcases h2.from' p hp with e | e
        · rcases List.mem_append.1 e with e | e
          · exact .inl e
          · simp at e; subst e; exact .inr ⟨by simp, h2.oldl _ (by simp)⟩
        · exact .inr ⟨List.mem_cons_of_mem _ e.1, e.2⟩
      · rcases List.mem_append.1 hp with e | e
        · exact List.mem_append_left _ (hs p e)
        · exact List.mem_append_right _ e
      · show (S.1 ++ [q]).Nodup
        rw [List.nodup_append]
        refine ⟨hn, by simp, fun x hx y hy e => ?_⟩
        simp at hy
        subst hy
        exact hq (e ▸ hx)
      · have := h2.len
        simp only [List.length_append, List.length_singleton] at this ⊢
        omega
      · have := h2.lenle
        simp only [List.length_append, List.length_singleton] at this
        omega
/-- Two nodes made one class, and their Args looked at. -/
theorem Mt.join {a b : Nat} {c' : Nat → Nat} (hf : ∀ a, a < N → ∀ y, y ∈ (f a).args → y < N) (hg : ∀ b, b < M → ∀ y, y ∈ (g b).args → y < M) (h : Mt f g N M r s c L (left ++ [(a, b)])) (hal : (f a).alike (g b))
    (hfr : (f a).free → (∀ z, z < N + M → c z = c a → z = a) ∧ ∀ z, z < N + M → c z = c (N + b) → z = N + b)
    (hc1 : ∀ u v, c u = c v → c' u = c' v) (hc2 : c' a = c' (N + b)) (hc3 : ∀ u v, c' u = c' v → c u = c v ∨ (c u = c a ∨ c u = c (N + b)) ∧ (c v = c a ∨ c v = c (N + b))) :
    Mt f g N M r s c' (lookAll (L, left) (List.zip (f a).args (g b).args)).1 (lookAll (L, left) (List.zip (f a).args (g b).args)).2 := by
  have hK := looked_all N M (List.zip (f a).args (g b).args) (L, left)
  obtain ⟨S', hS'⟩ : ∃ S', S' = lookAll (L, left) (List.zip (f a).args (g b).args) := ⟨_, rfl⟩
  rw [← hS'] at hK ⊢
  clear hS'
  obtain ⟨haN, hbM, hPr⟩ := h.lk (a, b) (h.sub _ (by simp))
  have hqs : ∀ i x y : Nat, (f a).args[i]? = some x → (g b).args[i]? = some y → (x, y) ∈ List.zip (f a).args (g b).args := fun i x y h1 h2 => List.mem_of_getElem? (i := i) (by rw [List.getElem?_zip_eq_some]; exact ⟨h1, h2⟩)
  have hfin : ∀ p, p ∈ S'.1 → p ∈ S'.2 ∨ c' p.1 = c' (N + p.2) := by
    intro p hp
    rcases hK.from' p hp with e | e
    · rcases h.fin p e with e | e
      · rcases List.mem_append.1 e with e | e
        · exact .inl (hK.oldl p e)
        · simp at e; subst e; exact .inr hc2
      · exact .inr (hc1 _ _ e)
    · exact .inl e.2
  have hmono : ∀ u v, Cl N c (left ++ [(a, b)]) u v → Cl N c' S'.2 u v := fun u v hcl => Cl.mono (fun _ _ e => .cls (hc1 _ _ e)) (fun q hq => by
    rcases List.mem_append.1 hq with e | e
    · exact .pr (hK.oldl q e)
    · simp at e; subst e; exact .cls hc2) hcl
  have hT : ∀ u, u < N + M → (c u = c a ∨ c u = c (N + b)) → (un f g N u).alike (f a) ∧ ∀ i x y : Nat, (un f g N u).args[i]? = some x → (f a).args[i]? = some y → Cl N c' S'.2 (loc N u x) y := by
    intro u hu he
    rcases he with e | e
    · obtain ⟨h1, h2⟩ := h.bis u a hu (by omega) e
      rw [un_l haN] at h1 h2
      refine ⟨h1, fun i x y e1 e2 => ?_⟩
      have h3 := h2 i x y e1 e2
      rw [loc_l haN] at h3
      exact hmono _ _ h3
    · obtain ⟨h1, h2⟩ := h.bis u (N + b) hu (by omega) e
      rw [un_r] at h1 h2
      refine ⟨h1.trans hal.symm, fun i x y e1 e2 => ?_⟩
      have hi : i < (g b).args.length := by
        have := (List.getElem?_eq_some_iff.1 e2).1
        have := hal.2.2.2.1
        omega
      have e3 : (g b).args[i]? = some ((g b).args[i]) := List.getElem?_eq_getElem hi
      have h3 := h2 i x _ e1 e3
      rw [loc_r] at h3
      have h4 : Cl N c' S'.2 y (N + (g b).args[i]) := by
        rcases hfin _ (hK.new _ (hqs i y _ e2 e3)) with e | e
        · exact .pr e
        · exact .cls e
      exact .trans (hmono _ _ h3) (.symm h4)
  refine ⟨fun p hp => ?_, hK.nd h.nd, hK.old _ h.rt, hK.sub (fun p hp => h.sub p (List.mem_append_left _ hp)), hfin, fun u v hu hv e => ?_, fun u hu hfu v hv e hne => ?_⟩
  · rcases hK.from' p hp with e | e
    · exact h.lk p e
    · obtain ⟨i, hi⟩ := List.getElem?_of_mem e.1
      rw [List.getElem?_zip_eq_some] at hi
      exact ⟨hf a haN _ (List.mem_of_getElem? hi.1), hg b hbM _ (List.mem_of_getElem? hi.2), .step hPr hi.1 hi.2⟩
  · rcases hc3 u v e with e | ⟨e1, e2⟩
    · obtain ⟨h1, h2⟩ := h.bis u v hu hv e
      exact ⟨h1, fun i x y q1 q2 => hmono _ _ (h2 i x y q1 q2)⟩
    · obtain ⟨h1, h2⟩ := hT u hu e1
      obtain ⟨h3, h4⟩ := hT v hv e2
      refine ⟨h1.trans h3.symm, fun i x y q1 q2 => ?_⟩
      have hi : i < (f a).args.length := by
        have := (List.getElem?_eq_some_iff.1 q1).1
        have := h1.2.2.2.1
        omega
      have e3 : (f a).args[i]? = some ((f a).args[i]) := List.getElem?_eq_getElem hi
      exact .trans (h2 i x _ q1 e3) (.symm (h4 i y _ q2 e3))
  · have hone : (c u = c a ∨ c u = c (N + b)) → (∀ z, z < N + M → c z = c a → z = a) ∧ ∀ z, z < N + M → c z = c (N + b) → z = N + b := fun e => hfr ((hT u hu e).1.free.1 hfu)
    rcases hc3 v u e with e | ⟨e1, e2⟩
    · obtain ⟨h1, h2⟩ := h.fr u hu hfu v hv e hne
      refine ⟨h1, fun w hw ew => ?_⟩
      rcases hc3 w u ew with ew | ⟨w1, w2⟩
      · exact h2 w hw ew
      · obtain ⟨o1, o2⟩ := hone w2
        rcases w2 with w2 | w2
        · exact absurd ((o1 v hv (e.trans w2)).trans (o1 u hu w2).symm) hne
        · exact absurd ((o2 v hv (e.trans w2)).trans (o2 u hu w2).symm) hne
    · obtain ⟨o1, o2⟩ := hone e2
      have hin : ∀ w, w < N + M → (c w = c a ∨ c w = c (N + b)) → w = a ∨ w = N + b := fun w hw e => by
        rcases e with e | e
        · exact .inl (o1 w hw e)
        · exact .inr (o2 w hw e)
      have hu' := hin u hu e2
      have hv' := hin v hv e1
      refine ⟨⟨a, b, haN, hbM, hPr, by omega⟩, fun w hw ew => ?_⟩
      have hw' : w = a ∨ w = N + b := by
        rcases hc3 w u ew with e | ⟨w1, _⟩
        · exact hin w hw (by rw [e]; exact e2)
        · exact hin w hw w1
      omega
/-- Once nothing is left. -/
theorem Mt.same (hf : ∀ a, a < N → ∀ y, y ∈ (f a).args → y < N) (hg : ∀ b, b < M → ∀ y, y ∈ (g b).args → y < M) (h : Mt f g N M r s c L []) : Same f r g s := by
  refine Same.of_rel (fun a b => a < N ∧ b < M ∧ c a = c (N + b)) ?_ ?_ ?_
  · obtain ⟨h1, h2, _⟩ := h.lk _ h.rt
    exact ⟨h1, h2, (h.fin _ h.rt).resolve_left (by simp)⟩
  · rintro a b ⟨ha, hb, e⟩
    obtain ⟨h1, h2⟩ := h.bis a (N + b) (by omega) (by omega) e
    rw [un_l ha, un_r] at h1 h2
    refine ⟨h1, fun i x y q1 q2 => ⟨hf a ha x (List.mem_of_getElem? q1), hg b hb y (List.mem_of_getElem? q2), ?_⟩⟩
    have h3 := (h2 i x y q1 q2).done
    rwa [loc_l ha, loc_r] at h3
  · rintro a b a' b' ⟨ha, hb, e⟩ ⟨ha', hb', e'⟩ hfa
    obtain ⟨_, h1⟩ := h.fr a (by omega) (by rw [un_l ha]; exact hfa) (N + b) (by omega) e.symm (by omega)
    constructor
    · intro ea
      subst ea
      have := h1 (N + b') (by omega) e'.symm
      omega
    · intro eb
      subst eb
      have := h1 a' (by omega) (e'.trans e.symm)
      omega
theorem Mt.differ1 {a b : Nat} (h : Mt f g N M r s c L (left ++ [(a, b)])) (hal : ¬ (f a).alike (g b)) : ¬ Same f r g s := fun e => hal (e.1 a b (h.lk (a, b) (h.sub _ (by simp))).2.2)
theorem Mt.differ2 {a b z : Nat} (h : Mt f g N M r s c L (left ++ [(a, b)])) (hal : (f a).alike (g b)) (hfr : (f a).free) (hne : c a ≠ c (N + b)) (hz : z < N + M) (hc : c z = c a ∧ z ≠ a ∨ c z = c (N + b) ∧ z ≠ N + b) : ¬ Same f r g s := by
  obtain ⟨haN, hbM, hPr⟩ := h.lk (a, b) (h.sub _ (by simp))
  intro e
  rcases hc with ⟨hc, hza⟩ | ⟨hc, hza⟩
  · obtain ⟨⟨a', b', ha', hb', hPr', hab⟩, _⟩ := h.fr a (by omega) (by rw [un_l haN]; exact hfr) z hz hc hza
    rcases hab with ⟨rfl, rfl⟩ | ⟨h1, _⟩
    · have := (e.2 _ _ _ _ hPr hPr' hfr).1 rfl
      dsimp only at this
      subst this
      exact hne hc.symm
    · omega
  · obtain ⟨⟨a', b', ha', hb', hPr', hab⟩, _⟩ := h.fr (N + b) (by omega) (by rw [un_r]; exact hal.free.1 hfr) z hz hc hza
    rcases hab with ⟨h1, _⟩ | ⟨h1, rfl⟩
    · omega
    · have hb2 : b = b' := by omega
      subst hb2
      have := (e.2 _ _ _ _ hPr hPr' hfr).2 rfl
      dsimp only at this
      subst this
      exact hne hc
end
theorem joinC_1 {c : Nat → Nat} {x y u v : Nat} (h : c u = c v) : joinC c x y u = joinC c x y v := by unfold joinC; rw [h]
theorem joinC_2 {c : Nat → Nat} {x y u v : Nat} (hu : c u = x) (hv : c v = y) : joinC c x y u = joinC c x y v := by
  unfold joinC
  rw [hu, hv, if_pos rfl]
  by_cases e : x = y
  · rw [if_pos e]
  · rw [if_neg e]
theorem joinC_3 {c : Nat → Nat} {x y u v : Nat} (h : joinC c x y u = joinC c x y v) : c u = c v ∨ (c u = x ∨ c u = y) ∧ (c v = x ∨ c v = y) := by
  unfold joinC at h
  by_cases e1 : c u = y
  · by_cases e2 : c v = y
    · exact .inl (e1.trans e2.symm)
    · rw [if_pos e1, if_neg e2] at h
      exact .inr ⟨.inr e1, .inl h.symm⟩
  · by_cases e2 : c v = y
    · rw [if_neg e1, if_pos e2] at h
      exact .inr ⟨.inl h, .inr e2⟩
    · rw [if_neg e1, if_neg e2] at h
      exact .inl h
end G
end Go.Proofs.Ytnhdgndjpkdhdaa

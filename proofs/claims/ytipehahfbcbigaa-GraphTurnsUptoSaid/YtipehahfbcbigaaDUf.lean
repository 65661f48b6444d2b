/-
  Plain theory of graph.same: numbers that belong together, by parents; how many belong to one.
-/
import Derived.Test.YtipehahfbcbigaaGPlain
namespace Go.Proofs.Ytipehahfbcbigaa
namespace G

def upd (p : Nat → Nat) (x y : Nat) (z : Nat) : Nat := if z = x then y else p z
theorem upd_same (p : Nat → Nat) (x y : Nat) : upd p x y x = y := by simp [upd]
theorem upd_other (p : Nat → Nat) {x y z : Nat} (h : z ≠ x) : upd p x y z = p z := by simp [upd, h]

/-- Each number leads, by p, to c of it, which stands for its class; r rises on the way, and is no more than B. -/
structure UF (U : Nat) (p c r : Nat → Nat) (B : Nat) : Prop where
  plt : ∀ x, x < U → p x < U
  clt : ∀ x, x < U → c x < U
  cp : ∀ x, x < U → c (p x) = c x
  pc : ∀ x, x < U → p (c x) = c x
  fix : ∀ x, x < U → p x = x → c x = x
  rb : ∀ x, x < U → r x ≤ B
  rise : ∀ x, x < U → p x ≠ x → r x < r (p x)

section
variable {U B : Nat} {p c r : Nat → Nat}
theorem UF.start (U : Nat) : UF U (fun x => x) (fun x => x) (fun _ => 0) 0 :=
  ⟨fun _ h => h, fun _ h => h, fun _ _ => rfl, fun _ _ => rfl, fun _ _ _ => rfl, fun _ _ => Nat.le_refl _, fun _ _ h => absurd rfl h⟩
theorem UF.cc (h : UF U p c r B) {x : Nat} (hx : x < U) : c (c x) = c x := h.fix _ (h.clt x hx) (h.pc x hx)
theorem UF.root (h : UF U p c r B) {x : Nat} (hx : x < U) (hc : c x = x) : p x = x := by have := h.pc x hx; rwa [hc] at this
/-- A way made shorter. -/
theorem UF.half (h : UF U p c r B) {x : Nat} (hx : x < U) : UF U (upd p x (p (p x))) c r B := by
  have hpx := h.plt x hx
  refine ⟨fun y hy => ?_, h.clt, fun y hy => ?_, fun y hy => ?_, fun y hy e => ?_, h.rb, fun y hy e => ?_⟩
  · by_cases e : y = x
    · subst e; rw [upd_same]; exact h.plt _ hpx
    · rw [upd_other p e]; exact h.plt y hy
  · by_cases e : y = x
    · subst e; rw [upd_same, h.cp _ hpx, h.cp _ hy]
    · rw [upd_other p e]; exact h.cp y hy
  · by_cases e : c y = x
    · have h1 := h.pc y hy
      rw [e] at h1 ⊢
      rw [upd_same, h1, h1]
    · rw [upd_other p e]; exact h.pc y hy
  · by_cases e' : y = x
    · subst e'
      rw [upd_same] at e
      by_cases e2 : p y = y
      · exact h.fix y hy e2
      · have h1 := h.rise y hy e2
        by_cases e3 : p (p y) = p y
        · exact absurd (e3.symm.trans e) e2
        · have h2 := h.rise (p y) hpx e3
          rw [e] at h2
          omega
    · rw [upd_other p e'] at e; exact h.fix y hy e
  · by_cases e' : y = x
    · subst e'
      rw [upd_same] at e ⊢
      have e2 : p y ≠ y := fun e2 => e (by rw [e2, e2])
      have h1 := h.rise y hy e2
      by_cases e3 : p (p y) = p y
      · rw [e3]; exact h1
      · have := h.rise (p y) hpx e3; omega
    · rw [upd_other p e'] at e ⊢; exact h.rise y hy e
/-- One step on the way. -/
theorem UF.step (h : UF U p c r B) {x : Nat} (hx : x < U) (hp : p x ≠ x) : p (p x) < U ∧ c (p (p x)) = c x ∧ B - r (p (p x)) < B - r x := by
  have hpx := h.plt x hx
  refine ⟨h.plt _ hpx, by rw [h.cp _ hpx, h.cp _ hx], ?_⟩
  have h1 := h.rise x hx hp
  have h2 := h.rb _ (h.plt _ hpx)
  have h3 : r (p x) ≤ r (p (p x)) := by
    by_cases e3 : p (p x) = p x
    · rw [e3]; exact Nat.le_refl _
    · exact Nat.le_of_lt (h.rise (p x) hpx e3)
  omega

/-- Two classes made one: y is put below x. -/
def joinC (c : Nat → Nat) (x y z : Nat) : Nat := if c z = y then x else c z
theorem UF.join (h : UF U p c r B) {x y : Nat} (hx : x < U) (hy : y < U) (cx : c x = x) (cy : c y = y) (hne : x ≠ y) :
    UF U (upd p y x) (joinC c x y) (fun z => r z + if c z = x then B + 1 else 0) (B + (B + 1)) := by
  refine ⟨fun z hz => ?_, fun z hz => ?_, fun z hz => ?_, fun z hz => ?_, fun z hz e => ?_, fun z hz => ?_, fun z hz e => ?_⟩
  · by_cases e : z = y
    · subst e; rw [upd_same]; exact hx
    · rw [upd_other p e]; exact h.plt z hz
  · unfold joinC; split
    · exact hx
    · exact h.clt z hz
  · unfold joinC
    by_cases e : z = y
    · subst e; rw [upd_same, cx, cy, if_pos rfl, if_neg hne]
    · rw [upd_other p e, h.cp z hz]
  · unfold joinC
    by_cases e : c z = y
    · rw [if_pos e, upd_other p hne]; exact h.root hx cx
    · rw [if_neg e, upd_other p e]; exact h.pc z hz
  · unfold joinC
    by_cases e' : z = y
    · subst e'; rw [upd_same] at e; exact absurd e hne
    · rw [upd_other p e'] at e
      have := h.fix z hz e
      rw [this, if_neg e']
  · have := h.rb z hz
    split <;> omega
  · by_cases e' : z = y
    · subst e'
      rw [upd_same] at e ⊢
      have := h.rb z hz
      rw [if_neg (by rw [cy]; exact fun e => hne e.symm), if_pos cx]
      omega
    · rw [upd_other p e'] at e ⊢
      rw [h.cp z hz]
      have := h.rise z hz e
      omega
end

/-- How many belong to a class. -/
def cnt (c : Nat → Nat) : Nat → Nat → Nat
  | 0, _ => 0
  | n + 1, x => (if c n = x then 1 else 0) + cnt c n x
section
variable {c : Nat → Nat}
theorem cnt_le (n x : Nat) : cnt c n x ≤ n := by
  induction n with
  | zero => exact Nat.le_refl _
  | succ n ih => unfold cnt; split <;> omega
theorem cnt_id (n x : Nat) : cnt (fun z => z) n x = if x < n then 1 else 0 := by
  induction n with
  | zero => rfl
  | succ n ih =>
    unfold cnt
    rw [ih]
    by_cases h : n = x
    · subst h; simp
    · rw [if_neg h]
      by_cases h2 : x < n
      · rw [if_pos h2, if_pos (by omega)]
      · rw [if_neg h2, if_neg (by omega)]
theorem cnt_pos {n x z : Nat} (hz : z < n) (h : c z = x) : 1 ≤ cnt c n x := by
  induction n with
  | zero => omega
  | succ n ih =>
    unfold cnt
    by_cases e : z = n
    · subst e; rw [if_pos h]; omega
    · have := ih (by omega); omega
theorem cnt_two {n x z y : Nat} (hz : z < n) (hy : y < n) (hne : z ≠ y) (h : c z = x) (h' : c y = x) : 2 ≤ cnt c n x := by
  induction n with
  | zero => omega
  | succ n ih =>
    unfold cnt
    by_cases e : z = n
    · subst e; rw [if_pos h]; have := cnt_pos (c := c) (n := z) (z := y) (by omega) h'; omega
    · by_cases e2 : y = n
      · subst e2; rw [if_pos h']; have := cnt_pos (c := c) (n := y) (z := z) (by omega) h; omega
      · have := ih (by omega) (by omega); omega
theorem cnt_other {n x z : Nat} (h : 2 ≤ cnt c n x) : ∃ y, y < n ∧ c y = x ∧ y ≠ z := by
  induction n with
  | zero => simp [cnt] at h
  | succ n ih =>
    unfold cnt at h
    by_cases e : c n = x
    · by_cases e2 : n = z
      · subst e2
        rw [if_pos e] at h
        have h1 : 1 ≤ cnt c n x := by omega
        clear ih h
        induction n with
        | zero => simp [cnt] at h1
        | succ m ih2 =>
          unfold cnt at h1
          by_cases e3 : c m = x
          · exact ⟨m, by omega, e3, by omega⟩
          · rw [if_neg e3] at h1
            have : ∀ k, 1 ≤ cnt c k x → ∃ y, y < k ∧ c y = x := by
              intro k
              induction k with
              | zero => intro h; simp [cnt] at h
              | succ k ih3 =>
                intro h
                unfold cnt at h
                by_cases e4 : c k = x
                · exact ⟨k, by omega, e4⟩
                · rw [if_neg e4] at h
                  obtain ⟨y, h1, h2⟩ := ih3 (by omega)
                  exact ⟨y, by omega, h2⟩
            obtain ⟨y, h2, h3⟩ := this m (by omega)
            exact ⟨y, by omega, h3, by omega⟩
      · exact ⟨n, by omega, e, e2⟩
    · rw [if_neg e] at h
      obtain ⟨y, h1, h2, h3⟩ := ih (by omega)
      exact ⟨y, by omega, h2, h3⟩
theorem cnt_join {n x y : Nat} (hne : x ≠ y) : cnt (joinC c x y) n x = cnt c n x + cnt c n y := by
  induction n with
  | zero => rfl
  | succ n ih =>
    unfold cnt
    rw [ih]
    unfold joinC
    by_cases e : c n = y
    · rw [if_pos e, if_pos rfl, if_pos e, if_neg (by rw [e]; exact fun e => hne e.symm)]
      omega
    · rw [if_neg e, if_neg e]; omega
theorem cnt_join' {n x y z : Nat} (h1 : z ≠ x) (h2 : z ≠ y) : cnt (joinC c x y) n z = cnt c n z := by
  induction n with
  | zero => rfl
  | succ n ih =>
    unfold cnt
    rw [ih]
    unfold joinC
    by_cases e : c n = y
    · rw [if_pos e, if_neg (fun e => h1 e.symm), if_neg (by rw [e]; exact fun e => h2 e.symm)]
    · rw [if_neg e]
end
end G
end Go.Proofs.Ytipehahfbcbigaa

/-
  Plain theory of graph.reach: what is left in lists, the last one first, is the same as to visit.
-/
/-
  graph.takeFirst: lists in a row of the call's own, the last one's first number taken.
-/
/-
  graph.takeFirst, by what is left; graph.reach.
-/
import Derived.Test.YtnhdgndjpkdhdaaGTrim
import Derived.Test.YtnhdgndjpkdhdaaDCheck
import Derived.Test.YtnhdgndjpkdhdaaGCopy
import Derived.Deep.LoopGhost
namespace Go.Proofs.Ytnhdgndjpkdhdaa
namespace G

/-- What is reached, once the lists that are left have been gone through, the last one first. -/
def fin (f : Nat → List Nat) (n : Nat) (out : List Nat) (st : List (List Nat)) : List Nat := st.reverse.flatten.foldl (fun o x => visit f n x o) out
/-- A list that is left, unless it is empty. -/
def pushR {α : Type} (st : List (List α)) (l : List α) : List (List α) := if l.isEmpty then st else st ++ [l]
theorem pushR_flat {α : Type} (st : List (List α)) (l : List α) : (pushR st l).reverse.flatten = l ++ st.reverse.flatten := by
  unfold pushR
  cases l with
  | nil => rfl
  | cons a r => simp
theorem pushR_flat' {α : Type} (st : List (List α)) (l : List α) : (pushR st l).flatten.length = st.flatten.length + l.length := by
  unfold pushR
  cases l with
  | nil => rfl
  | cons a r => simp
theorem pushR_ne {α : Type} {st : List (List α)} {l : List α} (h : ∀ x, x ∈ st → x ≠ []) : ∀ x, x ∈ pushR st l → x ≠ [] := by
  intro x hx
  unfold pushR at hx
  cases l with
  | nil => exact h x hx
  | cons a r =>
    rcases List.mem_append.1 hx with e | e
    · exact h x e
    · simp at e; subst e; simp

section
variable {f : Nat → List Nat} {N : Nat}
theorem fin_nil (n : Nat) (out : List Nat) : fin f n out [] = out := rfl
theorem fin_seen {n x : Nat} {out l : List Nat} {st : List (List Nat)} (h : x ∈ out) : fin f (n + 1) out (st ++ [x :: l]) = fin f (n + 1) out (pushR st l) := by
  unfold fin
  rw [pushR_flat]
  simp only [List.reverse_append, List.reverse_cons, List.reverse_nil, List.nil_append, List.flatten_cons, List.cons_append, List.foldl_cons]
  rw [visit_succ, if_pos h]
theorem fin_new (hf : ∀ a, a < N → ∀ y, y ∈ f a → y < N) {x : Nat} {out l : List Nat} {st : List (List Nat)} (hx : x < N) (h : x ∉ out) (hn : out.Nodup) (hl : ∀ y, y ∈ out → y < N) :
    fin f (N + 1) out (st ++ [x :: l]) = fin f (N + 1) (out ++ [x]) (pushR (pushR st l) (f x)) := by
  have h1 := visit_more hf (N + 1) x out hx hn hl (by omega)
  unfold fin
  rw [pushR_flat, pushR_flat, List.foldl_append]
  simp only [List.reverse_append, List.reverse_cons, List.reverse_nil, List.nil_append, List.flatten_cons, List.cons_append, List.foldl_cons]
  rw [← h1, visit_succ, if_neg h]

/-- How many numbers the nodes that were not met lead to. -/
def pend (f : Nat → List Nat) : Nat → List Nat → Nat
  | 0, _ => 0
  | n + 1, out => (if n ∈ out then 0 else (f n).length) + pend f n out
theorem pend_other {n x : Nat} {out : List Nat} (h : n ≤ x) : pend f n (out ++ [x]) = pend f n out := by
  induction n with
  | zero => rfl
  | succ n ih =>
    unfold pend
    rw [ih (by omega)]
    have : n ∈ out ++ [x] ↔ n ∈ out := by
      rw [List.mem_append, List.mem_singleton]
      exact ⟨fun e => e.resolve_right (by omega), .inl⟩
    simp only [this]
theorem pend_step {n x : Nat} {out : List Nat} (hx : x < n) (h : x ∉ out) : pend f n out = (f x).length + pend f n (out ++ [x]) := by
  induction n with
  | zero => omega
  | succ n ih =>
    unfold pend
    by_cases e : x = n
    · subst e
      rw [if_neg h, if_pos (by simp), pend_other (Nat.le_refl _)]
      omega
    · have : n ∈ out ++ [x] ↔ n ∈ out := by
        rw [List.mem_append, List.mem_singleton]
        exact ⟨fun e' => e'.resolve_right (fun e2 => e e2.symm), .inl⟩
      simp only [this]
      rw [ih (by omega)]
      omega
/-- How many steps are left at most. -/
def togo (f : Nat → List Nat) (N : Nat) (out : List Nat) (st : List (List Nat)) : Nat := pend f N out + st.flatten.length
theorem togo_seen {x : Nat} {out l : List Nat} {st : List (List Nat)} : togo f N out (pushR st l) + 1 = togo f N out (st ++ [x :: l]) := by
  unfold togo
  rw [pushR_flat']
  simp
  omega
theorem togo_new {x : Nat} {out l : List Nat} {st : List (List Nat)} (hx : x < N) (h : x ∉ out) : togo f N (out ++ [x]) (pushR (pushR st l) (f x)) + 1 = togo f N out (st ++ [x :: l]) := by
  unfold togo
  rw [pushR_flat', pushR_flat', pend_step hx h]
  simp
  omega
end

theorem pushR_len {α : Type} (st : List (List α)) (l : List α) : (pushR st l).length ≤ st.length + 1 := by
  unfold pushR
  split <;> simp
theorem pushR_all {α : Type} {P : α → Prop} {st : List (List α)} {l : List α} (h : ∀ x, x ∈ st → ∀ y, y ∈ x → P y) (hl : ∀ y, y ∈ l → P y) : ∀ x, x ∈ pushR st l → ∀ y, y ∈ x → P y := by
  intro x hx
  unfold pushR at hx
  split at hx
  · exact h x hx
  · rcases List.mem_append.1 hx with e | e
    · exact h x e
    · simp at e; subst e; exact hl
end G
end Go.Proofs.Ytnhdgndjpkdhdaa
namespace Go.Proofs.Ytnhdgndjpkdhdaa
open Go.RowKit

def srtL : Srt (List Int) where
  V := fun w S l v => l ≠ [] ∧ ∃ A c, v = .slice A l.length c ∧ l.length ≤ c ∧ c ≤ maxLen ∧ IntsO w S l A
  size := 1
  pos := by decide
  keep := fun _ _ _ _ hS _ _ ⟨h0, A, c, h1, h2, h3, h4⟩ => ⟨h0, A, c, h1, h2, h3, IntsO.keep hS _ _ h4⟩
  cells := fun w S a v ⟨_, A, c, h1, _⟩ => by rw [h1]; rfl
  flat := fun w S a v ⟨_, A, c, h1, _⟩ u hu => by
    rw [h1] at hu
    simp [Value.cells] at hu
    subst hu
    rfl

theorem Items.unsnoc {α : Type} {T : Srt α} {w : World} {S : Nat → Prop} {e : α} : ∀ (es : List α) (xs : List Value), Items T w S (es ++ [e]) xs → ∃ v ys, xs = ys ++ v.cells.toList ∧ T.V w S e v ∧ Items T w S es ys
  | [], xs, ⟨v, ys, h1, h2, h3⟩ => by
    unfold Items at h3
    subst h3
    exact ⟨v, [], by simpa using h1, h2, rfl⟩
  | a :: r, xs, ⟨v, ys, h1, h2, h3⟩ => by
    obtain ⟨v', zs, g1, g2, g3⟩ := Items.unsnoc r ys h3
    exact ⟨v', v.cells.toList ++ zs, by rw [h1, g1, List.append_assoc], g2, ⟨v, zs, rfl, h2, g3⟩⟩

section
variable {t : TypeId} {base : Nat} {w : World} {S : Nat → Prop} {v : Value} {es : List (List Int)} {x : Int} {l : List Int}
/-- What is known of the last list. -/
theorem left_last (h : RowG srtL t base w S v (es ++ [x :: l])) : ∃ g c b o ci, v = .slice (some ⟨g, 0, none⟩) (es.length + 1) c ∧ es.length + 1 ≤ c ∧ c ≤ maxLen ∧
    w.cell? ⟨g, es.length, none⟩ = some (.slice (some ⟨b, o, none⟩) (l.length + 1) ci) ∧ w.frozen? ⟨g, es.length, none⟩ = false ∧ l.length + 1 ≤ ci ∧ ci ≤ maxLen ∧ w.cell? ⟨b, o, none⟩ = some (.int .i64 x) ∧ g < w.heap.size ∧ base ≤ g := by
  obtain ⟨xs, h1, h2⟩ := h.raw
  obtain ⟨vl, ys, e1, ⟨_, A, ci, e2, h3, h4, h5⟩, e3⟩ := Items.unsnoc es xs h2
  subst e2
  obtain ⟨g, c, hv, hc, hm⟩ := own_pos h1 (by simp)
  subst hv
  have hyl : ys.length = es.length := by have := Items.length srtL _ _ e3; simpa [srtL] using this
  have hcell := h1.cellAt es.length (by simp [srtL])
  have hlt := h1.lt g rfl
  unfold IntsO at h5
  obtain ⟨b, o, rfl, _, h6, _⟩ := h5
  refine ⟨g, c, b, o, ci, by simp, by simpa using hc, hm, ?_, h1.frozenAt _, by simpa using h3, h4, h6, hlt.2, hlt.1⟩
  rw [hcell, e1, List.getElem?_append_right (by omega), hyl]
  simp [Value.cells]
/-- The last list without its first number. -/
theorem left_set {g c b o ci : Nat} (h : RowG srtL t base w S (.slice (some ⟨g, 0, none⟩) (es.length + 1) c) (es ++ [x :: l])) (hl : l ≠ []) (hc : w.cell? ⟨g, es.length, none⟩ = some (.slice (some ⟨b, o, none⟩) (l.length + 1) ci)) (h1c : l.length + 1 ≤ ci) (hcm : ci ≤ maxLen) :
    RowG srtL t base (w.setCell ⟨g, es.length, none⟩ (.slice (some ⟨b, o + 1, none⟩) l.length (ci - 1))) S (.slice (some ⟨g, 0, none⟩) (es.length + 1) c) (es ++ [l]) := by
  obtain ⟨xs, h1, h2⟩ := h.raw
  have hS : ∀ k, S k → S k ∧ (w.setCell ⟨g, es.length, none⟩ (.slice (some ⟨b, o + 1, none⟩) l.length (ci - 1))).heap[k]? = w.heap[k]? := fun k hk =>
    ⟨hk, Below.heap_setCell _ _ _ _ (fun e => h.apart k hk (by simp [Value.ownBlock, e]))⟩
  obtain ⟨vl, ys, e1, ⟨_, A, ci', e2, h3, h4, h5⟩, e3⟩ := Items.unsnoc es xs h2
  subst e2
  have hyl : ys.length = es.length := by have := Items.length srtL _ _ e3; simpa [srtL] using this
  have hlen : (es ++ [x :: l]).length = es.length + 1 := by simp
  rw [hlen] at h1
  have hcell := h1.cellAt es.length (by simp [srtL])
  rw [hc, e1, List.getElem?_append_right (by omega), hyl] at hcell
  simp [Value.cells] at hcell
  obtain ⟨rfl, rfl⟩ := hcell
  unfold IntsO at h5
  obtain ⟨b', o', e4, _, _, h6⟩ := h5
  simp only [Option.some.injEq, Addr.mk.injEq, and_true] at e4
  obtain ⟨rfl, rfl⟩ := e4
  refine ⟨⟨ys ++ [.slice (some ⟨b, o + 1, none⟩) l.length (ci - 1)], ?_, ?_⟩, fun k hk => h.apart k hk, fun k hk => Nat.lt_of_lt_of_le (h.old k hk) (by simp [World.setCell])⟩
  · have h7 := (h1.stored es.length (.slice (some ⟨b, o + 1, none⟩) l.length (ci - 1))).1
    have h8 : xs.set es.length (.slice (some ⟨b, o + 1, none⟩) l.length (ci - 1)) = ys ++ [.slice (some ⟨b, o + 1, none⟩) l.length (ci - 1)] := by
      rw [e1, List.set_append_right _ _ (by omega), hyl]
      simp [Value.cells]
    rw [h8] at h7
    simpa using h7
  · refine Items.append srtL _ _ _ _ (Items.keep srtL hS _ _ e3) ?_
    exact Items.one srtL ⟨hl, _, _, rfl, by omega, by omega, IntsO.keep hS _ _ h6⟩
/-- Without the last list. -/
theorem left_cut {g c : Nat} (h : RowG srtL t base w S (.slice (some ⟨g, 0, none⟩) (es.length + 1) c) (es ++ [x :: l])) (u : Value) : RowG srtL t base (w.setCell ⟨g, es.length, none⟩ u) S (.slice (some ⟨g, 0, none⟩) es.length c) es := by
  obtain ⟨xs, h1, h2⟩ := h.raw
  have hS : ∀ k, S k → S k ∧ (w.setCell ⟨g, es.length, none⟩ u).heap[k]? = w.heap[k]? := fun k hk =>
    ⟨hk, Below.heap_setCell _ _ _ _ (fun e => h.apart k hk (by simp [Value.ownBlock, e]))⟩
  obtain ⟨vl, ys, e1, _, e3⟩ := Items.unsnoc es xs h2
  have hyl : ys.length = es.length := by have := Items.length srtL _ _ e3; simpa [srtL] using this
  have hlen : (es ++ [x :: l]).length = es.length + 1 := by simp
  rw [hlen] at h1
  refine ⟨⟨ys, own_cut (k := 1) (h1.stored es.length u).1 ?_ (by simp [srtL, hyl]), Items.keep srtL hS _ _ e3⟩, fun k hk => h.apart k hk, fun k hk => Nat.lt_of_lt_of_le (h.old k hk) (by simp [World.setCell])⟩
  rw [e1, List.set_append_right _ _ (by omega), List.take_append_of_le_length (by simp [srtL, hyl])]
  exact List.take_of_length_le (by simp [srtL, hyl])
end

set_option maxHeartbeats 400000 in
theorem take_more (g g1 n c b o m ci : Nat) (x : Int) (w : World)
    (hc : w.cell? ⟨g, 0, none⟩ = some (.slice (some ⟨g1, 0, none⟩) (n + 1) c)) (hnc : n + 1 ≤ c) (hcm : c ≤ maxLen)
    (h0 : w.cell? ⟨g1, n, none⟩ = some (.slice (some ⟨b, o, none⟩) (m + 2) ci)) (h1 : w.cell? ⟨b, o, none⟩ = some (.int .i64 x))
    (hf0 : w.frozen? ⟨g1, n, none⟩ = false) (hmc : m + 2 ≤ ci) (_hcim : ci ≤ maxLen) :
    Calls Try.prog 63 #[.pointer (some ⟨g, 0, none⟩)] w fun e w' => e = .returned (.int .i64 x) ∧ w' = w.setCell ⟨g1, n, none⟩ (.slice (some ⟨b, o + 1, none⟩) (m + 1) (ci - 1)) := by
  unfold maxLen at hcm _hcim
  go_enter Try.func63, Try.ntmps63
  go_wp2
  go_ret
  exact ⟨rfl, rfl⟩

set_option maxHeartbeats 400000 in
theorem take_last (g g1 n c b o ci : Nat) (x : Int) (w : World)
    (hc : w.cell? ⟨g, 0, none⟩ = some (.slice (some ⟨g1, 0, none⟩) (n + 1) c)) (hnc : n + 1 ≤ c) (hcm : c ≤ maxLen) (hf : w.frozen? ⟨g, 0, none⟩ = false)
    (h0 : w.cell? ⟨g1, n, none⟩ = some (.slice (some ⟨b, o, none⟩) 1 ci)) (h1 : w.cell? ⟨b, o, none⟩ = some (.int .i64 x))
    (hf0 : w.frozen? ⟨g1, n, none⟩ = false) (_hmc : 1 ≤ ci) (_hcim : ci ≤ maxLen) (hne : g1 ≠ g) :
    Calls Try.prog 63 #[.pointer (some ⟨g, 0, none⟩)] w fun e w' => e = .returned (.int .i64 x) ∧ ∃ X, w' = (w.setCell ⟨g1, n, none⟩ X).setCell ⟨g, 0, none⟩ (.slice (some ⟨g1, 0, none⟩) n c) := by
  unfold maxLen at hcm _hcim
  go_enter Try.func63, Try.ntmps63
  go_wp2
  all_goals go_ret
  all_goals exact ⟨rfl, _, rfl⟩
end Go.Proofs.Ytnhdgndjpkdhdaa
namespace Go.Proofs.Ytnhdgndjpkdhdaa
open Go.RowKit

/-- What is left, in a variable of block g. -/
structure LeftAt (base : Nat) (w : World) (S : Nat → Prop) (g : Nat) (v : Value) (st : List (List Int)) : Prop where
  box : Box w g 86 v
  row : RowG srtL 25 base w S v st
  apart : ¬ S g
theorem LeftAt.ne {base : Nat} {w : World} {S : Nat → Prop} {g : Nat} {v : Value} {st : List (List Int)} (h : LeftAt base w S g v st) : v.ownBlock ≠ some g := by
  obtain ⟨xs, h1, _⟩ := h.row.raw
  exact own_box_ne h1 h.box (by decide)

theorem take_any (base : Nat) (w : World) (S : Nat → Prop) (g : Nat) (v : Value) (st : List (List Int)) (x : Int) (l : List Int) (h : LeftAt base w S g v (st ++ [x :: l])) :
    Calls Try.prog 63 #[.pointer (some ⟨g, 0, none⟩)] w fun e w' => e = .returned (.int .i64 x) ∧ ∃ v', LeftAt base w' S g v' (G.pushR st l) ∧ Keeps (Own g v) w w' ∧ v'.ownBlock = v.ownBlock := by
  obtain ⟨g1, c, b, o, ci, rfl, h1, h2, h3, h4, h5, h6, h7, h8, h9⟩ := left_last h.row
  have hne : g1 ≠ g := fun e => h.ne (by simp [Value.ownBlock, e])
  cases l with
  | nil =>
    refine (take_last g g1 st.length c b o ci x w h.box.cell h1 h2 h.box.frozen (by simpa using h3) h7 h4 (by simpa using h5) h6 hne).mono ?_
    rintro e w' ⟨rfl, X, rfl⟩
    have hk1 : Keeps (Own g (.slice (some ⟨g1, 0, none⟩) (st.length + 1) c)) w (w.setCell ⟨g1, st.length, none⟩ X) := (Keeps.refl _ w).setCell (p := ⟨g1, st.length, none⟩) (fun _ => .inr rfl) X
    refine ⟨rfl, .slice (some ⟨g1, 0, none⟩) st.length c, ⟨(h.box.far (p := ⟨g1, st.length, none⟩) (Ne.symm hne) X).set _, ?_, h.apart⟩, hk1.setCell (p := ⟨g, 0, none⟩) (fun _ => .inl rfl) _, rfl⟩
    exact (left_cut h.row X).keep (F := fun k => k = g) ((Keeps.refl (fun k => k = g) _).setCell (p := ⟨g, 0, none⟩) (fun _ => rfl) _) (fun k e _ => ⟨fun e' => hne (by simp [Value.ownBlock] at e'; omega), fun e' => h.apart (e ▸ e')⟩)
  | cons a r =>
    refine (take_more g g1 st.length c b o r.length ci x w h.box.cell h1 h2 (by simpa using h3) h7 h4 (by simpa using h5) h6).mono ?_
    rintro e w' ⟨rfl, rfl⟩
    refine ⟨rfl, .slice (some ⟨g1, 0, none⟩) (st.length + 1) c, ⟨h.box.far (p := ⟨g1, st.length, none⟩) (Ne.symm hne) _, ?_, h.apart⟩, (Keeps.refl _ w).setCell (p := ⟨g1, st.length, none⟩) (fun _ => .inr rfl) _, rfl⟩
    exact left_set h.row (by simp) h3 h5 h6
end Go.Proofs.Ytnhdgndjpkdhdaa

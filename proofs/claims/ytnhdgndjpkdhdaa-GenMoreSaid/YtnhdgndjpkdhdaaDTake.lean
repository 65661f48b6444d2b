/-
  graph.takeFirst: lists in a row of the call's own, the last one's first number taken.
-/
import Derived.Test.YtnhdgndjpkdhdaaDCheck
import Derived.Test.YtnhdgndjpkdhdaaGCopy
import Derived.Test.YtnhdgndjpkdhdaaDStk
namespace Go.Proofs.Ytnhdgndjpkdhdaa
open Go.RowKit

def srtL : Srt (List Int) where
  V := fun w S l v => l ≠ [] ∧ ∃ A c, v = .slice A l.length c ∧ l.length ≤ c ∧ c ≤ maxLen ∧ IntsO w S l A
  size := 1
  pos := by decide
  keep := fun _ _ _ _ hS _ _ ⟨h0, A, c, h1, h2, h3, h4⟩ => ⟨h0, A, c, h1, h2, h3, IntsO.keep hS _ _ h4⟩
  cells := fun w S a v ⟨_, A, c, h1, _⟩ => by rw [h1]; rfl
  flat := fun w S a v ⟨_, A, c, h1, _⟩ u hu => by
    rw [h1] at hu
    simp [Value.cells] at hu
    subst hu
    rfl

theorem Items.unsnoc {α : Type} {T : Srt α} {w : World} {S : Nat → Prop} {e : α} : ∀ (es : List α) (xs : List Value), Items T w S (es ++ [e]) xs → ∃ v ys, xs = ys ++ v.cells.toList ∧ T.V w S e v ∧ Items T w S es ys
  | [], xs, ⟨v, ys, h1, h2, h3⟩ => by
    unfold Items at h3
    subst h3
    exact ⟨v, [], by simpa using h1, h2, rfl⟩
  | a :: r, xs, ⟨v, ys, h1, h2, h3⟩ => by
    obtain ⟨v', zs, g1, g2, g3⟩ := Items.unsnoc r ys h3
    exact ⟨v', v.cells.toList ++ zs, by rw [h1, g1, List.append_assoc], g2, ⟨v, zs, rfl, h2, g3⟩⟩

section
variable {t : TypeId} {base : Nat} {w : World} {S : Nat → Prop} {v : Value} {es : List (List Int)} {x : Int} {l : List Int}
/-- What is known of the last list. -/
theorem left_last (h : RowG srtL t base w S v (es ++ [x :: l])) : ∃ g c b o ci, v = .slice (some ⟨g, 0, none⟩) (es.length + 1) c ∧ es.length + 1 ≤ c ∧ c ≤ maxLen ∧
    w.cell? ⟨g, es.length, none⟩ = some (.slice (some ⟨b, o, none⟩) (l.length + 1) ci) ∧ w.frozen? ⟨g, es.length, none⟩ = false ∧ l.length + 1 ≤ ci ∧ ci ≤ maxLen ∧ w.cell? ⟨b, o, none⟩ = some (.int .i64 x) ∧ g < w.heap.size ∧ base ≤ g := by
  obtain ⟨xs, h1, h2⟩ := h.raw
  obtain ⟨vl, ys, e1, ⟨_, A, ci, e2, h3, h4, h5⟩, e3⟩ := Items.unsnoc es xs h2
  subst e2
  obtain ⟨g, c, hv, hc, hm⟩ := own_pos h1 (by simp)
  subst hv
  have hyl : ys.length = es.length := by have := Items.length srtL _ _ e3; simpa [srtL] using this
  have hcell := h1.cellAt es.length (by simp [srtL])
  have hlt := h1.lt g rfl
  unfold IntsO at h5
  obtain ⟨b, o, rfl, _, h6, _⟩ := h5
  refine ⟨g, c, b, o, ci, by simp, by simpa using hc, hm, ?_, h1.frozenAt _, by simpa using h3, h4, h6, hlt.2, hlt.1⟩
  rw [hcell, e1, List.getElem?_append_right (by omega), hyl]
  simp [Value.cells]
/-- The last list without its first number. -/
theorem left_set {g c b o ci : Nat} (h : RowG srtL t base w S (.slice (some ⟨g, 0, none⟩) (es.length + 1) c) (es ++ [x :: l])) (hl : l ≠ []) (hc : w.cell? ⟨g, es.length, none⟩ = some (.slice (some ⟨b, o, none⟩) (l.length + 1) ci)) (h1c : l.length + 1 ≤ ci) (hcm : ci ≤ maxLen) :
    RowG srtL t base (w.setCell ⟨g, es.length, none⟩ (.slice (some ⟨b, o + 1, none⟩) l.length (ci - 1))) S (.slice (some ⟨g, 0, none⟩) (es.length + 1) c) (es ++ [l]) := by
  obtain ⟨xs, h1, h2⟩ := h.raw
  have hS : ∀ k, S k → S k ∧ (w.setCell ⟨g, es.length, none⟩ (.slice (some ⟨b, o + 1, none⟩) l.length (ci - 1))).heap[k]? = w.heap[k]? := fun k hk =>
    ⟨hk, Below.heap_setCell _ _ _ _ (fun e => h.apart k hk (by simp [Value.ownBlock, e]))⟩
  obtain ⟨vl, ys, e1, ⟨_, A, ci', e2, h3, h4, h5⟩, e3⟩ := Items.unsnoc es xs h2
  subst e2
  have hyl : ys.length = es.length := by have := Items.length srtL _ _ e3; simpa [srtL] using this
  have hlen : (es ++ [x :: l]).length = es.length + 1 := by simp
  rw [hlen] at h1
  have hcell := h1.cellAt es.length (by simp [srtL])
  rw [hc, e1, List.getElem?_append_right (by omega), hyl] at hcell
  simp [Value.cells] at hcell
  obtain ⟨rfl, rfl⟩ := hcell
  unfold IntsO at h5
  obtain ⟨b', o', e4, _, _, h6⟩ := h5
  simp only [Option.some.injEq, Addr.mk.injEq, and_true] at e4
  obtain ⟨rfl, rfl⟩ := e4
  refine ⟨⟨ys ++ [.slice (some ⟨b, o + 1, none⟩) l.length (ci - 1)], ?_, ?_⟩, fun k hk => h.apart k hk, fun k hk => Nat.lt_of_lt_of_le (h.old k hk) (by simp [World.setCell])⟩
  · have h7 := (h1.stored es.length (.slice (some ⟨b, o + 1, none⟩) l.length (ci - 1))).1
    have h8 : xs.set es.length (.slice (some ⟨b, o + 1, none⟩) l.length (ci - 1)) = ys ++ [.slice (some ⟨b, o + 1, none⟩) l.length (ci - 1)] := by
      rw [e1, List.set_append_right _ _ (by omega), hyl]
      simp [Value.cells]
    rw [h8] at h7
    simpa using h7
  · refine Items.append srtL _ _ _ _ (Items.keep srtL hS _ _ e3) ?_
    exact Items.one srtL ⟨hl, _, _, rfl, by omega, by omega, IntsO.keep hS _ _ h6⟩
/-- Without the last list. -/
theorem left_cut {g c : Nat} (h : RowG srtL t base w S (.slice (some ⟨g, 0, none⟩) (es.length + 1) c) (es ++ [x :: l])) (u : Value) : RowG srtL t base (w.setCell ⟨g, es.length, none⟩ u) S (.slice (some ⟨g, 0, none⟩) es.length c) es := by
  obtain ⟨xs, h1, h2⟩ := h.raw
  have hS : ∀ k, S k → S k ∧ (w.setCell ⟨g, es.length, none⟩ u).heap[k]? = w.heap[k]? := fun k hk =>
    ⟨hk, Below.heap_setCell _ _ _ _ (fun e => h.apart k hk (by simp [Value.ownBlock, e]))⟩
  obtain ⟨vl, ys, e1, _, e3⟩ := Items.unsnoc es xs h2
  have hyl : ys.length = es.length := by have := Items.length srtL _ _ e3; simpa [srtL] using this
  have hlen : (es ++ [x :: l]).length = es.length + 1 := by simp
  rw [hlen] at h1
  refine ⟨⟨ys, own_cut (k := 1) (h1.stored es.length u).1 ?_ (by simp [srtL, hyl]), Items.keep srtL hS _ _ e3⟩, fun k hk => h.apart k hk, fun k hk => Nat.lt_of_lt_of_le (h.old k hk) (by simp [World.setCell])⟩
  rw [e1, List.set_append_right _ _ (by omega), List.take_append_of_le_length (by simp [srtL, hyl])]
  exact List.take_of_length_le (by simp [srtL, hyl])
end

set_option maxHeartbeats 400000 in
theorem take_more (g g1 n c b o m ci : Nat) (x : Int) (w : World)
    (hc : w.cell? ⟨g, 0, none⟩ = some (.slice (some ⟨g1, 0, none⟩) (n + 1) c)) (hnc : n + 1 ≤ c) (hcm : c ≤ maxLen)
    (h0 : w.cell? ⟨g1, n, none⟩ = some (.slice (some ⟨b, o, none⟩) (m + 2) ci)) (h1 : w.cell? ⟨b, o, none⟩ = some (.int .i64 x))
    (hf0 : w.frozen? ⟨g1, n, none⟩ = false) (hmc : m + 2 ≤ ci) (_hcim : ci ≤ maxLen) :
    Calls Try.prog 63 #[.pointer (some ⟨g, 0, none⟩)] w fun e w' => e = .returned (.int .i64 x) ∧ w' = w.setCell ⟨g1, n, none⟩ (.slice (some ⟨b, o + 1, none⟩) (m + 1) (ci - 1)) := by
  unfold maxLen at hcm _hcim
  go_enter Try.func63, Try.ntmps63
  go_wp2
  go_ret
  exact ⟨rfl, rfl⟩

set_option maxHeartbeats 400000 in
theorem take_last (g g1 n c b o ci : Nat) (x : Int) (w : World)
    (hc : w.cell? ⟨g, 0, none⟩ = some (.slice (some ⟨g1, 0, none⟩) (n + 1) c)) (hnc : n + 1 ≤ c) (hcm : c ≤ maxLen) (hf : w.frozen? ⟨g, 0, none⟩ = false)
    (h0 : w.cell? ⟨g1, n, none⟩ = some (.slice (some ⟨b, o, none⟩) 1 ci)) (h1 : w.cell? ⟨b, o, none⟩ = some (.int .i64 x))
    (hf0 : w.frozen? ⟨g1, n, none⟩ = false) (_hmc : 1 ≤ ci) (_hcim : ci ≤ maxLen) (hne : g1 ≠ g) :
    Calls Try.prog 63 #[.pointer (some ⟨g, 0, none⟩)] w fun e w' => e = .returned (.int .i64 x) ∧ ∃ X, w' = (w.setCell ⟨g1, n, none⟩ X).setCell ⟨g, 0, none⟩ (.slice (some ⟨g1, 0, none⟩) n c) := by
  unfold maxLen at hcm _hcim
  go_enter Try.func63, Try.ntmps63
  go_wp2
  all_goals go_ret
  all_goals exact ⟨rfl, _, rfl⟩
end Go.Proofs.Ytnhdgndjpkdhdaa

/-
  The walk over trees, as it lies in memory: the contracts of its methods add, more and take, and of start.
-/
import Derived.Test.YthgbldkcgfggfaaRows
import Derived.Test.YthgbldkcgfggfaaApp
import Derived.WalkKit
import Derived.WalkSpells
import Derived.WalkLawsBesides
import Derived.Lib.Hide
import Derived.Deep.QuietTactic
import Derived.BigQuiet
import Derived.Outline
namespace Go.Proofs.Ythgbldkcgfggfaa
open Go.RowKit

theorem infoT : (Try.prog.info? 104).map (fun i => (i.zero, i.size, i.bytes)) = some (some (.agg #[.slice none 0 0, .int .i64 0]), 2, 32) := by kernel_rfl

/-- A walk's variable in block g; its levels' cells xs, n levels, at v. -/
structure WkT (w : World) (g : Nat) (v : Value) (n : Nat) (xs : List Value) : Prop where
  box : Box w g 58 v
  own : w.ownsRow 0 104 2 v n xs

theorem WkT.ne {w : World} {g : Nat} {v : Value} {n : Nat} {xs : List Value} (h : WkT w g v n xs) : v.ownBlock ≠ some g := own_box_ne h.own h.box (by decide)

set_option maxHeartbeats 400000 in
theorem addT_none (p : Value) (A : Option Addr) (c : Nat) (d : Int) (w : World) :
    Calls Try.prog 55 #[p, .slice A 0 c, .int .i64 d] w fun e w' => e = .returned (.tuple #[]) ∧ w = w' := by
  go_enter Try.func55, Try.ntmps55
  go_wp2
  go_end0
  exact ⟨rfl, rfl⟩

set_option maxRecDepth 100000 in
set_option maxHeartbeats 400000 in
theorem addT_some (g : Nat) (v : Value) (n : Nat) (xs : List Value) (A : Option Addr) (m c : Nat) (d : Int) (w : World) (h : WkT w g v n xs) (hn : n ≤ 1099511627776) (hm : 0 < m) (_hmx : m ≤ 9223372036854775807) :
    Calls Try.prog 55 #[.pointer (some ⟨g, 0, none⟩), .slice A m c, .int .i64 d] w fun e w' => e = .returned (.tuple #[]) ∧
      ∃ v', WkT w' g v' (n + 1) (xs ++ [.slice A m c, .int .i64 d]) ∧ Keeps (Own g v) w w' ∧ (v'.ownBlock = v.ownBlock ∨ ∃ k, v'.ownBlock = some k ∧ w.heap.size ≤ k) := by
  obtain ⟨i0, hi, hz0, hz1, hz2⟩ := info_parts infoT
  have hc := h.box.cell
  have hf := h.box.frozen
  have hg := h.box.lt
  have ho := h.own
  have Hn := Lib.hid hn
  clear hn
  go_enter Try.func55, Try.ntmps55
  go_wp2_with (at_builtin; go_loud (refine wpList_append_at _ rfl (.tmp 13) (.tmp 17) 56 rfl 0 104 i0 (.agg #[.slice none 0 0, .int .i64 0]) 2 32 Try.underlying56 hi hz0 hz1 hz2 rfl (by decide) v n xs rfl (ho.alloc _) ⟨w.heap.size, 0, none⟩ 1 1 [.slice A m c, .int .i64 d] rfl rfl (cell_two_new _ _ _ _) (by intro u hu; simp at hu; rcases hu with rfl | rfl <;> rfl) (by have := Hn.out; unfold maxLen; omega) (by have := Hn.out; omega) (Nat.zero_le _) (by decide) ?_); intro v' w1 hown1 hgrow1 hblk1; obtain ⟨g1, cap1, rfl, hnc1, hcm1⟩ := own_pos hown1 (Nat.succ_pos _); go_loud (have hk1 : Keeps (Own g v) w w1 := ((Keeps.refl _ w).alloc _).grown hgrow1 (fun k hk _ => .inr hk); have hb1 : Box w1 g 58 v := (h.box.alloc _).grown hgrow1 h.ne; have hc1 := hb1.cell; have hf1 := hb1.frozen; clear hc hf))
  go_end0
  refine ⟨rfl, _, ⟨hb1.set _, ?_⟩, hk1.setCell (fun _ => .inl rfl) _, ?_⟩
  · exact own_far hown1 _ _ (own_box_ne hown1 hb1 (by decide))
  · rcases hblk1 with e | e
    · exact .inl e
    · exact .inr ⟨_, e, by simp⟩

set_option maxHeartbeats 400000 in
theorem moreT_yes (g : Nat) (A : Option Addr) (n c : Nat) (w : World) (h : w.cell? ⟨g, 0, none⟩ = some (.slice A n c)) (hn : 0 < n) :
    Calls Try.prog 56 #[.pointer (some ⟨g, 0, none⟩)] w fun e w' => e = .returned (.bool true) ∧ w = w' := by
  go_enter Try.func56, Try.ntmps56
  go_wp2
  go_ret
  exact ⟨rfl, rfl⟩

set_option maxHeartbeats 400000 in
theorem moreT_no (g : Nat) (A : Option Addr) (c : Nat) (w : World) (h : w.cell? ⟨g, 0, none⟩ = some (.slice A 0 c)) :
    Calls Try.prog 56 #[.pointer (some ⟨g, 0, none⟩)] w fun e w' => e = .returned (.bool false) ∧ w = w' := by
  go_enter Try.func56, Try.ntmps56
  go_wp2
  go_ret
  exact ⟨rfl, rfl⟩

set_option maxRecDepth 100000 in
set_option maxHeartbeats 400000 in
theorem takeT_more (g g1 n c b o m ci : Nat) (d : Int) (w : World)
    (hc : w.cell? ⟨g, 0, none⟩ = some (.slice (some ⟨g1, 0, none⟩) (n + 1) c)) (hnc : n + 1 ≤ c) (hcm : c ≤ maxLen)
    (h0 : w.cell? ⟨g1, n * 2, none⟩ = some (.slice (some ⟨b, o, none⟩) (m + 2) ci)) (h1 : w.cell? ⟨g1, n * 2 + 1, none⟩ = some (.int .i64 d))
    (hf0 : w.frozen? ⟨g1, n * 2, none⟩ = false) (hmc : m + 2 ≤ ci) (_hcim : ci ≤ maxLen) :
    Calls Try.prog 67 #[.pointer (some ⟨g, 0, none⟩)] w fun e w' => e = .returned (.tuple #[.pointer (some ⟨b, o, none⟩), .int .i64 d]) ∧
      ∃ nq, w' = (w.drewN nq).setCell ⟨g1, n * 2, none⟩ (.slice (some ⟨b, o + 5, none⟩) (m + 1) (ci - 1)) := by
  unfold maxLen at hcm
  go_enter Try.func67, Try.ntmps67
  go_wp2
  go_quiet (fail)
  go_wp2
  go_ret2
  exact ⟨rfl, _, rfl⟩

set_option maxRecDepth 100000 in
set_option maxHeartbeats 400000 in
theorem takeT_last (g g1 n c b o ci : Nat) (d : Int) (w : World)
    (hc : w.cell? ⟨g, 0, none⟩ = some (.slice (some ⟨g1, 0, none⟩) (n + 1) c)) (hnc : n + 1 ≤ c) (hcm : c ≤ maxLen) (hf : w.frozen? ⟨g, 0, none⟩ = false)
    (h0 : w.cell? ⟨g1, n * 2, none⟩ = some (.slice (some ⟨b, o, none⟩) 1 ci)) (h1 : w.cell? ⟨g1, n * 2 + 1, none⟩ = some (.int .i64 d))
    (hf0 : w.frozen? ⟨g1, n * 2, none⟩ = false) (_hmc : 1 ≤ ci) (_hcim : ci ≤ maxLen) (hne : g1 ≠ g) :
    Calls Try.prog 67 #[.pointer (some ⟨g, 0, none⟩)] w fun e w' => e = .returned (.tuple #[.pointer (some ⟨b, o, none⟩), .int .i64 d]) ∧
      ∃ X nq, w' = ((w.drewN nq).setCell ⟨g1, n * 2, none⟩ X).setCell ⟨g, 0, none⟩ (.slice (some ⟨g1, 0, none⟩) n c) := by
  unfold maxLen at hcm
  go_enter Try.func67, Try.ntmps67
  go_wp2
  go_quiet (fail)
  go_wp2
  all_goals go_ret2
  all_goals exact ⟨rfl, _, _, rfl⟩

/-- The levels' cells: each level a list that lies in memory, and how deep it stands. -/
def LvsT (w : World) (S : Nat → Prop) : List (List Ty × Int) → List Value → Prop
  | [], xs => xs = []
  | (l, d) :: st, xs => ∃ A c r, xs = .slice A l.length c :: .int .i64 d :: r ∧ l ≠ [] ∧ l.length ≤ c ∧ c ≤ maxLen ∧ TysO w S l A ∧ LvsT w S st r

theorem LvsT.keep {w w' : World} {S S' : Nat → Prop} (hS : ∀ k, S k → S' k ∧ w'.heap[k]? = w.heap[k]?) : ∀ (st : List (List Ty × Int)) (xs : List Value), LvsT w S st xs → LvsT w' S' st xs
  | [], _, h => h
  | (_, _) :: st, _, ⟨A, c, r, h1, h2, h3, h4, h5, h6⟩ => ⟨A, c, r, h1, h2, h3, h4, TysO.keep hS _ _ h5, LvsT.keep hS st r h6⟩

theorem LvsT.snoc {w : World} {S : Nat → Prop} {l : List Ty} {d : Int} {A : Option Addr} {c : Nat} (hl : l ≠ []) (hc : l.length ≤ c) (hm : c ≤ maxLen) (he : TysO w S l A) :
    ∀ (st : List (List Ty × Int)) (xs : List Value), LvsT w S st xs → LvsT w S (st ++ [(l, d)]) (xs ++ [.slice A l.length c, .int .i64 d])
  | [], _, h => by
    have h' := h
    unfold LvsT at h'
    subst h'
    exact ⟨A, c, [], rfl, hl, hc, hm, he, rfl⟩
  | (_, _) :: st, _, ⟨A', c', r, h1, h2, h3, h4, h5, h6⟩ => by
    subst h1
    exact ⟨A', c', _, rfl, h2, h3, h4, h5, LvsT.snoc hl hc hm he st r h6⟩

theorem LvsT.unsnoc {w : World} {S : Nat → Prop} {l : List Ty} {d : Int} :
    ∀ (st : List (List Ty × Int)) (xs : List Value), LvsT w S (st ++ [(l, d)]) xs → ∃ A c ys, xs = ys ++ [.slice A l.length c, .int .i64 d] ∧ l ≠ [] ∧ l.length ≤ c ∧ c ≤ maxLen ∧ TysO w S l A ∧ LvsT w S st ys
  | [], _, h => by
    obtain ⟨A, c, r, h1, h2, h3, h4, h5, h6⟩ := h
    unfold LvsT at h6
    subst h6
    exact ⟨A, c, [], h1, h2, h3, h4, h5, rfl⟩
  | (_, _) :: st, _, h => by
    obtain ⟨A', c', r, h1, h2, h3, h4, h5, h6⟩ := h
    obtain ⟨A, c, ys, g1, g2, g3, g4, g5, g6⟩ := LvsT.unsnoc st r h6
    subst h1 g1
    exact ⟨A, c, _, rfl, g2, g3, g4, g5, ⟨A', c', ys, rfl, h2, h3, h4, h5, g6⟩⟩

/-- A walk in memory: the levels st, all trees of theirs in blocks of S, the walk's own blocks not among them. -/
structure WalkT (w : World) (S : Nat → Prop) (g : Nat) (v : Value) (st : List (List Ty × Int)) : Prop where
  raw : ∃ xs, WkT w g v st.length xs ∧ LvsT w S st xs
  apart : ∀ k, S k → ¬ Own g v k
  old : ∀ k, S k → k < w.heap.size

theorem moreT (w : World) (S : Nat → Prop) (g : Nat) (v : Value) (st : List (List Ty × Int)) (b : Bool) (hb : (!st.isEmpty) = b) (h : WalkT w S g v st) :
    Calls Try.prog 56 #[.pointer (some ⟨g, 0, none⟩)] w fun e w' => e = .returned (.bool b) ∧ w = w' := by
  obtain ⟨xs, hk, _⟩ := h.raw
  obtain ⟨A, c, rfl, h1, h2⟩ := own_form hk.own
  cases st with
  | nil => subst hb; exact moreT_no g A c w hk.box.cell
  | cons x r => subst hb; exact moreT_yes g A _ c w hk.box.cell (by simp)

theorem addT (w : World) (S : Nat → Prop) (g : Nat) (v : Value) (st : List (List Ty × Int)) (l : List Ty) (n : Nat) (A : Option Addr) (c : Nat) (d : Int) (h : WalkT w S g v st) (hn : st.length ≤ 1099511627776)
    (hl : n = l.length) (hc : n ≤ c) (hm : c ≤ maxLen) (he : TysO w S l A) :
    Calls Try.prog 55 #[.pointer (some ⟨g, 0, none⟩), .slice A n c, .int .i64 d] w fun e w' => e = .returned (.tuple #[]) ∧
      ∃ v', WalkT w' S g v' (pushL st l d) ∧ Step w w' g v v' := by
  cases l with
  | nil =>
    subst hl
    exact (addT_none _ A c d w).mono fun e w' ⟨he, hw⟩ => by subst hw; exact ⟨he, v, h, Step.refl _ _ _⟩
  | cons a r =>
    obtain ⟨xs, hk, hlv⟩ := h.raw
    subst hl
    refine (addT_some g v _ xs A _ c d w hk hn (by simp) (by unfold maxLen at hm; omega)).mono fun e w' ⟨he', v', hk', hkeep, hmv⟩ => ⟨he', v', ⟨⟨_, by simpa [pushL] using hk', ?_⟩, ?_, ?_⟩, ⟨hkeep, hmv⟩⟩
    · exact LvsT.keep (fun k hk => ⟨hk, hkeep.block k (h.old k hk) (h.apart k hk)⟩) _ _ (LvsT.snoc (by simp) hc hm he _ _ hlv)
    · intro k hk hown
      rcases hown with e | e
      · exact h.apart k hk (.inl e)
      · rcases hmv with e' | ⟨k', e', hge⟩
        · exact h.apart k hk (.inr (by rw [← e', e]))
        · rw [e] at e'
          injection e' with e'
          have := h.old k hk
          omega
    · intro k hk
      exact Nat.lt_of_lt_of_le (h.old k hk) hkeep.size

theorem takeT (w : World) (S : Nat → Prop) (g : Nat) (v : Value) (st : List (List Ty × Int)) (e0 : Ty) (l : List Ty) (d : Int) (h : WalkT w S g v (st ++ [(e0 :: l, d)])) :
    Calls Try.prog 67 #[.pointer (some ⟨g, 0, none⟩)] w fun e w' => ∃ b o, e = .returned (.tuple #[.pointer (some ⟨b, o, none⟩), .int .i64 d]) ∧ TyP w' S b o e0 ∧
      ∃ v', WalkT w' S g v' (pushL st l d) ∧ Step w w' g v v' := by
  obtain ⟨xs, hk, hlv⟩ := h.raw
  obtain ⟨A, ci, ys, rfl, _, h2, h3, h4, h5⟩ := LvsT.unsnoc st xs hlv
  obtain ⟨n, hnl⟩ : ∃ n, n = st.length := ⟨_, rfl⟩
  have hlen : (st ++ [(e0 :: l, d)]).length = n + 1 := by simp [hnl]
  rw [hlen] at hk
  have hyl : ys.length = n * 2 := by have := hk.own.1; simp at this; omega
  unfold TysO at h4
  obtain ⟨b, o, ev, rfl, hb, hcell, hev, hrest⟩ := h4
  obtain ⟨g1, c, rfl, hnc, hcm⟩ := own_pos hk.own (Nat.succ_pos _)
  have hne : g1 ≠ g := fun e => hk.ne (by simp [Value.ownBlock, e])
  have hc0 := hk.own.cellAt (n * 2) (by omega)
  have hc1 := hk.own.cellAt (n * 2 + 1) (by omega)
  simp [hyl] at hc0
  rw [List.getElem?_append_right (by omega)] at hc1
  simp [hyl, show n * 2 + 1 - n * 2 = 1 from by omega] at hc1
  have hf0 := hk.own.frozenAt (n * 2)
  have hkp : ∀ nq X, Keeps (Own g (.slice (some ⟨g1, 0, none⟩) (n + 1) c)) w ((w.drewN nq).setCell ⟨g1, n * 2, none⟩ X) := fun nq X => ((Keeps.refl _ w).drewN nq).setCell (fun _ => .inr rfl) X
  cases l with
  | nil =>
    refine (takeT_last g g1 n c b o ci d w hk.box.cell hnc hcm hk.box.frozen (by simpa using hc0) hc1 hf0 (by simpa using h2) h3 hne).mono fun e w' ⟨he, X, nq, hw⟩ => ?_
    subst hw
    have hkk : Keeps (Own g (.slice (some ⟨g1, 0, none⟩) (n + 1) c)) w (((w.drewN nq).setCell ⟨g1, n * 2, none⟩ X).setCell ⟨g, 0, none⟩ (.slice (some ⟨g1, 0, none⟩) n c)) := (hkp nq X).setCell (fun _ => .inl rfl) _
    have hS : ∀ k, S k → S k ∧ (((w.drewN nq).setCell ⟨g1, n * 2, none⟩ X).setCell ⟨g, 0, none⟩ (.slice (some ⟨g1, 0, none⟩) n c)).heap[k]? = w.heap[k]? := fun k hk => ⟨hk, hkk.block k (h.old k hk) (h.apart k hk)⟩
    refine ⟨b, o, he, ⟨hb, ev, hcell.keep (hS b hb).2, TyV.keep hS _ _ hev⟩, .slice (some ⟨g1, 0, none⟩) n c, ⟨⟨ys, ⟨?_, ?_⟩, LvsT.keep hS _ _ h5⟩, ?_, ?_⟩, ⟨hkk, .inl rfl⟩⟩
    · exact ((hk.box.drewN nq).far (p := ⟨g1, n * 2, none⟩) (Ne.symm hne) X).set _
    · show World.ownsRow _ 0 104 2 _ (pushL st [] d).length ys
      rw [show (pushL st [] d).length = n from hnl.symm]
      refine own_far ?_ ⟨g, 0, none⟩ _ (by simp [Value.ownBlock, hne])
      exact own_cut (k := 1) ((own_drewN hk.own nq).stored (n * 2) X).1 (by simp [hyl]) hyl
    · intro k hk' e
      exact h.apart k hk' (by rcases e with e | e; exact .inl e; exact .inr e)
    · intro k hk'; exact Nat.lt_of_lt_of_le (h.old k hk') hkk.size
  | cons a r =>
    have hci : r.length + 2 ≤ ci := by simpa using h2
    refine (takeT_more g g1 n c b o r.length ci d w hk.box.cell hnc hcm (by simpa using hc0) hc1 hf0 hci h3).mono fun e w' ⟨he, nq, hw⟩ => ?_
    subst hw
    have hkk := hkp nq (.slice (some ⟨b, o + 5, none⟩) (r.length + 1) (ci - 1))
    have hS : ∀ k, S k → S k ∧ ((w.drewN nq).setCell ⟨g1, n * 2, none⟩ (.slice (some ⟨b, o + 5, none⟩) (r.length + 1) (ci - 1))).heap[k]? = w.heap[k]? := fun k hk => ⟨hk, hkk.block k (h.old k hk) (h.apart k hk)⟩
    refine ⟨b, o, he, ⟨hb, ev, hcell.keep (hS b hb).2, TyV.keep hS _ _ hev⟩, .slice (some ⟨g1, 0, none⟩) (n + 1) c, ⟨⟨ys ++ [.slice (some ⟨b, o + 5, none⟩) (a :: r).length (ci - 1), .int .i64 d], ⟨?_, ?_⟩, ?_⟩, ?_, ?_⟩, ⟨hkk, .inl rfl⟩⟩
    · exact (hk.box.drewN nq).far (p := ⟨g1, n * 2, none⟩) (Ne.symm hne) _
    · show World.ownsRow _ 0 104 2 _ (pushL st (a :: r) d).length _
      rw [show (pushL st (a :: r) d).length = n + 1 from by simp [pushL, hnl]]
      have := ((own_drewN hk.own nq).stored (n * 2) (.slice (some ⟨b, o + 5, none⟩) (r.length + 1) (ci - 1))).1
      simpa [List.set_append, hyl] using this
    · exact LvsT.snoc (by simp) (by simp; omega) (by omega) (TysO.keep hS _ _ hrest) _ _ (LvsT.keep hS _ _ h5)
    · intro k hk' e
      exact h.apart k hk' (by rcases e with e | e; exact .inl e; exact .inr e)
    · intro k hk'; exact Nat.lt_of_lt_of_le (h.old k hk') hkk.size

/-- A walk's row alone, without its variable. -/
structure RowT (w : World) (S : Nat → Prop) (v : Value) (st : List (List Ty × Int)) : Prop where
  raw : ∃ xs, w.ownsRow 0 104 2 v st.length xs ∧ LvsT w S st xs
  apart : ∀ k, S k → v.ownBlock ≠ some k
  old : ∀ k, S k → k < w.heap.size

theorem RowT.boxed {w : World} {S : Nat → Prop} {v : Value} {st : List (List Ty × Int)} (h : RowT w S v st) : WalkT (w.alloc (.cells #[v] 58)) S w.heap.size v st := by
  obtain ⟨xs, h1, h2⟩ := h.raw
  refine ⟨⟨xs, ⟨Box.new _ _ _, h1.alloc _⟩, LvsT.keep (fun k hk => ⟨hk, Below.heap_alloc _ _ _ (h.old k hk)⟩) _ _ h2⟩, ?_, ?_⟩
  · intro k hk e
    rcases e with e | e
    · have := h.old k hk; omega
    · exact h.apart k hk e
  · intro k hk
    have := h.old k hk
    simp; omega

theorem WalkT.row {w : World} {S : Nat → Prop} {g : Nat} {v : Value} {st : List (List Ty × Int)} (h : WalkT w S g v st) : RowT w S v st := by
  obtain ⟨xs, h1, h2⟩ := h.raw
  exact ⟨⟨xs, h1.own, h2⟩, fun k hk e => h.apart k hk (.inr e), h.old⟩

theorem RowT.keep {w w' : World} {S T : Nat → Prop} {v : Value} {st : List (List Ty × Int)} (h : RowT w S v st) (hk : Keeps T w w') (hT : ∀ k, T k → ¬ S k ∧ v.ownBlock ≠ some k) : RowT w' S v st := by
  obtain ⟨xs, h1, h2⟩ := h.raw
  refine ⟨⟨xs, hk.own h1 (fun k e hk => (hT k hk).2 e), LvsT.keep (fun k hk' => ⟨hk', hk.block k (h.old k hk') (fun e => (hT k e).1 hk')⟩) _ _ h2⟩, h.apart, fun k hk' => Nat.lt_of_lt_of_le (h.old k hk') hk.size⟩

theorem WalkT.keep {w w' : World} {S T : Nat → Prop} {g : Nat} {v : Value} {st : List (List Ty × Int)} (h : WalkT w S g v st) (hk : Keeps T w w') (hT : ∀ k, k < w.heap.size → T k → ¬ S k ∧ ¬ Own g v k) : WalkT w' S g v st := by
  obtain ⟨xs, h1, h2⟩ := h.raw
  refine ⟨⟨xs, ⟨h1.box.keep hk (fun e => (hT g h1.box.lt e).2 (.inl rfl)), hk.own h1.own (fun k e hk => (hT k (h1.own.lt k e).2 hk).2 (.inr e))⟩, LvsT.keep (fun k hk' => ⟨hk', hk.block k (h.old k hk') (fun e => (hT k (h.old k hk') e).1 hk')⟩) _ _ h2⟩, h.apart, fun k hk' => Nat.lt_of_lt_of_le (h.old k hk') hk.size⟩

/-- The world in which start calls add. -/
def startWT (w : World) (cs : Array Value) : World :=
  (((w.alloc (.cells cs 42)).alloc (.cells #[.slice none 0 0] 58)).alloc (.cells #[.slice none 0 0] 58)).alloc (.cells cs 42)

theorem startWT_below (w : World) (cs : Array Value) : Below w.heap.size w (startWT w cs) :=
  ((((Below.refl _ _).alloc (Nat.le_refl _) _).alloc (by simp) _).alloc (by simp; omega) _).alloc (by simp; omega) _

theorem startWT_size (w : World) (cs : Array Value) : (startWT w cs).heap.size = w.heap.size + 4 := by simp [startWT]

theorem startWT_box (w : World) (cs : Array Value) : Box (startWT w cs) (w.heap.size + 1) 58 (.slice none 0 0) := by
  have h : Box ((w.alloc (.cells cs 42)).alloc (.cells #[.slice none 0 0] 58)) (w.heap.size + 1) 58 (.slice none 0 0) := by
    have := Box.new (w.alloc (.cells cs 42)) 58 (.slice none 0 0)
    simpa using this
  exact (h.alloc _).alloc _

theorem startWT_walk (w : World) (cs : Array Value) (S : Nat → Prop) (hS : ∀ k, S k → k < w.heap.size) :
    WalkT (startWT w cs) (fun k => S k ∨ k = w.heap.size + 3) (w.heap.size + 1 + 1) (.slice none 0 0) [] := by
  refine ⟨⟨[], ⟨?_, World.ownsRow_nil _ _ _ _⟩, rfl⟩, ?_, ?_⟩
  · have h : Box (((w.alloc (.cells cs 42)).alloc (.cells #[.slice none 0 0] 58)).alloc (.cells #[.slice none 0 0] 58)) (w.heap.size + 1 + 1) 58 (.slice none 0 0) := by
      have := Box.new ((w.alloc (.cells cs 42)).alloc (.cells #[.slice none 0 0] 58)) 58 (.slice none 0 0)
      simpa using this
    exact h.alloc _
  · intro k hk e
    rcases e with e | e
    · rcases hk with h | h
      · have := hS k h; omega
      · omega
    · simp [Value.ownBlock] at e
  · intro k hk
    rw [startWT_size]
    rcases hk with h | h
    · have := hS k h; omega
    · omega

theorem startWT_tree (w : World) (cs : Array Value) (S : Nat → Prop) (hS : ∀ k, S k → k < w.heap.size) (e0 : Ty) (he : TyV w S e0 (.agg cs)) :
    TysO (startWT w cs) (fun k => S k ∨ k = w.heap.size + 3) [e0] (some ⟨w.heap.size + 1 + 1 + 1, 0, none⟩) := by
  unfold TysO
  refine ⟨w.heap.size + 3, 0, .agg cs, rfl, .inr rfl, ?_, TyV.keep (fun k hk => ⟨.inl hk, (startWT_below w cs).block k (hS k hk)⟩) _ _ he, ?_⟩
  · intro j u hu
    have h : (startWT w cs).heap[w.heap.size + 3]? = some (.cells cs 42 (0, 0)) := by
      have h := heap_alloc_new (((w.alloc (.cells cs 42)).alloc (.cells #[.slice none 0 0] 58)).alloc (.cells #[.slice none 0 0] 58)) (.cells cs 42)
      rw [show (((w.alloc (.cells cs 42)).alloc (.cells #[.slice none 0 0] 58)).alloc (.cells #[.slice none 0 0] 58)).heap.size = w.heap.size + 3 from by simp] at h
      exact h
    rw [Nat.zero_add, cell_of_row _ _ j cs 42 (0, 0) h]
    exact hu
  · unfold TysO; trivial

set_option maxRecDepth 100000 in
set_option maxHeartbeats 400000 in
theorem startT (w : World) (S : Nat → Prop) (e0 : Ty) (ev : Value) (hS : ∀ k, S k → k < w.heap.size) (he : TyV w S e0 ev) :
    Calls Try.prog 46 #[ev] w fun e w' => ∃ v S', e = .returned (.agg #[v]) ∧ (∀ k, S k → S' k) ∧ (∀ k, S' k → S k ∨ w.heap.size ≤ k) ∧ RowT w' S' v [([e0], 1)] ∧ Below w.heap.size w w' ∧ (∀ k, v.ownBlock = some k → w.heap.size ≤ k) := by
  have he' := he
  obtain ⟨fk, fs, fargs, flabels, fop⟩ := e0
  unfold TyV at he'
  obtain ⟨aA, cA, aL, cL, rfl, _⟩ := he'
  have hW := startWT_walk w #[.int .i64 fk, .string fs, .slice aA fargs.length cA, .slice aL flabels.length cL, .bool fop] S hS
  have hE := startWT_tree w #[.int .i64 fk, .string fs, .slice aA fargs.length cA, .slice aL flabels.length cL, .bool fop] S hS _ he
  have hB := startWT_below w #[.int .i64 fk, .string fs, .slice aA fargs.length cA, .slice aL flabels.length cL, .bool fop]
  have hBx := startWT_box w #[.int .i64 fk, .string fs, .slice aA fargs.length cA, .slice aL flabels.length cL, .bool fop]
  have hsz := startWT_size w #[.int .i64 fk, .string fs, .slice aA fargs.length cA, .slice aL flabels.length cL, .bool fop]
  have HW := Lib.hid hW
  have HE := Lib.hid hE
  have HB := Lib.hid hB
  have HX := Lib.hid hBx
  have HZ := Lib.hid hsz
  clear hW hE hB hBx hsz he
  go_enter Try.func46, Try.ntmps46
  go_wp2_with fail
  refine (addT _ _ _ _ [] _ 1 _ 1 1 HW.out (by simp) rfl (Nat.le_refl _) (by decide) HE.out).mono ?_
  rintro e w1 ⟨rfl, v1, hw1, hk1, hm1⟩
  have hraw1 := hw1.raw
  obtain ⟨xs1, hx1, _⟩ := hraw1
  obtain ⟨A1, c1, rfl, h1, h2⟩ := own_form hx1.own
  have hc1 := hx1.box.cell
  have hb2 : Box w1 (w.heap.size + 1) 58 (.slice none 0 0) := HX.out.keep hk1 (fun e => by rcases e with e | e; omega; simp [Value.ownBlock] at e)
  have hc2 := hb2.cell
  have hf2 := hb2.frozen
  have hr1 := hw1.row
  have hz1 : w.heap.size + 4 ≤ w1.heap.size := by have := hk1.size; rw [HZ.out] at this; exact this
  have HR := Lib.hid hr1
  have HK := Lib.hid hk1
  have HM := Lib.hid hm1
  have HBx := Lib.hid hb2
  have HX1 := Lib.hid hx1
  clear hr1 hk1 hm1 hb2 hx1 hw1
  go_wp2
  refine bodyPost_ret (v := .agg #[.slice A1 1 c1]) (by simp [results, Try.results46, go_sem, hc2, pushL]) rfl ?_
  refine ⟨.slice A1 1 c1, fun k => S k ∨ k = w.heap.size + 3, rfl, fun k hk => .inl hk, fun k hk => hk.imp id (fun e => by omega), ?_, ?_, ?_⟩
  · refine HR.out.keep ((Keeps.refl (fun k => k = w.heap.size + 1) w1).setCell (p := ⟨w.heap.size + 1, 0, none⟩) (fun _ => rfl) _) (fun k hk => ?_)
    subst hk
    refine ⟨fun e => ?_, own_box_ne HX1.out.own HBx.out (by decide)⟩
    rcases e with e | e
    · have := hS _ e; omega
    · omega
  · have h1 : Below w.heap.size w w1 := HB.out.trans (HK.out.below (by rw [HZ.out]; omega) (fun i hi e => by rcases e with e | e; omega; simp [Value.ownBlock] at e))
    exact h1.setCell (p := ⟨w.heap.size + 1, 0, none⟩) (by simp) _
  · intro k hk
    have hM := HM.out
    rcases hM with e | ⟨k', e, hge⟩
    · have : Value.ownBlock (.slice A1 1 c1) = none := e
      rw [this] at hk
      cases hk
    · have : Value.ownBlock (.slice A1 1 c1) = some k' := e
      rw [this] at hk
      injection hk with hk
      rw [HZ.out] at hge
      omega

end Go.Proofs.Ythgbldkcgfggfaa

/-
  trefoilref13.Fresh: the nodes under way: the old ones, which share what they hold, and copies behind them.
-/
import Derived.Test.YtnhdgndjpkdhdaaGCopy
import Derived.Test.YtnhdgndjpkdhdaaGTrm
import Derived.Test.YtnhdgndjpkdhdaaGCat2
namespace Go.Proofs.Ytnhdgndjpkdhdaa
open Go.RowKit

theorem items_of_nds {w : World} {S : Nat → Prop} : ∀ (l : List RNd) (b o : Nat), NdsO w S l (some ⟨b, o, none⟩) → ∃ xs, Items srtN w S l xs ∧ ∀ j u, xs[j]? = some u → w.cell? ⟨b, o + j, none⟩ = some u
  | [], _, _, _ => ⟨[], rfl, fun j u h => by simp at h⟩
  | x :: r, b, o, h => by
    obtain ⟨b', o', e, ⟨hb, v, hc, hv⟩, hr⟩ := h
    simp only [Option.some.injEq, Addr.mk.injEq, and_true] at e
    obtain ⟨rfl, rfl⟩ := e
    obtain ⟨ys, h1, h2⟩ := items_of_nds r b (o + 5) hr
    have h5 : v.cells.toList.length = 5 := srtN.cells w S x v hv
    refine ⟨v.cells.toList ++ ys, ⟨v, ys, rfl, hv, h1⟩, fun j u hu => ?_⟩
    by_cases hj : j < 5
    · rw [List.getElem?_append_left (by omega)] at hu
      exact hc j u (by simpa using hu)
    · rw [List.getElem?_append_right (by omega), h5] at hu
      have := h2 (j - 5) u hu
      rwa [show o + 5 + (j - 5) = o + j by omega] at this
theorem lies_nds {w : World} {S : Nat → Prop} {l : List RNd} {A : Option Addr} (h : NdsO w S l A) (hA : A = none → l = []) : LiesAt srtN w S l A := by
  cases A with
  | none => exact .inl ⟨rfl, hA rfl⟩
  | some a =>
    cases l with
    | nil => exact .inr ⟨a, rfl, [], (fun j u h => by simp at h), rfl⟩
    | cons x r =>
      have h' := h
      obtain ⟨b, o, e, _⟩ := h'
      injection e with e
      subst e
      obtain ⟨xs, h1, h2⟩ := items_of_nds _ b o h
      exact .inr ⟨_, rfl, xs, fun j u hu => by rw [add_plain']; exact h2 j u hu, h1⟩
theorem RowG.emptyS {α : Type} {T : Srt α} {t : TypeId} {base gg : Nat} {W : World} {S : Nat → Prop} (hg : Blk W gg (.cells #[] t (0, 0))) (hb : base ≤ gg) (hS : ∀ k, S k → k < base) : RowG T t base W S (.slice (some ⟨gg, 0, none⟩) 0 0) [] :=
  (RowG.empty (T := T) hg hb).wide (fun _ h => h.elim) (fun k hk => ⟨by have := hS k hk; have := hg.lt; omega, fun e => by have := hS k hk; simp [Value.ownBlock] at e; omega⟩)
/-- The fresh graph under way. -/
structure Cpf (S : Nat → Prop) (wE : World) (bo : Nat) (rt : Int) (W : World) (s : Value) (es : List RNd) : Prop where
  old : ∀ k, S k → k < wE.heap.size
  bel : Below wE.heap.size wE W
  lo : wE.heap.size ≤ bo
  out : Blk W bo (.cells #[s, .int .i64 rt] 24 (0, 0))
  ne : s.ownBlock ≠ some bo
  row : RowG srtN 37 wE.heap.size W (fun q => (S q ∨ wE.heap.size ≤ q ∧ q < W.heap.size ∧ q ≠ bo) ∧ s.ownBlock ≠ some q) s es
section
variable {S : Nat → Prop} {wE W W6 W8 : World} {bo : Nat} {rt : Int} {s s' v : Value} {es : List RNd} {x : RNd} {o : Obj}
theorem Cpf.row7 (h : Cpf S wE bo rt W s es) (hb : Below W.heap.size W W6) (o : Obj) : RowG srtN 37 wE.heap.size (W6.alloc o) (fun q => (S q ∨ wE.heap.size ≤ q ∧ q < W6.heap.size ∧ q ≠ bo) ∧ s.ownBlock ≠ some q) s es :=
  (h.row.keep (F := fun _ => False) ((Keeps.of_below0 hb).alloc o) (fun _ e _ => e.elim)).wide (fun _ hk => ⟨hk.1.imp id fun e => ⟨e.1, Nat.lt_of_lt_of_le e.2.1 hb.size, e.2.2⟩, hk.2⟩) (fun _ hk => ⟨by
    have z1 := hb.size
    have z2 := h.bel.size
    simp
    rcases hk.1 with e | e
    · have := h.old _ e; omega
    · omega, hk.2⟩)
theorem Cpf.item7 (h : Cpf S wE bo rt W s es) (o : Obj) (hv : NdV W6 (fun q => W.heap.size ≤ q ∧ q < W6.heap.size) x v) : NdV (W6.alloc o) (fun q => (S q ∨ wE.heap.size ≤ q ∧ q < W6.heap.size ∧ q ≠ bo) ∧ s.ownBlock ≠ some q) x v :=
  hv.keep (fun q hq => ⟨⟨.inr ⟨by have := h.bel.size; omega, hq.2, by have := h.out.lt; omega⟩, fun e => by have := (h.row.block e).2; omega⟩, Below.heap_alloc _ _ _ hq.2⟩)
theorem Cpf.out8 (h : Cpf S wE bo rt W s es) (hb : Below W.heap.size W W6) (hk : Keeps (fun k => s.ownBlock = some k) (W6.alloc o) W8) : Blk W8 bo (.cells #[s, .int .i64 rt] 24 (0, 0)) := by
  have zo := h.out.lt
  have z6 := hb.size
  refine (hk.block _ (by simp; omega) (fun e => h.ne e)).trans ?_
  exact (Below.heap_alloc _ _ _ (by omega)).trans ((hb.block _ zo).trans h.out)
theorem Cpf.step (h : Cpf S wE bo rt W s es) (hb : Below W.heap.size W W6) (hr : RowG srtN 37 wE.heap.size W8 (fun q => (S q ∨ wE.heap.size ≤ q ∧ q < W6.heap.size ∧ q ≠ bo) ∧ s.ownBlock ≠ some q) s' (es ++ [x])) (hk : Keeps (fun k => s.ownBlock = some k) (W6.alloc o) W8)
    (hv : s'.ownBlock = s.ownBlock ∨ s'.ownBlock = some (W6.alloc o).heap.size) : Cpf S wE bo rt (W8.setCell ⟨bo, 0, none⟩ s') s' (es ++ [x]) := by
  have zo := h.out.lt
  have z6 := hb.size
  have z8 := hk.size
  have zE := h.bel.size
  have zl := h.lo
  simp only [World.size_alloc] at z8 hv
  have hn : s'.ownBlock ≠ some bo := by
    rcases hv with e | e
    · rw [e]; exact h.ne
    · rw [e]; intro e'; injection e' with e'; omega
  refine ⟨h.old, ?_, h.lo, (h.out8 hb hk).set 0 s', hn, ?_⟩
  · refine Below.setCell (h.bel.trans (((hb.mono zE).alloc (by omega) o).trans (hk.below (by simp; omega) (fun i hi e => ?_)))) h.lo _
    have := (h.row.block e).1
    omega
  · refine (hr.keep (F := fun k => k = bo) ((Keeps.refl (fun k => k = bo) W8).setCell (p := ⟨bo, 0, none⟩) (fun _ => rfl) _) (fun k e _ => ⟨fun e' => hn (e ▸ e'), fun e' => ?_⟩)).wide (fun q hq => ⟨hq.1.imp id fun e => ⟨e.1, ?_, e.2.2⟩, ?_⟩) (fun q hq => ⟨?_, hq.2⟩)
    · rcases e'.1 with e2 | e2
      · have := h.old _ e2; omega
      · exact e2.2.2 e
    · simp only [World.setCell, Array.size_modify]
      omega
    · rcases hv with e | e
      · rw [e]; exact hq.2
      · rw [e]
        intro e'
        injection e' with e'
        rcases hq.1 with e2 | e2
        · have := h.old _ e2; omega
        · omega
    · rcases hq.1 with e2 | e2
      · have := h.old _ e2
        simp only [World.setCell, Array.size_modify]
        omega
      · exact e2.2.1
theorem Cpf.start1 (hS : ∀ k, S k → k < wE.heap.size) (hb : Below wE.heap.size wE W) (hr : RowG srtN 37 wE.heap.size W S s es) : Cpf S wE W.heap.size rt (W.alloc (.cells #[s, .int .i64 rt] 24)) s es :=
  ⟨hS, hb.alloc hb.size _, hb.size, Blk.new' _ _ _ rfl, fun e => by have := (hr.block e).2; omega,
    (hr.keep (F := fun _ => False) ((Keeps.refl _ W).alloc _) (fun _ e _ => e.elim)).wide (fun k hk => ⟨.inl hk, fun e => by have := (hr.block e).1; have := hS k hk; omega⟩) (fun k hk => ⟨by
      have := hb.size
      rcases hk.1 with e | e
      · have := hS k e; simp; omega
      · exact e.2.1, hk.2⟩)⟩
theorem Cpf.start2 {a b : Value} (hS : ∀ k, S k → k < wE.heap.size) (hb : Below wE.heap.size wE W) (hr : RowG srtN 37 wE.heap.size W S s es) (hlo : wE.heap.size ≤ bo) (ho : Blk W bo (.cells #[a, b] 24 (0, 0))) (hne : s.ownBlock ≠ some bo) : Cpf S wE bo rt ((W.setCell ⟨bo, 0, none⟩ s).setCell ⟨bo, 1, none⟩ (.int .i64 rt)) s es := by
  have k3 : Keeps (fun k => k = bo) W ((W.setCell ⟨bo, 0, none⟩ s).setCell ⟨bo, 1, none⟩ (.int .i64 rt)) := ((Keeps.refl (fun k => k = bo) W).setCell (p := ⟨bo, 0, none⟩) (fun _ => rfl) _).setCell (p := ⟨bo, 1, none⟩) (fun _ => rfl) _
  refine ⟨hS, (hb.setCell hlo _).setCell hlo _, hlo, (ho.set 0 s).set 1 _, hne, (hr.keep (F := fun k => k = bo) k3 (fun k e _ => ⟨fun e' => hne (e ▸ e'), fun e' => by have := hS k e'; omega⟩)).wide (fun k hk => ⟨.inl hk, fun e => by have := (hr.block e).1; have := hS k hk; omega⟩) (fun k hk => ⟨?_, hk.2⟩)⟩
  have := hb.size
  rcases hk.1 with e | e
  · have := hS k e
    simp only [World.setCell, Array.size_modify]
    omega
  · exact e.2.1
end
theorem at_world {G : World → Prop} (P : World → Prop) {W0 : World} (h : P W0) (k : ∀ W, P W → G W) : G W0 := k W0 h
end Go.Proofs.Ytnhdgndjpkdhdaa

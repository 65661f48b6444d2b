/-
  gen.fresh: plain facts, and the row of nodes under way.
-/
import Derived.Test.YtnhdgndjpkdhdaaNGenr
import Derived.Test.YtnhdgndjpkdhdaaDRen
namespace Go.Proofs.Ytnhdgndjpkdhdaa
open Go.RowKit

def RNd.ren (f : Nat → Nat) (x : RNd) : RNd := { x with args := x.args.map fun z => ((f z.toNat : Nat) : Int) }
/-- What becomes of a node, once k of the copied ones have got their copies' numbers. -/
def toK (N : Nat) (C : List Nat) (k x : Nat) : Nat := if x ∈ C.take k then N + C.idxOf x else x
def RGr.freshOf (g : RGr) (C : List Nat) : RGr := ⟨g.nodes ++ C.map fun a => (g.nd a).ren (toK g.nodes.length C C.length), ((toK g.nodes.length C C.length g.root.toNat : Nat) : Int)⟩
theorem toK_zero (N : Nat) (C : List Nat) : toK N C 0 = fun x => x := by
  funext x; simp [toK]
theorem toK_step {N : Nat} {C : List Nat} (hn : C.Nodup) (k : Nat) (hk : k < C.length) (i : Nat) : toK N C (k + 1) i = if i = C[k] then N + k else toK N C k i := by
  unfold toK
  rw [List.take_add_one, List.getElem?_eq_getElem hk]
  simp only [Option.toList_some, List.mem_append, List.mem_singleton]
  by_cases e : i = C[k]
  · rw [if_pos (.inr e), if_pos e, e, hn.idxOf_getElem k hk]
  · rw [if_neg e]
    simp [e]
theorem ren_id {g : RGr} (h : g.ok = true) (a : Nat) (ha : a < g.nodes.length) : (g.nd a).ren (fun x => x) = g.nd a := by
  rw [g.nd_eq a ha]
  have := fa_args h a ha
  obtain ⟨X, hX⟩ : ∃ X, X = g.nodes[a] := ⟨_, rfl⟩
  rw [← hX] at this ⊢
  obtain ⟨k, n, ar, l, o⟩ := X
  have h2 : ar = (g.fa a).map Int.ofNat := this
  subst h2
  unfold RNd.ren
  simp only [RNd.mk.injEq, true_and, and_true, List.map_map]
  apply List.map_congr_left
  intro z _
  simp
theorem ren_hin {g : RGr} (h : g.ok = true) (a : Nat) (ha : a < g.nodes.length) (f : Nat → Nat) : ∀ k (hk : k < (g.nd a).args.length), ∃ n : Nat, (g.nd a).args[k] = n ∧ ∃ hn : n < ((List.range g.nodes.length).map fun i => ((f i : Nat) : Int)).length, ((g.nd a).ren f).args[k]? = some ((List.range g.nodes.length).map fun i => ((f i : Nat) : Int))[n] := by
  intro k hk
  have h2 := ok_args h a ha ((g.nd a).args[k]) (by rw [← g.nd_eq a ha]; exact List.getElem_mem hk)
  obtain ⟨z, hz⟩ : ∃ z : Nat, (g.nd a).args[k] = (z : Int) := ⟨((g.nd a).args[k]).toNat, by omega⟩
  rw [hz] at h2
  refine ⟨z, hz, by simp; omega, ?_⟩
  show ((g.nd a).args.map _)[k]? = _
  rw [List.getElem?_map, List.getElem?_eq_getElem hk, hz]
  simp

/-- Nodes under way, in a row of the call's own; block b is written besides. -/
structure Frs (b base : Nat) (w4 W : World) (s : Value) (es : List RNd) : Prop where
  kp : Keeps (fun q => q = b ∨ base ≤ q) w4 W
  lt : b < base
  sz : base ≤ W.heap.size
  row : RowG srtN 37 base W (fun q => New base W q ∧ s.ownBlock ≠ some q) s es
section
variable {b base : Nat} {w4 W W6 W8 : World} {s s' v : Value} {es : List RNd} {x : RNd} {o : Obj}
theorem Frs.row7 (h : Frs b base w4 W s es) (hb : Below W.heap.size W W6) (o : Obj) : RowG srtN 37 base (W6.alloc o) (fun q => New base W6 q ∧ s.ownBlock ≠ some q) s es :=
  (h.row.keep (F := fun _ => False) ((Keeps.of_below0 hb).alloc o) (fun _ e _ => e.elim)).wide (fun _ hk => ⟨hk.1.of hb, hk.2⟩) (fun _ hk => ⟨by have := hk.1.2.1; simp; omega, hk.2⟩)
theorem Frs.item7 (h : Frs b base w4 W s es) (o : Obj) (hv : NdV W6 (New W.heap.size W6) x v) : NdV (W6.alloc o) (fun q => New base W6 q ∧ s.ownBlock ≠ some q) x v :=
  hv.keep (fun q hq => ⟨⟨hq.mono h.sz, fun e => by have := (h.row.block e).2; have := hq.1; omega⟩, Below.heap_alloc _ _ _ hq.2.1⟩)
theorem Frs.step (h : Frs b base w4 W s es) (hb : Below W.heap.size W W6) (hr : RowG srtN 37 base W8 (fun q => New base W6 q ∧ s.ownBlock ≠ some q) s' (es ++ [x])) (hk : Keeps (fun k => s.ownBlock = some k) (W6.alloc o) W8)
    (hv : s'.ownBlock = s.ownBlock ∨ s'.ownBlock = some (W6.alloc o).heap.size) : Frs b base w4 W8 s' (es ++ [x]) := by
  have z6 := hb.size
  have z8 := hk.size
  have hs : ∀ q, s.ownBlock = some q → base ≤ q := fun q e => (h.row.block e).1
  have hz := h.sz
  have k1 : Keeps (fun _ => False) W (W6.alloc o) := (Keeps.of_below0 hb).alloc o
  refine ⟨h.kp.trans ((k1.mono (fun _ _ e => e.elim)).trans (hk.mono (fun q _ e => .inr (hs q e)))), h.lt, by simp only [World.size_alloc] at z8; omega, hr.wide (fun q hq => ⟨⟨hq.1.1, ?_, ?_⟩, ?_⟩) (fun q hq => ⟨hq.1.2.1, hq.2⟩)⟩
  · have := hq.1.2.1
    simp only [World.size_alloc] at z8
    omega
  · refine hq.1.2.2.of ((hk.block q (by have := hq.1.2.1; simp; omega) hq.2).trans (Below.heap_alloc _ _ _ hq.1.2.1))
  · rcases hv with e | e
    · rw [e]; exact hq.2
    · rw [e]
      intro e'
      simp only [World.size_alloc, Option.some.injEq] at e'
      have := hq.1.2.1
      omega
theorem Frs.num {N : Nat} {f : Nat → Nat} (h : Frs b base w4 W s es) (hb : Below W.heap.size W W6) (hk : Keeps (fun k => s.ownBlock = some k) (W6.alloc o) W8) (hn : NumAt W b N f) : NumAt W8 b N f := by
  have z6 := hb.size
  have hz := hn.lt
  have hl := h.lt
  exact (hk.block b (by simp; omega) (fun e => by have := (h.row.block e).1; omega)).trans ((Below.heap_alloc _ _ _ (by omega)).trans ((hb.block b hz).trans hn))
/-- Block b is written. -/
theorem Frs.poke (h : Frs b base w4 W s es) (j : Nat) (u : Value) : Frs b base w4 (W.setCell ⟨b, j, none⟩ u) s es := by
  have hl := h.lt
  have k3 : Keeps (fun k => k = b) W (W.setCell ⟨b, j, none⟩ u) := (Keeps.refl (fun k => k = b) W).setCell (p := ⟨b, j, none⟩) (fun _ => rfl) u
  refine ⟨h.kp.trans (k3.mono (fun _ _ e => .inl e)), hl, by simpa [World.setCell] using h.sz, (h.row.keep (F := fun k => k = b) k3 (fun k e _ => ⟨fun e' => by have := (h.row.block e').1; omega, fun e' => by have := e'.1.1; omega⟩)).wide (fun q hq => ⟨⟨hq.1.1, by simpa [World.setCell] using hq.1.2.1, hq.1.2.2.setCell _ _⟩, hq.2⟩) (fun q hq => ⟨hq.1.2.1, hq.2⟩)⟩
end
theorem makeRow0 (W : World) (N : Nat) (hN : N ≤ 4000000) : Sem.run Try.prog (Instr.makeSlice 22 (.int .i64 0) (.int .i64 N)) W = .ok (.slice (some ⟨W.heap.size, 0, none⟩) 0 N) (W.alloc (.cells (madeCells (Value.agg #[.int .i64 0, .string ⟨#[]⟩, .slice none 0 0, .slice none 0 0, .bool false]).cells (N * 5)) 37)) := by
  obtain ⟨i0, hi, hz0, hz1, hz2⟩ := info_parts infoNode
  have h := run_make (P := Try.prog) W 22 37 i0 _ Try.underlying22 hi hz0 .i64 .i64 0 N (by omega) (by omega) (by rw [hz2]; omega) (by omega)
  rw [hz1] at h
  simpa using h
theorem row0 (W : World) (N : Nat) (hN : N ≤ 4000000) : RowG srtN 37 W.heap.size (W.alloc (.cells (madeCells (Value.agg #[.int .i64 0, .string ⟨#[]⟩, .slice none 0 0, .slice none 0 0, .bool false]).cells (N * 5)) 37)) (fun _ => False) (.slice (some ⟨W.heap.size, 0, none⟩) 0 N) [] := by
  refine ⟨⟨[], ⟨by simp, .inr ⟨W.heap.size, N, _, rfl, Nat.le_refl _, heap_alloc_new W _, Nat.zero_le _, by unfold maxLen; omega, by simp [madeCells, srtN], by simp⟩⟩, rfl⟩, fun _ h => h.elim, fun _ h => h.elim⟩
end Go.Proofs.Ytnhdgndjpkdhdaa

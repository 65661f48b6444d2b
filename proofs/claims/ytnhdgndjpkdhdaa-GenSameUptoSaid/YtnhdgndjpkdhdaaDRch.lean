/-
  graph.reach under way: what its variables are, and what each of its steps does to them.
-/
import Derived.Test.YtnhdgndjpkdhdaaDStkM
namespace Go.Proofs.Ytnhdgndjpkdhdaa
open Go.RowKit

theorem own_blk {w : World} {base : Nat} {e : TypeId} {size n : Nat} {v : Value} {xs : List Value} (h : w.ownsRow base e size v n xs) {k : Nat} (hk : v.ownBlock = some k) : ∃ cur, w.heap[k]? = some (.cells cur e (0, 0)) := by
  rcases h.2 with ⟨rfl, _⟩ | ⟨g, cap, cur, rfl, _, hg, _⟩
  · simp [Value.ownBlock] at hk
  · simp [Value.ownBlock] at hk
    subst hk
    exact ⟨cur, hg⟩
theorem RowG.blk {α : Type} {T : Srt α} {t : TypeId} {base : Nat} {w : World} {S : Nat → Prop} {v : Value} {es : List α} (h : RowG T t base w S v es) {k : Nat} (hk : v.ownBlock = some k) : ∃ cur, w.heap[k]? = some (.cells cur t (0, 0)) := by
  obtain ⟨xs, h1, _⟩ := h.raw
  exact own_blk h1 hk

/-- reach under way: the graph in block n0, who was met in n0 + 1, the first list in n0 + 2, what is left in the variable of n0 + 4. -/
structure Rch (g : RGr) (S : Nat → Prop) (A : Option Addr) (cN : Nat) (w0 : World) (W : World) (s v : Value) (out : List Nat) (st : List (List Nat)) : Prop where
  bel : Below w0.heap.size w0 W
  size : w0.heap.size + 5 ≤ W.heap.size
  gb : Blk W w0.heap.size (.cells #[.slice A g.nodes.length cN, .int .i64 g.root] 24 (0, 0))
  met : MetAt W (w0.heap.size + 1) g.nodes.length out
  ord : RowG srtI 3 (w0.heap.size + 5) W (fun _ => False) s (out.map Int.ofNat)
  lft : LeftAt (w0.heap.size + 3) W (fun k => S k ∨ k = w0.heap.size + 2) (w0.heap.size + 4) v (st.map (List.map Int.ofNat))

section
variable {g : RGr} {S : Nat → Prop} {A : Option Addr} {cN : Nat} {w0 W W1 W6 : World} {s v s' v' : Value} {out : List Nat} {st st' : List (List Nat)} {x : Nat}
theorem Rch.sv (h : Rch g S A cN w0 W s v out st) {k : Nat} (hk : s.ownBlock = some k) : v.ownBlock ≠ some k := by
  intro e
  obtain ⟨c1, h1⟩ := h.ord.blk hk
  obtain ⟨c2, h2⟩ := h.lft.row.blk e
  rw [h1] at h2
  injection h2 with h2
  injection h2 with _ h2
  revert h2
  decide
theorem Rch.pushed (l : List Nat) : (G.pushR st l).map (List.map Int.ofNat) = G.pushR (st.map (List.map Int.ofNat)) (l.map Int.ofNat) := by
  unfold G.pushR
  cases l <;> simp
theorem Rch.taken (h : Rch g S A cN w0 W s v out st) (hl : LeftAt (w0.heap.size + 3) W1 (fun k => S k ∨ k = w0.heap.size + 2) (w0.heap.size + 4) v' (st'.map (List.map Int.ofNat))) (hk : Keeps (Own (w0.heap.size + 4) v) W W1) : Rch g S A cN w0 W1 s v' out st' := by
  have hv : ∀ k, v.ownBlock = some k → w0.heap.size + 3 ≤ k := fun k e => (h.lft.row.block e).1
  have hz := h.size
  refine ⟨?_, Nat.le_trans h.size hk.size, ?_, ?_, ?_, hl⟩
  · exact h.bel.trans (hk.below (Nat.le_trans (by omega) h.size) (fun i hi e => by rcases e with e | e; omega; have := hv i e; omega))
  · exact (hk.block _ (by omega) (fun e => by rcases e with e | e; omega; have := hv _ e; omega)).trans h.gb
  · exact (hk.block _ (by omega) (fun e => by rcases e with e | e; omega; have := hv _ e; omega)).trans h.met
  · refine h.ord.keep hk (fun k e _ => ⟨fun e' => ?_, id⟩)
    rcases e with e | e
    · have := (h.ord.block e').1; omega
    · exact h.sv e' e
theorem Rch.marked (h : Rch g S A cN w0 W s v out st) (hS : ∀ k, S k → k < w0.heap.size) (hW : W1 = (W.setCell ⟨w0.heap.size + 1, x, none⟩ (.bool true)).alloc (.cells #[.int .i64 x] 3)) (hr : RowG srtI 3 (w0.heap.size + 5) W6 (fun _ => False) s' (out.map Int.ofNat ++ [(x : Int)]))
    (hk : Keeps (fun k => s.ownBlock = some k) W1 W6) : Rch g S A cN w0 W6 s' v (out ++ [x]) st := by
  have hz := h.size
  have hs : ∀ k, s.ownBlock = some k → w0.heap.size + 5 ≤ k := fun k e => (h.ord.block e).1
  have hv : ∀ k, v.ownBlock = some k → w0.heap.size + 3 ≤ k := fun k e => (h.lft.row.block e).1
  have k1 : Keeps (fun k => k = w0.heap.size + 1) W W1 := by rw [hW]; exact ((Keeps.refl (fun k => k = w0.heap.size + 1) W).setCell (p := ⟨w0.heap.size + 1, x, none⟩) (fun _ => rfl) _).alloc _
  have k2 : Keeps (fun k => k = w0.heap.size + 1 ∨ s.ownBlock = some k) W W6 := (k1.mono (fun i _ e => .inl e)).trans (hk.mono (fun i _ e => .inr e))
  refine ⟨?_, Nat.le_trans h.size k2.size, ?_, ?_, by rw [List.map_append]; exact hr, ?_, ?_, ?_⟩
  · exact h.bel.trans (k2.below (by omega) (fun i hi e => by rcases e with e | e; omega; have := hs i e; omega))
  · exact (k2.block _ (by omega) (fun e => by rcases e with e | e; omega; have := hs _ e; omega)).trans h.gb
  · have h1 : MetAt (W.setCell ⟨w0.heap.size + 1, x, none⟩ (.bool true)) (w0.heap.size + 1) g.nodes.length (out ++ [x]) := h.met.set x
    refine (hk.block _ (Nat.lt_of_lt_of_le (by omega) k1.size) (fun e => by have := hs _ e; omega)).trans ?_
    rw [hW]
    exact (Below.heap_alloc _ _ _ (by simp [World.setCell]; omega)).trans h1
  · exact h.lft.box.keep k2 (fun e => by rcases e with e | e; omega; have := hs _ e; omega)
  · refine h.lft.row.keep k2 (fun k e _ => ⟨fun e' => ?_, fun e' => ?_⟩)
    · rcases e with e | e
      · have := hv k e'; omega
      · exact h.sv e e'
    · rcases e' with e' | e'
      · have := hS k e'
        rcases e with e | e
        · omega
        · have := hs k e; omega
      · rcases e with e | e
        · omega
        · have := hs k e; omega
  · exact h.lft.apart
theorem Rch.pushedL {l : List Nat} {o : Obj} (h : Rch g S A cN w0 W s v out st) (hS : ∀ k, S k → k < w0.heap.size) (hr : RowG srtL 25 (w0.heap.size + 3) W6 (fun k => S k ∨ k = w0.heap.size + 2) v' (st.map (List.map Int.ofNat) ++ [l.map Int.ofNat]))
    (hk : Keeps (fun k => v.ownBlock = some k) (W.alloc o) W6) (hv' : v'.ownBlock = v.ownBlock ∨ v'.ownBlock = some (W.alloc o).heap.size) : Rch g S A cN w0 (W6.setCell ⟨w0.heap.size + 4, 0, none⟩ v') s v' out (st ++ [l]) := by
  have hz := h.size
  have hn : v'.ownBlock ≠ some (w0.heap.size + 4) := by
    rcases hv' with e | e
    · rw [e]; exact h.lft.ne
    · rw [e]; simp; omega
  have k1 : Keeps (fun k => v.ownBlock = some k) W W6 := ((Keeps.refl _ W).alloc o).trans hk
  have k2 : Keeps (Own (w0.heap.size + 4) v) W (W6.setCell ⟨w0.heap.size + 4, 0, none⟩ v') := (k1.mono (fun i _ e => .inr e)).setCell (p := ⟨w0.heap.size + 4, 0, none⟩) (fun _ => .inl rfl) _
  refine h.taken ⟨(h.lft.box.keep k1 (fun e => h.lft.ne e)).set _, ?_, ?_⟩ k2
  · rw [List.map_append]
    refine hr.keep (F := fun k => k = w0.heap.size + 4) ((Keeps.refl (fun k => k = w0.heap.size + 4) _).setCell (p := ⟨w0.heap.size + 4, 0, none⟩) (fun _ => rfl) _) (fun k e _ => ⟨fun e' => hn (e ▸ e'), fun e' => ?_⟩)
    rcases e' with e' | e'
    · have := hS k e'; omega
    · omega
  · exact h.lft.apart
/-- How reach begins. -/
theorem Rch.start (hx : g.root = (x : Int)) (hS : ∀ k, S k → k < w0.heap.size) (hw : W = ((((w0.alloc (.cells #[.slice A g.nodes.length cN, .int .i64 g.root] 24)).alloc (.cells (metCells g.nodes.length []) 4)).alloc (.cells #[.int .i64 g.root] 3)).alloc (.cells #[.slice (some ⟨w0.heap.size + 2, 0, none⟩) 1 1] 25)).alloc (.cells #[.slice (some ⟨w0.heap.size + 3, 0, none⟩) 1 1] 86)) :
    Rch g S A cN w0 W (.slice none 0 0) (.slice (some ⟨w0.heap.size + 3, 0, none⟩) 1 1) [] [[x]] := by
  subst hw
  have b2 : Blk (((((w0.alloc (.cells #[.slice A g.nodes.length cN, .int .i64 g.root] 24)).alloc (.cells (metCells g.nodes.length []) 4)).alloc (.cells #[.int .i64 g.root] 3)).alloc (.cells #[.slice (some ⟨w0.heap.size + 2, 0, none⟩) 1 1] 25)).alloc (.cells #[.slice (some ⟨w0.heap.size + 3, 0, none⟩) 1 1] 86)) (w0.heap.size + 2) (.cells #[.int .i64 g.root] 3) :=
    ((Blk.new' _ _ _ (by simp)).alloc _).alloc _
  have b3 : Blk (((((w0.alloc (.cells #[.slice A g.nodes.length cN, .int .i64 g.root] 24)).alloc (.cells (metCells g.nodes.length []) 4)).alloc (.cells #[.int .i64 g.root] 3)).alloc (.cells #[.slice (some ⟨w0.heap.size + 2, 0, none⟩) 1 1] 25)).alloc (.cells #[.slice (some ⟨w0.heap.size + 3, 0, none⟩) 1 1] 86)) (w0.heap.size + 3) (.cells #[.slice (some ⟨w0.heap.size + 2, 0, none⟩) 1 1] 25) :=
    (Blk.new' _ _ _ (by simp)).alloc _
  refine ⟨(((((Below.refl _ w0).alloc (Nat.le_refl _) _).alloc (by simp) _).alloc (by simp; omega) _).alloc (by simp; omega) _).alloc (by simp; omega) _, by simp, ?_, ?_, RowG.nil _ _ _, ?_, ⟨⟨[.slice (some ⟨w0.heap.size + 2, 0, none⟩) 1 1], ⟨rfl, .inr ⟨w0.heap.size + 3, 1, _, rfl, Nat.le_refl _, b3, by simp, by unfold maxLen; omega, by simp [srtL], by simp [srtL]⟩⟩, ?_⟩, ?_, ?_⟩, ?_⟩
  · exact ((((Blk.new' _ _ _ rfl).alloc _).alloc _).alloc _).alloc _
  · exact (((Blk.new' _ _ _ (by simp)).alloc _).alloc _).alloc _
  · exact Blk.new' _ _ _ (by simp)
  · exact Items.one srtL (a := [(x : Int)]) (v := .slice (some ⟨w0.heap.size + 2, 0, none⟩) 1 1) ⟨by simp, some ⟨w0.heap.size + 2, 0, none⟩, 1, rfl, by simp, by unfold maxLen; omega, w0.heap.size + 2, 0, rfl,   .inr rfl, (by rw [← hx]; exact b2.cells.1 0), trivial⟩
  · intro k hk e
    simp [Value.ownBlock] at e
    rcases hk with hk | hk
    · have := hS k hk; omega
    · omega
  · intro k hk
    simp only [World.size_alloc]
    rcases hk with hk | hk
    · have := hS k hk; omega
    · omega
  · rintro (hk | hk)
    · have := hS _ hk; omega
    · omega
end
end Go.Proofs.Ytnhdgndjpkdhdaa

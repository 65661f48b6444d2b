/-
  Blocks that no string shares: what a call has laid anew may be written.
-/
import Derived.Test.YtnhdgndjpkdhdaaGCopy
import Derived.Test.YtnhdgndjpkdhdaaGNds
namespace Go.Proofs.Ytnhdgndjpkdhdaa
open Go.RowKit

def Thaw (W : World) (k : Nat) : Prop := ∀ j, W.frozen? ⟨k, j, none⟩ = false
/-- What was laid between two worlds. -/
def New (B : Nat) (W : World) (k : Nat) : Prop := B ≤ k ∧ k < W.heap.size ∧ Thaw W k
theorem Thaw.of {w W : World} {k : Nat} (h : Thaw w k) (e : W.heap[k]? = w.heap[k]?) : Thaw W k := fun j => (World.frozen?_of_block (a := ⟨k, j, none⟩) e).trans (h j)
theorem Thaw.setCell {w : World} {k : Nat} (h : Thaw w k) (p : Addr) (u : Value) : Thaw (w.setCell p u) k := fun j => by rw [World.frozen?_setCell]; exact h j
theorem New.of {B : Nat} {w W : World} {k : Nat} (h : New B w k) (hb : Below w.heap.size w W) : New B W k := ⟨h.1, Nat.lt_of_lt_of_le h.2.1 hb.size, h.2.2.of (hb.block k h.2.1)⟩
theorem New.mono {B C : Nat} {w : World} {k : Nat} (h : New B w k) (hb : C ≤ B) : New C w k := ⟨Nat.le_trans hb h.1, h.2⟩
theorem RowG.thaw {α : Type} {T : Srt α} {t : TypeId} {base : Nat} {w : World} {S : Nat → Prop} {v : Value} {es : List α} (h : RowG T t base w S v es) {k : Nat} (hk : v.ownBlock = some k) : Thaw w k := by
  obtain ⟨xs, h1, _⟩ := h.raw
  rcases h1.2 with ⟨h', _⟩ | ⟨g', cap', cur, h', _, hg, _⟩
  · rw [h'] at hk; simp [Value.ownBlock] at hk
  · rw [h'] at hk
    simp [Value.ownBlock] at hk
    subst hk
    exact fun j => frozen_of_row w g' j cur _ hg
section
variable {t : TypeId} {base : Nat} {w : World} {S S' : Nat → Prop} {v : Value}
theorem RowG.intsT {es : List Int} (h : RowG srtI t base w S v es) (hS : ∀ k, S k → S' k) (hn : ∀ k, base ≤ k → k < w.heap.size → Thaw w k → S' k) :
    ∃ A cap, v = .slice A es.length cap ∧ es.length ≤ cap ∧ cap ≤ maxLen ∧ IntsO w S' es A := by
  obtain ⟨A, cap, h1, h2, h3, h4⟩ := h.shut
  refine ⟨A, cap, h1, h2, h3, ?_⟩
  rcases h4 with rfl | ⟨g, xs, rfl, hb, hl, hc, hi⟩
  · unfold IntsO; trivial
  · exact intsO_of (hn g hb hl (h.thaw (by rw [h1]; rfl))) _ _ 0 (Items.keep _ (fun k hs => ⟨hS k hs, rfl⟩) _ _ hi) hc
theorem RowG.strsT {es : List ByteArray} (h : RowG srtS t base w S v es) (hS : ∀ k, S k → S' k) (hn : ∀ k, base ≤ k → k < w.heap.size → Thaw w k → S' k) :
    ∃ A cap, v = .slice A es.length cap ∧ es.length ≤ cap ∧ cap ≤ maxLen ∧ StrsO w S' es A := by
  obtain ⟨A, cap, hv, h1, h2, h3⟩ := h.shut
  refine ⟨A, cap, hv, h1, h2, ?_⟩
  rcases h3 with rfl | ⟨g, xs, rfl, hb, hg, hc, hi⟩
  · exact trivial
  · exact strsO_of (hn g hb hg (h.thaw (by rw [hv]; rfl))) _ _ 0 (Items.keep srtS (fun k hk => ⟨hS k hk, rfl⟩) _ _ hi) hc
theorem RowG.ndsT {es : List RNd} (h : RowG srtN t base w S v es) (hS : ∀ k, S k → S' k) (hn : ∀ k, base ≤ k → k < w.heap.size → Thaw w k → S' k) :
    ∃ A cap, v = .slice A es.length cap ∧ es.length ≤ cap ∧ cap ≤ maxLen ∧ NdsO w S' es A := by
  obtain ⟨A, cap, hv, h1, h2, h3⟩ := h.shut
  refine ⟨A, cap, hv, h1, h2, ?_⟩
  rcases h3 with rfl | ⟨g, xs, rfl, hb, hg, hc, hi⟩
  · exact trivial
  · exact ndsO_of (hn g hb hg (h.thaw (by rw [hv]; rfl))) _ _ 0 (Items.keep srtN (fun k hk => ⟨hS k hk, rfl⟩) _ _ hi) hc
end
theorem Cpy.doneT {wB W W' : World} {o B k sc c6 : Nat} {x : RNd} {A6 sA : Option Addr} {ys : List Int} (h : Cpy wB W o x A6 c6 (.slice sA k sc) ys) (hk : Keeps (fun k => k < wB.heap.size) W W') (hB : B ≤ wB.heap.size) (hn : x.name.size ≤ maxLen) :
    NdV W' (New B W') ⟨x.kind, x.name, ys, x.labels, x.op⟩ (.agg #[.int .i64 x.kind, .string x.name, .slice sA k sc, .slice A6 x.labels.length c6, .bool x.op]) := by
  have h1 := h.row.keep hk (fun i e _ => ⟨fun e' => by have := (h.row.block e').1; omega, id⟩)
  have h2 := h.lab.keep hk (fun i e _ => ⟨fun e' => by have := (h.lab.block e').1; omega, id⟩)
  obtain ⟨a, c, e1, q1, q2, q3⟩ := h1.intsT (S' := New B W') (fun _ e => e.elim) (fun i hi hj ht => ⟨by omega, hj, ht⟩)
  obtain ⟨a', c', e2, r1, r2, r3⟩ := h2.strsT (S' := New B W') (fun _ e => e.elim) (fun i hi hj ht => ⟨by omega, hj, ht⟩)
  simp only [Value.slice.injEq] at e1 e2
  obtain ⟨rfl, rfl, rfl⟩ := e1
  obtain ⟨rfl, _, rfl⟩ := e2
  exact ⟨_, _, _, _, rfl, hn, q1, q2, r1, r2, q3, r3⟩
end Go.Proofs.Ytnhdgndjpkdhdaa

/-
  Trees as they lie in memory. 'Ty', 'Ex', 'Mm': a type, an expression, a member, as plain trees. 'TyV w S t v': the value v reads as t in the world w, all memory that it leads to lies in blocks of S.
  'Keeps T w w'': of the blocks that were there, those outside T are as they were.
-/
import Derived.WalkKit
import Derived.Below
import Derived.Laws.OwnMore
import Derived.Deep.Draws
namespace Go.Proofs.Ytnhdgndjpkdhdaa
open Go.RowKit

/-- The blocks that were there and are not of T are as they were. -/
structure Keeps (T : Nat → Prop) (w w' : World) : Prop where
  os : w'.os = w.os
  tape : w'.tape = w.tape
  output : w'.output = w.output
  size : w.heap.size ≤ w'.heap.size
  block : ∀ k, k < w.heap.size → ¬ T k → w'.heap[k]? = w.heap[k]?

namespace Keeps
variable {T T' : Nat → Prop} {a b c w w' : World}
theorem refl (T : Nat → Prop) (w : World) : Keeps T w w := ⟨rfl, rfl, rfl, Nat.le_refl _, fun _ _ _ => rfl⟩
theorem trans' (h : Keeps T a b) (k : Keeps T' b c) (hs : ∀ i, i < a.heap.size → T' i → T i) : Keeps T a c :=
  ⟨k.os.trans h.os, k.tape.trans h.tape, k.output.trans h.output, Nat.le_trans h.size k.size, fun i hi hn => (k.block i (Nat.lt_of_lt_of_le hi h.size) (fun e => hn (hs i hi e))).trans (h.block i hi hn)⟩
theorem trans (h : Keeps T a b) (k : Keeps T b c) : Keeps T a c := h.trans' k (fun _ _ e => e)
theorem mono (h : Keeps T a b) (hs : ∀ i, i < a.heap.size → T i → T' i) : Keeps T' a b := (refl T' a).trans' h hs
theorem of_below {B : Nat} (h : Below B w w') (hB : ∀ i, i < w.heap.size → ¬ T i → i < B) : Keeps T w w' :=
  ⟨h.os, h.tape, h.output, h.size, fun k hk hn => h.block k (hB k hk hn)⟩
theorem of_below0 (h : Below w.heap.size w w') : Keeps T w w' := of_below h (fun _ hi _ => hi)
theorem below {B : Nat} (h : Keeps T w w') (hB : B ≤ w.heap.size) (hT : ∀ i, i < B → ¬ T i) : Below B w w' :=
  ⟨h.os, h.tape, h.output, h.size, fun k hk => h.block k (by omega) (hT k hk)⟩
theorem drew (h : Keeps T a w) : Keeps T a w.drew := ⟨h.os, h.tape, h.output, h.size, h.block⟩
theorem drewN (h : Keeps T a w) (n : Nat) : Keeps T a (w.drewN n) := ⟨h.os, h.tape, h.output, h.size, h.block⟩
theorem alloc (h : Keeps T a w) (o : Obj) : Keeps T a (w.alloc o) :=
  h.trans ⟨rfl, rfl, rfl, by simp, fun k hk _ => Below.heap_alloc _ _ _ hk⟩
theorem setCell (h : Keeps T a w) {p : Addr} (hp : p.block < a.heap.size → T p.block) (u : Value) : Keeps T a (w.setCell p u) :=
  ⟨h.os, h.tape, h.output, by have := h.size; simpa [World.setCell] using this, fun k hk hn => (Below.heap_setCell _ _ _ _ (fun e => by subst e; exact hn (hp hk))).trans (h.block k hk hn)⟩
theorem grown {row : Option Nat} (h : Keeps T a w) (hg : w.grownBy w' row) (hr : ∀ k, row = some k → k < a.heap.size → T k) : Keeps T a w' :=
  ⟨hg.os.trans h.os, hg.tape.trans h.tape, hg.output.trans h.output, Nat.le_trans h.size hg.size,
    fun k hk hn => (hg.block k (Nat.lt_of_lt_of_le hk h.size) (fun e => hn (hr k e.symm hk))).trans (h.block k hk hn)⟩
theorem cell (h : Keeps T w w') {p : Addr} {v : Value} (hp : ¬ T p.block) (hc : w.cell? p = some v) : w'.cell? p = some v :=
  (World.cell?_of_block (h.block p.block (World.block_lt_of_cell? w p hc) hp)).trans hc
theorem own {e : TypeId} {size n base : Nat} {v : Value} {xs : List Value} (h : Keeps T w w') (ho : w.ownsRow base e size v n xs) (hv : ∀ k, v.ownBlock = some k → ¬ T k) : w'.ownsRow base e size v n xs := by
  refine ⟨ho.1, ?_⟩
  rcases ho.2 with hn | ⟨g, cap, cur, rfl, hb, hgg, rest⟩
  · exact .inl hn
  · refine .inr ⟨g, cap, cur, rfl, hb, ?_, rest⟩
    rw [h.block g (Array.getElem?_eq_some_iff.1 hgg).1 (hv g rfl)]
    exact hgg
end Keeps

inductive Ty where
  | mk (k : Int) (s : ByteArray) (args : List Ty) (labels : List ByteArray) (op : Bool)

mutual
inductive Ex where
  | mk (k : Int) (s : ByteArray) (n : Int) (args : List Ex) (names : List ByteArray) (types : List Ty) (mems : List Mm)
inductive Mm where
  | mk (k : Int) (name as' : ByteArray) (args : List Ex) (types : List Ty)
end

/-- The cells of a value stand from offset o on in block b. -/
def CellsAt (w : World) (b o : Nat) (v : Value) : Prop := ∀ j u, v.cells[j]? = some u → w.cell? ⟨b, o + j, none⟩ = some u

/-- Texts in a row. -/
def StrsO (w : World) (S : Nat → Prop) : List ByteArray → Option Addr → Prop
  | [], _ => True
  | s :: r, A => ∃ b o, A = some ⟨b, o, none⟩ ∧ S b ∧ w.cell? ⟨b, o, none⟩ = some (.string s) ∧ s.size ≤ maxLen ∧ StrsO w S r (some ⟨b, o + 1, none⟩)

mutual
def TyV (w : World) (S : Nat → Prop) : Ty → Value → Prop
  | .mk k s args labels op, v => ∃ aA cA aL cL, v = .agg #[.int .i64 k, .string s, .slice aA args.length cA, .slice aL labels.length cL, .bool op] ∧ s.size ≤ maxLen ∧
      args.length ≤ cA ∧ cA ≤ maxLen ∧ labels.length ≤ cL ∧ cL ≤ maxLen ∧ TysO w S args aA ∧ StrsO w S labels aL
def TysO (w : World) (S : Nat → Prop) : List Ty → Option Addr → Prop
  | [], _ => True
  | t :: r, A => ∃ b o v, A = some ⟨b, o, none⟩ ∧ S b ∧ CellsAt w b o v ∧ TyV w S t v ∧ TysO w S r (some ⟨b, o + 5, none⟩)
end

mutual
def ExV (w : World) (S : Nat → Prop) : Ex → Value → Prop
  | .mk k s n args names types mems, v => ∃ aA cA aN cN aT cT aM cM, v = .agg #[.int .i64 k, .string s, .int .i64 n, .slice aA args.length cA, .slice aN names.length cN, .slice aT types.length cT, .slice aM mems.length cM] ∧
      s.size ≤ maxLen ∧ args.length ≤ cA ∧ cA ≤ maxLen ∧ names.length ≤ cN ∧ cN ≤ maxLen ∧ types.length ≤ cT ∧ cT ≤ maxLen ∧ mems.length ≤ cM ∧ cM ≤ maxLen ∧
      ExsO w S args aA ∧ StrsO w S names aN ∧ TysO w S types aT ∧ MmsO w S mems aM
def ExsO (w : World) (S : Nat → Prop) : List Ex → Option Addr → Prop
  | [], _ => True
  | t :: r, A => ∃ b o v, A = some ⟨b, o, none⟩ ∧ S b ∧ CellsAt w b o v ∧ ExV w S t v ∧ ExsO w S r (some ⟨b, o + 7, none⟩)
def MmV (w : World) (S : Nat → Prop) : Mm → Value → Prop
  | .mk k name as' args types, v => ∃ aA cA aT cT, v = .agg #[.int .i64 k, .string name, .string as', .slice aA args.length cA, .slice aT types.length cT] ∧
      name.size ≤ maxLen ∧ as'.size ≤ maxLen ∧ args.length ≤ cA ∧ cA ≤ maxLen ∧ types.length ≤ cT ∧ cT ≤ maxLen ∧ ExsO w S args aA ∧ TysO w S types aT
def MmsO (w : World) (S : Nat → Prop) : List Mm → Option Addr → Prop
  | [], _ => True
  | t :: r, A => ∃ b o v, A = some ⟨b, o, none⟩ ∧ S b ∧ CellsAt w b o v ∧ MmV w S t v ∧ MmsO w S r (some ⟨b, o + 5, none⟩)
end

section
variable {w w' : World} {S S' : Nat → Prop}
theorem CellsAt.keep {b o : Nat} {v : Value} (h : w'.heap[b]? = w.heap[b]?) (hc : CellsAt w b o v) : CellsAt w' b o v :=
  fun j u hu => (World.cell?_of_block (a := ⟨b, o + j, none⟩) h).trans (hc j u hu)

variable (hS : ∀ k, S k → S' k ∧ w'.heap[k]? = w.heap[k]?)
include hS
theorem StrsO.keep : ∀ (l : List ByteArray) (A : Option Addr), StrsO w S l A → StrsO w' S' l A
  | [], _, _ => trivial
  | _ :: r, _, ⟨b, o, hA, hb, hc, hl, hr⟩ => ⟨b, o, hA, (hS b hb).1, (World.cell?_of_block (a := ⟨b, o, none⟩) (hS b hb).2).trans hc, hl, StrsO.keep r _ hr⟩

mutual
theorem TyV.keep : ∀ (t : Ty) (v : Value), TyV w S t v → TyV w' S' t v
  | .mk _ _ args labels _, _, h => by
    unfold TyV at h ⊢
    obtain ⟨aA, cA, aL, cL, hv, h1, h2, h3, h4, h5, h6, h7⟩ := h
    exact ⟨aA, cA, aL, cL, hv, h1, h2, h3, h4, h5, TysO.keep args _ h6, StrsO.keep hS labels _ h7⟩
theorem TysO.keep : ∀ (l : List Ty) (A : Option Addr), TysO w S l A → TysO w' S' l A
  | [], _, _ => by unfold TysO; trivial
  | t :: r, _, h => by
    unfold TysO at h ⊢
    obtain ⟨b, o, v, hA, hb, hc, ht, hr⟩ := h
    exact ⟨b, o, v, hA, (hS b hb).1, hc.keep (hS b hb).2, TyV.keep t _ ht, TysO.keep r _ hr⟩
end

mutual
theorem ExV.keep : ∀ (t : Ex) (v : Value), ExV w S t v → ExV w' S' t v
  | .mk _ _ _ args names types mems, _, h => by
    unfold ExV at h ⊢
    obtain ⟨aA, cA, aN, cN, aT, cT, aM, cM, hv, h0, h1, h2, h3, h4, h5, h6, h7, h8, g1, g2, g3, g4⟩ := h
    exact ⟨aA, cA, aN, cN, aT, cT, aM, cM, hv, h0, h1, h2, h3, h4, h5, h6, h7, h8, ExsO.keep args _ g1, StrsO.keep hS names _ g2, TysO.keep hS types _ g3, MmsO.keep mems _ g4⟩
theorem ExsO.keep : ∀ (l : List Ex) (A : Option Addr), ExsO w S l A → ExsO w' S' l A
  | [], _, _ => by unfold ExsO; trivial
  | t :: r, _, h => by
    unfold ExsO at h ⊢
    obtain ⟨b, o, v, hA, hb, hc, ht, hr⟩ := h
    exact ⟨b, o, v, hA, (hS b hb).1, hc.keep (hS b hb).2, ExV.keep t _ ht, ExsO.keep r _ hr⟩
theorem MmV.keep : ∀ (t : Mm) (v : Value), MmV w S t v → MmV w' S' t v
  | .mk _ _ _ args types, _, h => by
    unfold MmV at h ⊢
    obtain ⟨aA, cA, aT, cT, hv, h1, h2, h3, h4, h5, h6, g1, g2⟩ := h
    exact ⟨aA, cA, aT, cT, hv, h1, h2, h3, h4, h5, h6, ExsO.keep args _ g1, TysO.keep hS types _ g2⟩
theorem MmsO.keep : ∀ (l : List Mm) (A : Option Addr), MmsO w S l A → MmsO w' S' l A
  | [], _, _ => by unfold MmsO; trivial
  | t :: r, _, h => by
    unfold MmsO at h ⊢
    obtain ⟨b, o, v, hA, hb, hc, ht, hr⟩ := h
    exact ⟨b, o, v, hA, (hS b hb).1, hc.keep (hS b hb).2, MmV.keep t _ ht, MmsO.keep r _ hr⟩
end
end

end Go.Proofs.Ytnhdgndjpkdhdaa

/-
  Pairs as keys: who was looked at.
-/
import Derived.Test.YtipehahfbcbigaaDAlike
import Derived.Maps.OwnSet
import Derived.DeepKeys4
namespace Go.Proofs.Ytipehahfbcbigaa
open Go.RowKit

theorem laidOut_ : laidOutB Try.prog = true := by kernel_rfl
theorem rowP : (71 : TypeId) < Try.prog.types.size := of_decide_eq_true (by kernel_rfl)
theorem wideP : (match Try.prog.underlying 71 with | some (.array _ _) | some (.struct _) => true | _ => false) = true := by kernel_rfl
theorem keyedP : Maps.Keyed Try.prog 71 := Maps.Keyed.of_law (deep_law_laid laidOut_ (m := 2) (by omega) rowP (by kernel_rfl) wideP)
theorem keyTypeP : Try.prog.keyType 71 = true := by kernel_rfl
theorem cellsP : Try.prog.cellsOf 71 = 2 := by kernel_rfl
theorem cellsI : Try.prog.cellsOf 3 = 1 := by kernel_rfl
theorem sizeT : ∃ n, Try.prog.types.size = n + 1 := ⟨Try.prog.types.size - 1, (Nat.succ_pred_eq_of_pos (Nat.lt_of_le_of_lt (Nat.zero_le _) rowP)).symm⟩
theorem wfI (a : Nat) (ha : a ≤ 4000000) : (Lit.int .i64 (a : Int)).wf = true := by
  simp [Lit.wf, IntKind.min, IntKind.max, IntKind.bits, IntKind.signed]
  omega
theorem keyLits_one (d : Nat) (a : Nat) (ha : a ≤ 4000000) : Try.prog.keyLits (d + 1) 3 [.int .i64 (a : Int)] = some [.int .i64 (a : Int)] := by
  unfold Program.keyLits
  rw [Try.underlying3]
  simp [wfI a ha]
theorem keyOf_pair (a b : Nat) (ha : a ≤ 4000000) (hb : b ≤ 4000000) : keyOf Try.prog 71 (.agg #[.int .i64 (a : Int), .int .i64 (b : Int)]) = some (.string (keyBytes [.int .i64 (a : Int), .int .i64 (b : Int)])) := by
  obtain ⟨n, hn⟩ := sizeT
  have h1 := keyLits_one n a ha
  have h2 := keyLits_one n b hb
  unfold keyOf
  rw [Try.underlying71]
  simp only [keyTypeP, Value.formed, Try.underlying71, cellsP]
  unfold Program.keyLits
  rw [Try.underlying71, hn]
  simp [cellsP, cellsI, Value.cells, h1, h2]

def pairV (q : Nat × Nat) : Value := .agg #[.int .i64 (q.1 : Int), .int .i64 (q.2 : Int)]
def pairL (q : Nat × Nat) : Lit := .string (keyBytes [.int .i64 (q.1 : Int), .int .i64 (q.2 : Int)])
def Small (q : Nat × Nat) : Prop := q.1 ≤ 4000000 ∧ q.2 ≤ 4000000
theorem keyOf_V {q : Nat × Nat} (h : Small q) : keyOf Try.prog 71 (pairV q) = some (pairL q) := keyOf_pair q.1 q.2 h.1 h.2
theorem pairL_inj {q q' : Nat × Nat} (h : Small q) (h' : Small q') (e : pairL q = pairL q') : q = q' := by
  have h1 := keyedP.inj (keyOf_V h) (by rw [e]; exact keyOf_V h')
  unfold pairV at h1
  simp at h1
  obtain ⟨a, b⟩ := q
  obtain ⟨c, d⟩ := q'
  simp at h1
  simp only [Prod.mk.injEq]
  omega
/-- Who was looked at, as a map's datum. -/
def setL (L : List (Nat × Nat)) : DataW Unit := L.foldl (fun D q => D.put (pairL q) (.agg [])) (.map [])
theorem setL_snoc (L : List (Nat × Nat)) (q : Nat × Nat) : setL (L ++ [q]) = (setL L).put (pairL q) (.agg []) := by simp [setL]
theorem gsnoc_ind {α : Type} {P : List α → Prop} (h0 : P []) (hs : ∀ l x, P l → P (l ++ [x])) (l : List α) : P l := by
  have : ∀ n (l : List α), l.length = n → P l := by
    intro n
    induction n with
    | zero => intro l hl; rw [List.length_eq_zero_iff.1 hl]; exact h0
    | succ n ih =>
      intro l hl
      rcases gsnoc l with rfl | ⟨r, x, rfl⟩
      · exact h0
      · exact hs r x (ih r (by simpa using hl))
  exact this _ l rfl
theorem setL_isMap (L : List (Nat × Nat)) : Maps.IsMap (setL L) :=
  gsnoc_ind (P := fun L => Maps.IsMap (setL L)) Maps.isMap_empty (fun l x h => by rw [setL_snoc]; exact h.put _ _) L
theorem has_setL (L : List (Nat × Nat)) (hL : ∀ q, q ∈ L → Small q) {q : Nat × Nat} (hq : Small q) : Maps.has (setL L) (pairL q) = decide (q ∈ L) := by
  revert hL
  refine gsnoc_ind (P := fun L => (∀ q, q ∈ L → Small q) → Maps.has (setL L) (pairL q) = decide (q ∈ L)) ?_ ?_ L
  · intro _; rfl
  · intro l x ih hL
    have hx : Small x := hL x (by simp)
    have ih' := ih (fun q hq => hL q (List.mem_append_left _ hq))
    rw [setL_snoc]
    by_cases e : q = x
    · subst e
      rw [Maps.has_put_same (setL_isMap l) (keyedP.key (keyOf_V hq))]
      simp
    · rw [Maps.has_put_other (fun e2 => e (pairL_inj hq hx e2)), ih']
      simp [e]

def srtP : Srt (Nat × Nat) where
  V := fun _ _ q v => v = pairV q
  size := 2
  pos := by decide
  keep := fun _ _ _ _ _ _ _ hv => hv
  cells := fun w S a v h => by rw [h]; rfl
  flat := fun w S a v h u hu => by
    rw [h] at hu
    simp [Value.cells, pairV] at hu
    rcases hu with rfl | rfl <;> rfl

/-- The match under way. -/
structure MtA (g h : RGr) (gA hA : Option Addr) (gc hc : Nat) (w0 : World) (B mB mapB pB sB : Nat) (W : World) (lv : Value) (p s : Nat → Nat) (L left : List (Nat × Nat)) : Prop where
  bel : Below w0.heap.size w0 W
  blk : Blk W mB (.cells #[.slice gA g.nodes.length gc, .slice hA h.nodes.length hc, .map (some mapB), lv, .slice (some ⟨pB, 0, none⟩) (g.nodes.length + h.nodes.length) (g.nodes.length + h.nodes.length), .slice (some ⟨sB, 0, none⟩) (g.nodes.length + h.nodes.length) (g.nodes.length + h.nodes.length)] 68 (0, 0))
  map : W.ownsMap Try.prog 71 (unitElem (H := Unit)) mapB L.length (setL L)
  lft : RowG srtP 71 B W (fun _ => False) lv left
  par : NumAt W pB (g.nodes.length + h.nodes.length) p
  siz : NumAt W sB (g.nodes.length + h.nodes.length) s
  ps : pB ≠ sB
  lm : w0.heap.size ≤ mB ∧ mB < B
  la : w0.heap.size ≤ mapB ∧ mapB < B
  lp : w0.heap.size ≤ pB ∧ pB < B
  ls : w0.heap.size ≤ sB ∧ sB < B
  lB : B ≤ W.heap.size
section
variable {g h : RGr} {gA hA : Option Addr} {gc hc : Nat} {w0 : World} {B mB mapB pB sB : Nat} {W W' : World} {lv lv' : Value} {p s p' s' : Nat → Nat} {L left L' left' : List (Nat × Nat)}
theorem NumAt.not_map {w : World} {b N : Nat} {f : Nat → Nat} (h : NumAt w b N f) {b' : Nat} {P : Program} {k : TypeId} {R : Value → Option (DataW Unit × List MemPlace)} {n : Nat} {D : DataW Unit} (hm : w.ownsMap P k R b' n D) : b ≠ b' := by
  intro e
  subst e
  obtain ⟨es, clock, hb, _⟩ := hm
  unfold NumAt at h
  rw [h] at hb
  injection hb with hb
  cases hb
theorem Blk.not_map {w : World} {b : Nat} {cs : Array Value} {t : TypeId} (h : Blk w b (.cells cs t (0, 0))) {b' : Nat} {P : Program} {k : TypeId} {R : Value → Option (DataW Unit × List MemPlace)} {n : Nat} {D : DataW Unit} (hm : w.ownsMap P k R b' n D) : b ≠ b' := by
  intro e
  subst e
  obtain ⟨es, clock, hb, _⟩ := hm
  unfold Blk at h
  rw [h] at hb
  injection hb with hb
  cases hb
theorem MtA.mp (a : MtA g h gA hA gc hc w0 B mB mapB pB sB W lv p s L left) : mB ≠ pB := by
  intro e
  have h1 := a.blk
  have h2 := a.par
  unfold Blk at h1
  unfold NumAt at h2
  rw [e, h2] at h1
  injection h1 with h1
  injection h1 with _ h1
  revert h1
  decide
theorem MtA.ms (a : MtA g h gA hA gc hc w0 B mB mapB pB sB W lv p s L left) : mB ≠ sB := by
  intro e
  have h1 := a.blk
  have h2 := a.siz
  unfold Blk at h1
  unfold NumAt at h2
  rw [e, h2] at h1
  injection h1 with h1
  injection h1 with _ h1
  revert h1
  decide
theorem MtA.keep (a : MtA g h gA hA gc hc w0 B mB mapB pB sB W lv p s L left) {F : Nat → Prop} (hk : Keeps F W W') (hF : ∀ k, F k → k < W.heap.size → k ≠ mB ∧ k ≠ mapB ∧ k ≠ pB ∧ k ≠ sB ∧ w0.heap.size ≤ k ∧ lv.ownBlock ≠ some k) : MtA g h gA hA gc hc w0 B mB mapB pB sB W' lv p s L left := by
  have hz := a.lB
  refine ⟨a.bel.trans (hk.below a.bel.size (fun i hi e => by have := (hF i e (by have := a.bel.size; omega)).2.2.2.2.1; omega)), ?_, ?_, a.lft.keep hk (fun k e hl => ⟨(hF k e hl).2.2.2.2.2, id⟩), ?_, ?_, a.ps, a.lm, a.la, a.lp, a.ls, Nat.le_trans hz hk.size⟩
  · exact (hk.block _ (by have := a.lm; omega) (fun e => (hF _ e (by have := a.lm; omega)).1 rfl)).trans a.blk
  · obtain ⟨es, clock, hb, r⟩ := a.map
    exact ⟨es, clock, (hk.block _ (by have := a.la; omega) (fun e => (hF _ e (by have := a.la; omega)).2.1 rfl)).trans hb, r⟩
  · exact (hk.block _ (by have := a.lp; omega) (fun e => (hF _ e (by have := a.lp; omega)).2.2.1 rfl)).trans a.par
  · exact (hk.block _ (by have := a.ls; omega) (fun e => (hF _ e (by have := a.ls; omega)).2.2.2.1 rfl)).trans a.siz
theorem MtA.new (a : MtA g h gA hA gc hc w0 B mB mapB pB sB W lv p s L left) (hk : Below W.heap.size W W') : MtA g h gA hA gc hc w0 B mB mapB pB sB W' lv p s L left :=
  a.keep (F := fun _ => False) (Keeps.of_below0 hk) (fun _ e _ => e.elim)
end
end Go.Proofs.Ytipehahfbcbigaa

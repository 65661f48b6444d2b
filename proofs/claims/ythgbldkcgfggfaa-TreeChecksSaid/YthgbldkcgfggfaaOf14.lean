/-
  trefoilref02.Of, an object: what its loop keeps.
-/
import Derived.Test.YthgbldkcgfggfaaOf20
namespace Go.Proofs.Ythgbldkcgfggfaa
open Go.RowKit

theorem ofMems_succ (g : List Part → Ex × List Part) : ∀ k l, ofMems g (k + 1) l = ((ofMems g k l).1 ++ [(ofMem g (ofMems g k l).2).1], (ofMem g (ofMems g k l).2).2)
  | 0, l => by simp [ofMems]
  | k + 1, l => by
    have h := ofMems_succ g k (ofMem g l).2
    rw [ofMems, h]
    simp [ofMems]

theorem blk_set6 {w : World} {g : Nat} {t : TypeId} {a b c d e f x : Value} (h : w.heap[g]? = some (.cells #[a, b, c, d, e, f, x] t (0, 0))) (u : Value) : (w.setCell ⟨g, 6, none⟩ u).heap[g]? = some (.cells #[a, b, c, d, e, f, u] t (0, 0)) := by
  simp [World.setCell, Array.getElem?_modify, h]
theorem mblk_set (w : World) (g : Nat) (t : TypeId) (a b c d e : Value) (h : w.heap[g]? = some (.cells #[a, b, c, d, e] t (0, 0))) (u : Value) :
    (w.setCell ⟨g, 0, none⟩ u).heap[g]? = some (.cells #[u, b, c, d, e] t (0, 0)) ∧ (w.setCell ⟨g, 1, none⟩ u).heap[g]? = some (.cells #[a, u, c, d, e] t (0, 0)) ∧ (w.setCell ⟨g, 2, none⟩ u).heap[g]? = some (.cells #[a, b, u, d, e] t (0, 0)) ∧
    (w.setCell ⟨g, 3, none⟩ u).heap[g]? = some (.cells #[a, b, c, u, e] t (0, 0)) ∧ (w.setCell ⟨g, 4, none⟩ u).heap[g]? = some (.cells #[a, b, c, d, u] t (0, 0)) := by
  simp [World.setCell, Array.getElem?_modify, h]
theorem infoM : (Try.prog.info? 49).map (fun i => (i.zero, i.size, i.bytes)) = some (some (.agg #[.int .i64 0, .string ⟨#[]⟩, .string ⟨#[]⟩, .slice none 0 0, .slice none 0 0]), 5, 88) := by kernel_rfl

section
variable {α : Type} {T : Srt α} {t : TypeId} {base : Nat}
theorem push_ready1 {wr w1 : World} {Sx : Nat → Prop} {va xv : Value} {es : List α} {x : α} (h : RowG T t base wr Sx va es) (hb : Below wr.heap.size wr w1) (hx : T.V w1 (New wr w1) x xv) (Y : Obj) :
    RowG T t base (w1.alloc Y) (fun k => Sx k ∨ New wr w1 k) va es ∧ Items T (w1.alloc Y) (fun k => Sx k ∨ New wr w1 k) [x] xv.cells.toList := by
  have hs := hb.size
  have hb2 : Below wr.heap.size wr (w1.alloc Y) := hb.alloc hs _
  refine ⟨(h.keep (Keeps.of_below0 (T := fun _ => False) hb2) (fun _ e => e.elim)).wide (fun _ e => .inl e) ?_, Items.one T (T.keep _ _ _ _ ?_ _ _ hx)⟩
  · rintro k (e | ⟨e1, e2⟩)
    · exact ⟨Nat.lt_of_lt_of_le (h.old k e) hb2.size, h.apart k e⟩
    · refine ⟨by simp; omega, fun e => ?_⟩
      have := (h.block e).2
      omega
  · rintro k ⟨e1, e2⟩
    exact ⟨.inr ⟨e1, e2⟩, heap_past _ _ _ e2⟩
end

/-- A member whose part was made just now. -/
theorem memb_args {wr Wc w1 : World} {E : Nat} {x : Ex} {k1 n1 K : Int} {s1 NM AS : ByteArray} {aA aN aT aM : Option Addr} {nA cA nN cN nT cT nM cM : Nat} {oE : Option Obj}
    (hbc : Below wr.heap.size wr Wc) (hzc : Wc.heap.size = wr.heap.size + 1) (hM : Wc.heap[wr.heap.size]? = some (.cells #[.int .i64 K, .string NM, .string AS, .slice none 0 0, .slice none 0 0] 49 (0, 0)))
    (hE : E < wr.heap.size) (hEo : wr.heap[E]? = oE) (hb1 : Below Wc.heap.size Wc w1) (hx : ExV w1 (New Wc w1) x (.agg #[.int .i64 k1, .string s1, .int .i64 n1, .slice aA nA cA, .slice aN nN cN, .slice aT nT cT, .slice aM nM cM])) (h1 : NM.size ≤ maxLen) (h2 : AS.size ≤ maxLen) :
    (((w1.alloc (.cells #[.int .i64 k1, .string s1, .int .i64 n1, .slice aA nA cA, .slice aN nN cN, .slice aT nT cT, .slice aM nM cM] 31)).alloc (.cells #[.int .i64 k1, .string s1, .int .i64 n1, .slice aA nA cA, .slice aN nN cN, .slice aT nT cT, .slice aM nM cM] 31)).heap[wr.heap.size]? = some (.cells #[.int .i64 K, .string NM, .string AS, .slice none 0 0, .slice none 0 0] 49 (0, 0))) ∧
    Below wr.heap.size wr (((w1.alloc (.cells #[.int .i64 k1, .string s1, .int .i64 n1, .slice aA nA cA, .slice aN nN cN, .slice aT nT cT, .slice aM nM cM] 31)).alloc (.cells #[.int .i64 k1, .string s1, .int .i64 n1, .slice aA nA cA, .slice aN nN cN, .slice aT nT cT, .slice aM nM cM] 31)).setCell ⟨wr.heap.size, 3, none⟩ (.slice (some ⟨w1.heap.size + 1, 0, none⟩) 1 1)) ∧
    (((w1.alloc (.cells #[.int .i64 k1, .string s1, .int .i64 n1, .slice aA nA cA, .slice aN nN cN, .slice aT nT cT, .slice aM nM cM] 31)).alloc (.cells #[.int .i64 k1, .string s1, .int .i64 n1, .slice aA nA cA, .slice aN nN cN, .slice aT nT cT, .slice aM nM cM] 31)).setCell ⟨wr.heap.size, 3, none⟩ (.slice (some ⟨w1.heap.size + 1, 0, none⟩) 1 1)).heap[wr.heap.size]? = some (.cells #[.int .i64 K, .string NM, .string AS, .slice (some ⟨w1.heap.size + 1, 0, none⟩) 1 1, .slice none 0 0] 49 (0, 0)) ∧
    (((w1.alloc (.cells #[.int .i64 k1, .string s1, .int .i64 n1, .slice aA nA cA, .slice aN nN cN, .slice aT nT cT, .slice aM nM cM] 31)).alloc (.cells #[.int .i64 k1, .string s1, .int .i64 n1, .slice aA nA cA, .slice aN nN cN, .slice aT nT cT, .slice aM nM cM] 31)).setCell ⟨wr.heap.size, 3, none⟩ (.slice (some ⟨w1.heap.size + 1, 0, none⟩) 1 1)).heap[E]? = oE ∧
    MmV (((w1.alloc (.cells #[.int .i64 k1, .string s1, .int .i64 n1, .slice aA nA cA, .slice aN nN cN, .slice aT nT cT, .slice aM nM cM] 31)).alloc (.cells #[.int .i64 k1, .string s1, .int .i64 n1, .slice aA nA cA, .slice aN nN cN, .slice aT nT cT, .slice aM nM cM] 31)).setCell ⟨wr.heap.size, 3, none⟩ (.slice (some ⟨w1.heap.size + 1, 0, none⟩) 1 1)) (New wr (((w1.alloc (.cells #[.int .i64 k1, .string s1, .int .i64 n1, .slice aA nA cA, .slice aN nN cN, .slice aT nT cT, .slice aM nM cM] 31)).alloc (.cells #[.int .i64 k1, .string s1, .int .i64 n1, .slice aA nA cA, .slice aN nN cN, .slice aT nT cT, .slice aM nM cM] 31)).setCell ⟨wr.heap.size, 3, none⟩ (.slice (some ⟨w1.heap.size + 1, 0, none⟩) 1 1))) (.mk K NM AS [x] []) (.agg #[.int .i64 K, .string NM, .string AS, .slice (some ⟨w1.heap.size + 1, 0, none⟩) 1 1, .slice none 0 0]) := by
  have hs1 := hb1.size
  have hbw : Below wr.heap.size wr w1 := hbc.trans (hb1.mono (by omega))
  have hM1 : w1.heap[wr.heap.size]? = _ := (hb1.block _ (by omega)).trans hM
  have hM2 : ((w1.alloc (.cells #[.int .i64 k1, .string s1, .int .i64 n1, .slice aA nA cA, .slice aN nN cN, .slice aT nT cT, .slice aM nM cM] 31)).alloc (.cells #[.int .i64 k1, .string s1, .int .i64 n1, .slice aA nA cA, .slice aN nN cN, .slice aT nT cT, .slice aM nM cM] 31)).heap[wr.heap.size]? = _ := (heap_past _ _ _ (by simp; omega)).trans ((heap_past w1 _ _ (by omega)).trans hM1)
  have hM3 := (mblk_set _ _ _ _ _ _ _ _ hM2 (.slice (some ⟨w1.heap.size + 1, 0, none⟩) 1 1)).2.2.2.1
  have hb2 : Below wr.heap.size wr (((w1.alloc (.cells #[.int .i64 k1, .string s1, .int .i64 n1, .slice aA nA cA, .slice aN nN cN, .slice aT nT cT, .slice aM nM cM] 31)).alloc (.cells #[.int .i64 k1, .string s1, .int .i64 n1, .slice aA nA cA, .slice aN nN cN, .slice aT nT cT, .slice aM nM cM] 31)).setCell ⟨wr.heap.size, 3, none⟩ (.slice (some ⟨w1.heap.size + 1, 0, none⟩) 1 1)) := ((hbw.alloc (by omega) _).alloc (by simp; omega) _).setCell (Nat.le_refl _) _
  have hN : (((w1.alloc (.cells #[.int .i64 k1, .string s1, .int .i64 n1, .slice aA nA cA, .slice aN nN cN, .slice aT nT cT, .slice aM nM cM] 31)).alloc (.cells #[.int .i64 k1, .string s1, .int .i64 n1, .slice aA nA cA, .slice aN nN cN, .slice aT nT cT, .slice aM nM cM] 31)).setCell ⟨wr.heap.size, 3, none⟩ (.slice (some ⟨w1.heap.size + 1, 0, none⟩) 1 1)).heap[w1.heap.size + 1]? = some (.cells #[.int .i64 k1, .string s1, .int .i64 n1, .slice aA nA cA, .slice aN nN cN, .slice aT nT cT, .slice aM nM cM] 31 (0, 0)) := blk_else (heap_at _ _ _ (by simp)) (by simp; omega) _
  refine ⟨hM2, hb2, hM3, (hb2.block _ hE).trans hEo, ?_⟩
  unfold MmV
  refine ⟨_, 1, none, 0, rfl, h1, h2, by simp, by decide, Nat.le_refl _, Nat.zero_le _, ?_, by unfold TysO; trivial⟩
  unfold ExsO
  refine ⟨_, 0, _, rfl, ⟨by omega, by simp [World.setCell]⟩, cellsAt_of hN ?_, ExV.keep (fun k hk => ?_) _ _ hx, by unfold ExsO; trivial⟩
  · intro j u hu
    rcases j with _ | _ | _ | _ | _ | _ | _ | j <;> simp_all [Value.cells]
  · have g1 := hk.1
    have g2 := hk.2
    exact ⟨⟨by omega, by simp [World.setCell]; omega⟩, blk_else ((heap_past _ _ _ (by simp; omega)).trans (heap_past _ _ _ g2)) (by simp; omega) _⟩

/-- A member whose type was made just now. -/
theorem memb_type {wr Wc w1 : World} {E : Nat} {x : Ty} {K q1 : Int} {NM AS q2 : ByteArray} {q3 q6 : Option Addr} {q4 q5 q7 q8 : Nat} {q9 : Bool} {oE : Option Obj}
    (hbc : Below wr.heap.size wr Wc) (hzc : Wc.heap.size = wr.heap.size + 1) (hM : Wc.heap[wr.heap.size]? = some (.cells #[.int .i64 K, .string NM, .string AS, .slice none 0 0, .slice none 0 0] 49 (0, 0)))
    (hE : E < wr.heap.size) (hEo : wr.heap[E]? = oE) (hb1 : Below Wc.heap.size Wc w1) (hx : TyV w1 (New Wc w1) x (.agg #[.int .i64 q1, .string q2, .slice q3 q4 q5, .slice q6 q7 q8, .bool q9])) (h1 : NM.size ≤ maxLen) (h2 : AS.size ≤ maxLen) :
    ((w1.alloc (.cells #[.int .i64 q1, .string q2, .slice q3 q4 q5, .slice q6 q7 q8, .bool q9] 42)).heap[wr.heap.size]? = some (.cells #[.int .i64 K, .string NM, .string AS, .slice none 0 0, .slice none 0 0] 49 (0, 0))) ∧
    Below wr.heap.size wr ((w1.alloc (.cells #[.int .i64 q1, .string q2, .slice q3 q4 q5, .slice q6 q7 q8, .bool q9] 42)).setCell ⟨wr.heap.size, 4, none⟩ (.slice (some ⟨w1.heap.size, 0, none⟩) 1 1)) ∧
    ((w1.alloc (.cells #[.int .i64 q1, .string q2, .slice q3 q4 q5, .slice q6 q7 q8, .bool q9] 42)).setCell ⟨wr.heap.size, 4, none⟩ (.slice (some ⟨w1.heap.size, 0, none⟩) 1 1)).heap[wr.heap.size]? = some (.cells #[.int .i64 K, .string NM, .string AS, .slice none 0 0, .slice (some ⟨w1.heap.size, 0, none⟩) 1 1] 49 (0, 0)) ∧
    ((w1.alloc (.cells #[.int .i64 q1, .string q2, .slice q3 q4 q5, .slice q6 q7 q8, .bool q9] 42)).setCell ⟨wr.heap.size, 4, none⟩ (.slice (some ⟨w1.heap.size, 0, none⟩) 1 1)).heap[E]? = oE ∧
    MmV ((w1.alloc (.cells #[.int .i64 q1, .string q2, .slice q3 q4 q5, .slice q6 q7 q8, .bool q9] 42)).setCell ⟨wr.heap.size, 4, none⟩ (.slice (some ⟨w1.heap.size, 0, none⟩) 1 1)) (New wr ((w1.alloc (.cells #[.int .i64 q1, .string q2, .slice q3 q4 q5, .slice q6 q7 q8, .bool q9] 42)).setCell ⟨wr.heap.size, 4, none⟩ (.slice (some ⟨w1.heap.size, 0, none⟩) 1 1))) (.mk K NM AS [] [x]) (.agg #[.int .i64 K, .string NM, .string AS, .slice none 0 0, .slice (some ⟨w1.heap.size, 0, none⟩) 1 1]) := by
  have hs1 := hb1.size
  have hbw : Below wr.heap.size wr w1 := hbc.trans (hb1.mono (by omega))
  have hM1 : w1.heap[wr.heap.size]? = _ := (hb1.block _ (by omega)).trans hM
  have hM2 : (w1.alloc (.cells #[.int .i64 q1, .string q2, .slice q3 q4 q5, .slice q6 q7 q8, .bool q9] 42)).heap[wr.heap.size]? = _ := (heap_past w1 _ _ (by omega)).trans hM1
  have hM3 := (mblk_set _ _ _ _ _ _ _ _ hM2 (.slice (some ⟨w1.heap.size, 0, none⟩) 1 1)).2.2.2.2
  have hb2 : Below wr.heap.size wr ((w1.alloc (.cells #[.int .i64 q1, .string q2, .slice q3 q4 q5, .slice q6 q7 q8, .bool q9] 42)).setCell ⟨wr.heap.size, 4, none⟩ (.slice (some ⟨w1.heap.size, 0, none⟩) 1 1)) := (hbw.alloc (by omega) _).setCell (Nat.le_refl _) _
  have hN : ((w1.alloc (.cells #[.int .i64 q1, .string q2, .slice q3 q4 q5, .slice q6 q7 q8, .bool q9] 42)).setCell ⟨wr.heap.size, 4, none⟩ (.slice (some ⟨w1.heap.size, 0, none⟩) 1 1)).heap[w1.heap.size]? = some (.cells #[.int .i64 q1, .string q2, .slice q3 q4 q5, .slice q6 q7 q8, .bool q9] 42 (0, 0)) := blk_else (heap_at _ _ _ rfl) (by simp; omega) _
  refine ⟨hM2, hb2, hM3, (hb2.block _ hE).trans hEo, ?_⟩
  unfold MmV
  refine ⟨none, 0, _, 1, rfl, h1, h2, Nat.le_refl _, Nat.zero_le _, by simp, by decide, by unfold ExsO; trivial, ?_⟩
  unfold TysO
  refine ⟨_, 0, _, rfl, ⟨by omega, by simp [World.setCell]⟩, cellsAt_of hN ?_, TyV.keep (fun k hk => ?_) _ _ hx, by unfold TysO; trivial⟩
  · intro j u hu
    rcases j with _ | _ | _ | _ | _ | j <;> simp_all [Value.cells]
  · have g1 := hk.1
    have g2 := hk.2
    exact ⟨⟨by omega, by simp [World.setCell]; omega⟩, blk_else (heap_past _ _ _ g2) (by simp; omega) _⟩

theorem ofMem_nil (g : List Part → Ex × List Part) : ofMem g [] = (.mk 3 ⟨#[109]⟩ ⟨#[]⟩ [(g []).1] [], (g []).2) := rfl
theorem ofMem_cons (g : List Part → Ex × List Part) (q : Part) (l : List Part) : ofMem g (q :: l) = if q.a % 5 = 4 then (.mk 4 q.s ⟨#[]⟩ [] [typeOf q.t], l)
    else (.mk ((q.a % 5 : Nat) : Int) q.s (if q.a % 5 = 1 ∧ 0 < q.n then ⟨#[115, 117, 112, 101, 114]⟩ else ⟨#[]⟩) [(g l).1] [], (g l).2) := rfl
theorem ofMem_four (g : List Part → Ex × List Part) (q : Part) (l : List Part) (h : (q.a : Int) % 5 = 4) : ofMem g (q :: l) = (.mk 4 q.s ⟨#[]⟩ [] [typeOf q.t], l) := by
  rw [ofMem_cons, if_pos (by omega)]
theorem ofMem_super (g : List Part → Ex × List Part) (q : Part) (l : List Part) (h : (q.a : Int) % 5 = 1) (h2 : 0 < q.n) : ofMem g (q :: l) = (.mk 1 q.s ⟨#[115, 117, 112, 101, 114]⟩ [(g l).1] [], (g l).2) := by
  rw [ofMem_cons, if_neg (by omega), if_pos ⟨by omega, h2⟩, show q.a % 5 = 1 by omega]
  rfl
theorem ofMem_one (g : List Part → Ex × List Part) (q : Part) (l : List Part) (h : (q.a : Int) % 5 = 1) (h2 : ¬ 0 < q.n) : ofMem g (q :: l) = (.mk 1 q.s ⟨#[]⟩ [(g l).1] [], (g l).2) := by
  rw [ofMem_cons, if_neg (by omega), if_neg (fun h => h2 h.2), show q.a % 5 = 1 by omega]
  rfl
theorem ofMem_plain (g : List Part → Ex × List Part) (q : Part) (l : List Part) (h : ¬ (q.a : Int) % 5 = 4) (h2 : ¬ (q.a : Int) % 5 = 1) : ofMem g (q :: l) = (.mk ((q.a : Int) % 5) q.s ⟨#[]⟩ [(g l).1] [], (g l).2) := by
  rw [ofMem_cons, if_neg (by omega), if_neg (fun h => h2 (by omega))]
  simp

/-- The loop over the members of an object: k of them are done. -/
structure MbInv (f : Nat) (w wB wr : World) (E : Nat) (S : Nat → Prop) (l0 : List Part) (k : Nat) (va : Value) (Ar : Option Addr) (cr c : Nat) (a2 a3 : Value) : Prop where
  keeps : Keeps (fun j => j = E) wB wr
  row : ∃ Sx, RowG srtM 49 wB.heap.size wr Sx va (ofMems (ofN f) k l0).1 ∧ (∀ j, Sx j → wB.heap.size ≤ j)
  cell : wr.heap[E]? = some (.cells #[.int .i64 14, a2, a3, .slice none 0 0, .slice none 0 0, .slice none 0 0, va] 31 (0, 0))
  pts : PtsO w S (ofMems (ofN f) k l0).2 Ar
  cap : (ofMems (ofN f) k l0).2.length ≤ cr ∧ cr ≤ c

theorem MbInv.next {f : Nat} {w wB wr w1 w3 : World} {E : Nat} {S Sx : Nat → Prop} {l lr : List Part} {k : Nat} {es : List Mm} {va v3 : Value} {A1 : Option Addr} {c1 c : Nat} {a2 a3 : Value} {X : Obj}
    (hE : w.heap.size ≤ E) (hEB : E < wB.heap.size) (hls : ofMems (ofN f) (k + 1) l = (es ++ [(ofMem (ofN f) lr).1], (ofMem (ofN f) lr).2)) (hkeep : Keeps (fun j => j = E) wB wr)
    (hrow : RowG srtM 49 wB.heap.size wr Sx va es) (hSx : ∀ j, Sx j → wB.heap.size ≤ j) (hb1 : Below wr.heap.size wr w1) (hk3 : Keeps (fun j => va.ownBlock = some j) (w1.alloc X) w3)
    (hrow3 : RowG srtM 49 wB.heap.size w3 (fun k => Sx k ∨ New wr w1 k) v3 (es ++ [(ofMem (ofN f) lr).1])) (hE3 : w3.heap[E]? = some (.cells #[.int .i64 14, a2, a3, .slice none 0 0, .slice none 0 0, .slice none 0 0, va] 31 (0, 0)))
    (hp : PtsO w S (ofMem (ofN f) lr).2 A1) (hc1 : (ofMem (ofN f) lr).2.length ≤ c1) (hc : c1 ≤ c) : MbInv f w wB (w3.setCell ⟨E, 6, none⟩ v3) E S l (k + 1) v3 A1 c1 c a2 a3 := by
  have hsr := hkeep.size
  have hs1 := hb1.size
  have hEr : E < wr.heap.size := by omega
  have k2 : Keeps (fun j => va.ownBlock = some j ∨ j = E) wr (w3.setCell ⟨E, 6, none⟩ v3) := by
    refine Keeps.setCell ?_ (fun _ => .inr rfl) _
    refine Keeps.trans' (T' := fun j => va.ownBlock = some j) ((Keeps.of_below0 hb1).alloc _) hk3 (fun i _ e => .inl e)
  refine ⟨hkeep.trans' k2 ?_, ⟨fun k => Sx k ∨ New wr w1 k, ?_, ?_⟩, blk_set6 hE3 _, ?_, ?_⟩
  · rintro i hi (e | e)
    · have := (hrow.block e).1; omega
    · exact e
  · rw [hls]
    refine hrow3.keep (F := fun j => j = E) (Keeps.setCell (Keeps.refl (fun j => j = E) w3) (fun _ => rfl) _) ?_
    rintro k rfl hk
    refine ⟨fun e => ?_, ?_⟩
    · have := (hrow3.block e).1; omega
    · rintro (e | ⟨e, _⟩)
      · have := hSx _ e; omega
      · omega
  · rintro j (e | ⟨e, _⟩)
    · exact hSx j e
    · omega
  · rw [hls]; exact hp
  · rw [hls]; exact ⟨hc1, hc⟩

/-- What the loop leaves, put into the result's variable. -/
theorem MbInv.done {f : Nat} {w wB wr W : World} {E n : Nat} {S : Nat → Prop} {l : List Part} {Aa Ar : Option Addr} {ca cr c m : Nat} {a2 a3 : Value} (hinv : MbInv f w wB wr E S l n (.slice Aa m ca) Ar cr c a2 a3)
    (hE : w.heap.size < E) (hEB : E < wB.heap.size) (hBw : Below w.heap.size w wB) (hkf : Keeps (fun j => j = w.heap.size) wr W) (N : Int) (s : ByteArray) (hs : s.size ≤ maxLen) :
    ExV W (New w W) (.mk 14 s N [] [] [] (ofMems (ofN f) n l).1) (.agg #[.int .i64 14, .string s, .int .i64 N, .slice none 0 0, .slice none 0 0, .slice none 0 0, .slice Aa m ca]) ∧ Below w.heap.size w W := by
  obtain ⟨hkeep, ⟨Sx, hrow, hSx⟩, _, _, _⟩ := hinv
  have hz1 := hBw.size
  have hz2 := hkeep.size
  have hz3 := hkf.size
  have hrow' := hrow.keep hkf (fun k hk _ => by
    subst hk
    refine ⟨fun e => ?_, fun e => ?_⟩
    · have := (hrow.block e).1; omega
    · have := hSx _ e; omega)
  obtain ⟨A1', c1', hv, hl1, hm1, hex⟩ := hrow'.mms (S' := New w W) (fun k hk => ⟨by have := hSx k hk; omega, by have := hrow'.old k hk; omega⟩) (fun k h1 h2 => ⟨by omega, h2⟩)
  simp only [Value.slice.injEq] at hv
  obtain ⟨rfl, rfl, rfl⟩ := hv
  refine ⟨?_, hBw.trans ((hkeep.below hz1 (fun i hi e => by omega)).trans (hkf.below (by omega) (fun i hi e => by omega)))⟩
  unfold ExV
  exact ⟨none, 0, none, 0, none, 0, _, _, rfl, hs, Nat.le_refl _, Nat.zero_le _, Nat.le_refl _, Nat.zero_le _, Nat.le_refl _, Nat.zero_le _, hl1, hm1, by unfold ExsO; trivial, by unfold StrsO; trivial, by unfold TysO; trivial, hex⟩

end Go.Proofs.Ythgbldkcgfggfaa

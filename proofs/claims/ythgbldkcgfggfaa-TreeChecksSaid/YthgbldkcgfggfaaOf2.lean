/-
  trefoilref02.Of.
-/
import Derived.Test.YthgbldkcgfggfaaRow
import Derived.Test.YthgbldkcgfggfaaOf1
namespace Go.Proofs.Ythgbldkcgfggfaa
open Go.RowKit

theorem ofList_succ (g : List Part → Ex × List Part) : ∀ k l, ofList g (k + 1) l = ((ofList g k l).1 ++ [(g (ofList g k l).2).1], (g (ofList g k l).2).2)
  | 0, l => by simp [ofList]
  | k + 1, l => by
    have h := ofList_succ g k (g l).2
    rw [ofList, h]
    simp [ofList]

/-- What Of is to do with fewer parts than f. -/
def OfAt (f : Nat) : Prop := ∀ (l : List Part) (w : World) (S : Nat → Prop) (A : Option Addr) (c : Nat), l.length < f → (∀ k, S k → k < w.heap.size) → PtsO w S l A → l.length ≤ c → c ≤ 10000000000000 →
    Calls Try.prog 11 #[.slice A l.length c] w fun e w' => ∃ v A' c', e = .returned (.tuple #[v, .slice A' (ofN f l).2.length c']) ∧ ExV w' (New w w') (ofN f l).1 v ∧ PtsO w S (ofN f l).2 A' ∧ (ofN f l).2.length ≤ c' ∧ c' ≤ c ∧ Below w.heap.size w w'

/-- The seven cells of an expression in a block of its own. -/
def E7 (a b c d e f g : Value) : Array Value := #[a, b, c, d, e, f, g]
theorem blk_set3 {w : World} {g : Nat} {t : TypeId} {a b c d e f x : Value} (h : w.heap[g]? = some (.cells #[a, b, c, d, e, f, x] t (0, 0))) (u : Value) : (w.setCell ⟨g, 3, none⟩ u).heap[g]? = some (.cells #[a, b, c, u, e, f, x] t (0, 0)) := by
  simp [World.setCell, Array.getElem?_modify, h]
theorem blk_frozen {w : World} {g j : Nat} {cs : Array Value} {t : TypeId} (h : w.heap[g]? = some (.cells cs t (0, 0))) : w.frozen? ⟨g, j, none⟩ = false := by
  simp [World.frozen?, h]
theorem blk_cell {w : World} {g : Nat} {cs : Array Value} {t : TypeId} (h : w.heap[g]? = some (.cells cs t (0, 0))) (j : Nat) : w.cell? ⟨g, j, none⟩ = cs[j]? := cell_of_row w g j _ _ _ h
theorem ExV.form {w : World} {S : Nat → Prop} {e : Ex} {v : Value} (h : ExV w S e v) : ∃ k s n aA nA cA aN nN cN aT nT cT aM nM cM, v = .agg #[.int .i64 k, .string s, .int .i64 n, .slice aA nA cA, .slice aN nN cN, .slice aT nT cT, .slice aM nM cM] := by
  cases e
  unfold ExV at h
  obtain ⟨aA, cA, aN, cN, aT, cT, aM, cM, rfl, _⟩ := h
  exact ⟨_, _, _, _, _, _, _, _, _, _, _, _, _, _, _, rfl⟩
theorem infoX : (Try.prog.info? 31).map (fun i => (i.zero, i.size, i.bytes)) = some (some (.agg #[.int .i64 0, .string ⟨#[]⟩, .int .i64 0, .slice none 0 0, .slice none 0 0, .slice none 0 0, .slice none 0 0]), 7, 128) := by kernel_rfl

theorem cell_new_add (w : World) (cs : Array Value) (t : TypeId) (n : Nat) (hn : n = w.heap.size) (j : Nat) (u : Value) (h : cs.toList[j]? = some u) : (w.alloc (.cells cs t)).cell? ((⟨n, 0, none⟩ : Addr).add j) = some u := by
  subst hn
  have h1 : (⟨w.heap.size, 0, none⟩ : Addr).add j = ⟨w.heap.size, j, none⟩ := by
    unfold Addr.add
    split
    · rename_i hj
      have hj : j = 0 := by simpa using hj
      subst hj
      rfl
    · simp
  rw [h1, cell_of_row _ _ j cs t _ (heap_alloc_new w _)]
  simpa using h

section
variable {α : Type} {T : Srt α} {t : TypeId} {base : Nat}
/-- A row, and one item more that was made since: ready to be put behind. -/
theorem push_ready {wr w1 : World} {Sx : Nat → Prop} {va xv : Value} {es : List α} {x : α} (h : RowG T t base wr Sx va es) (hb : Below wr.heap.size wr w1) (hx : T.V w1 (New wr w1) x xv) (X Y : Obj) :
    RowG T t base ((w1.alloc X).alloc Y) (fun k => Sx k ∨ New wr w1 k) va es ∧ Items T ((w1.alloc X).alloc Y) (fun k => Sx k ∨ New wr w1 k) [x] xv.cells.toList := by
  have hs := hb.size
  have hb2 : Below wr.heap.size wr ((w1.alloc X).alloc Y) := (hb.alloc hs _).alloc (by simp; omega) _
  refine ⟨(h.keep (Keeps.of_below0 (T := fun _ => False) hb2) (fun _ e => e.elim)).wide (fun _ e => .inl e) ?_, Items.one T (T.keep _ _ _ _ ?_ _ _ hx)⟩
  · rintro k (e | ⟨e1, e2⟩)
    · exact ⟨Nat.lt_of_lt_of_le (h.old k e) hb2.size, h.apart k e⟩
    · refine ⟨by simp; omega, fun e => ?_⟩
      have := (h.block e).2
      omega
  · rintro k ⟨e1, e2⟩
    exact ⟨.inr ⟨e1, e2⟩, (heap_past _ _ _ (by simp; omega)).trans (heap_past _ _ _ e2)⟩
end

/-- The loop over the parts of an expression: k of them are done. -/
structure OfInv (f : Nat) (w wB wr : World) (E : Nat) (S : Nat → Prop) (l0 : List Part) (k : Nat) (va : Value) (Ar : Option Addr) (cr c : Nat) (a1 a2 a3 a5 a6 a7 : Value) : Prop where
  keeps : Keeps (fun j => j = E) wB wr
  row : ∃ Sx, RowG srtE 31 wB.heap.size wr Sx va (ofList (ofN f) k l0).1 ∧ (∀ j, Sx j → wB.heap.size ≤ j)
  cell : wr.heap[E]? = some (.cells #[a1, a2, a3, va, a5, a6, a7] 31 (0, 0))
  pts : PtsO w S (ofList (ofN f) k l0).2 Ar
  cap : (ofList (ofN f) k l0).2.length ≤ cr ∧ cr ≤ c

theorem keeps_set7 (wr : World) (R : Nat) (a b c d e f g : Value) : Keeps (fun j => j = R) wr (((((((wr.setCell ⟨R, 0, none⟩ a).setCell ⟨R, 1, none⟩ b).setCell ⟨R, 2, none⟩ c).setCell ⟨R, 3, none⟩ d).setCell ⟨R, 4, none⟩ e).setCell ⟨R, 5, none⟩ f).setCell ⟨R, 6, none⟩ g) := by
  have h0 := Keeps.refl (fun j => j = R) wr
  have h1 := h0.setCell (p := ⟨R, 0, none⟩) (fun _ => rfl) a
  have h2 := h1.setCell (p := ⟨R, 1, none⟩) (fun _ => rfl) b
  have h3 := h2.setCell (p := ⟨R, 2, none⟩) (fun _ => rfl) c
  have h4 := h3.setCell (p := ⟨R, 3, none⟩) (fun _ => rfl) d
  have h5 := h4.setCell (p := ⟨R, 4, none⟩) (fun _ => rfl) e
  have h6 := h5.setCell (p := ⟨R, 5, none⟩) (fun _ => rfl) f
  exact h6.setCell (p := ⟨R, 6, none⟩) (fun _ => rfl) g

theorem OfInv.next {f : Nat} {w wB wr w1 w3 : World} {E : Nat} {S Sx : Nat → Prop} {l lr : List Part} {k : Nat} {es : List Ex} {va v3 : Value} {A1 : Option Addr} {c1 c : Nat} {a1 a2 a3 a5 a6 a7 : Value} {X Y : Obj}
    (hE : w.heap.size ≤ E) (hEB : E < wB.heap.size) (hls : ofList (ofN f) (k + 1) l = (es ++ [(ofN f lr).1], (ofN f lr).2)) (hS : ∀ k, S k → k < w.heap.size) (hBw : Below w.heap.size w wB) (hkeep : Keeps (fun j => j = E) wB wr)
    (hrow : RowG srtE 31 wB.heap.size wr Sx va es) (hSx : ∀ j, Sx j → wB.heap.size ≤ j) (hb1 : Below wr.heap.size wr w1) (hk3 : Keeps (fun j => va.ownBlock = some j) ((w1.alloc X).alloc Y) w3)
    (hrow3 : RowG srtE 31 wB.heap.size w3 (fun k => Sx k ∨ New wr w1 k) v3 (es ++ [(ofN f lr).1])) (hE3 : w3.heap[E]? = some (.cells #[a1, a2, a3, va, a5, a6, a7] 31 (0, 0)))
    (hp : PtsO wr S (ofN f lr).2 A1) (hc1 : (ofN f lr).2.length ≤ c1) (hc : c1 ≤ c) : OfInv f w wB (w3.setCell ⟨E, 3, none⟩ v3) E S l (k + 1) v3 A1 c1 c a1 a2 a3 a5 a6 a7 := by
  have hsr := hkeep.size
  have hs1 := hb1.size
  have k2 : Keeps (fun j => va.ownBlock = some j ∨ j = E) wr (w3.setCell ⟨E, 3, none⟩ v3) := by
    refine Keeps.setCell ?_ (fun _ => .inr rfl) _
    refine Keeps.trans' (T' := fun j => va.ownBlock = some j) (((Keeps.of_below0 hb1).alloc _).alloc _) hk3 (fun i _ e => .inl e)
  refine ⟨hkeep.trans' k2 ?_, ⟨fun k => Sx k ∨ New wr w1 k, ?_, ?_⟩, blk_set3 hE3 _, ?_, ?_⟩
  · rintro i hi (e | e)
    · have := (hrow.block e).1; omega
    · exact e
  · rw [hls]
    refine hrow3.keep (F := fun j => j = E) (Keeps.setCell (Keeps.refl (fun j => j = E) w3) (fun _ => rfl) _) ?_
    rintro k rfl hk
    refine ⟨fun e => ?_, ?_⟩
    · have := (hrow3.block e).1; omega
    · rintro (e | ⟨e, _⟩)
      · have := hSx _ e; omega
      · omega
  · rintro j (e | ⟨e, _⟩)
    · exact hSx j e
    · omega
  · rw [hls]
    exact PtsO.keep (fun k hk => ⟨hk, ((hkeep.block k (by have := hS k hk; omega) (by have := hS k hk; omega)).trans (hBw.block k (hS k hk))).symm⟩) _ _ hp
  · rw [hls]
    exact ⟨hc1, hc⟩

/-- What the loop leaves, put into the result's variable. -/
theorem OfInv.done {f : Nat} {w wB wr W : World} {E n : Nat} {S Sb : Nat → Prop} {l : List Part} {Aa Ar An At : Option Addr} {ca cr c cn ct m : Nat} {a1 a2 a3 a5 a6 a7 : Value} (hinv : OfInv f w wB wr E S l n (.slice Aa m ca) Ar cr c a1 a2 a3 a5 a6 a7)
    (hE : w.heap.size < E) (hEB : E < wB.heap.size) (hBw : Below w.heap.size w wB) (hkf : Keeps (fun j => j = w.heap.size) wr W) (K N : Int) (s : ByteArray) (names : List ByteArray) (types : List Ty) (hs : s.size ≤ maxLen) (hn1 : names.length ≤ cn) (hn2 : cn ≤ maxLen) (ht1 : types.length ≤ ct) (ht2 : ct ≤ maxLen)
    (hnames : StrsO wB Sb names An) (htypes : TysO wB Sb types At) (hSb : ∀ k, Sb k → w.heap.size < k ∧ k < wB.heap.size ∧ k ≠ E) :
    ExV W (New w W) (.mk K s N (ofList (ofN f) n l).1 names types []) (.agg #[.int .i64 K, .string s, .int .i64 N, .slice Aa m ca, .slice An names.length cn, .slice At types.length ct, .slice none 0 0]) ∧ Below w.heap.size w W := by
  obtain ⟨hkeep, ⟨Sx, hrow, hSx⟩, _, _, _⟩ := hinv
  have hz1 := hBw.size
  have hz2 := hkeep.size
  have hz3 := hkf.size
  have hrow' := hrow.keep hkf (fun k hk _ => by
    subst hk
    refine ⟨fun e => ?_, fun e => ?_⟩
    · have := (hrow.block e).1; omega
    · have := hSx _ e; omega)
  obtain ⟨A1', c1', hv, hl1, hm1, hex⟩ := hrow'.exs (S' := New w W) (fun k hk => ⟨by have := hSx k hk; omega, by have := hrow'.old k hk; omega⟩) (fun k h1 h2 => ⟨by omega, h2⟩)
  simp only [Value.slice.injEq] at hv
  obtain ⟨rfl, rfl, rfl⟩ := hv
  have hkk : ∀ k, Sb k → New w W k ∧ W.heap[k]? = wB.heap[k]? := fun k hk => by
    obtain ⟨h1, h2, h3⟩ := hSb k hk
    exact ⟨⟨by omega, by omega⟩, (hkf.block k (by omega) (by omega)).trans (hkeep.block k h2 h3)⟩
  refine ⟨?_, hBw.trans ((hkeep.below hz1 (fun i hi e => by omega)).trans (hkf.below (by omega) (fun i hi e => by omega)))⟩
  unfold ExV
  exact ⟨_, _, An, cn, At, ct, none, 0, rfl, hs, hl1, hm1, hn1, hn2, ht1, ht2, Nat.le_refl _, Nat.zero_le _, hex, StrsO.keep hkk _ _ hnames, TysO.keep hkk _ _ htypes, by unfold MmsO; trivial⟩

set_option maxRecDepth 100000 in
set_option maxHeartbeats 4000000 in
theorem of_other (f : Nat) (ih : OfAt f) (p : Part) (l : List Part) (w : World) (S : Nat → Prop) (b o c : Nat) (hl : l.length < f) (hS : ∀ k, S k → k < w.heap.size) (hp : PtsO w S (p :: l) (some ⟨b, o, none⟩)) (hc : l.length + 1 ≤ c) (hc9 : c ≤ 10000000000000)
    (h14 : ¬ ((p.k : Int) % 21 = 14)) (h18 : ¬ ((p.k : Int) % 21 = 18)) (h19 : ¬ ((p.k : Int) % 21 = 19)) (h20 : ¬ ((p.k : Int) % 21 = 20)) :
    Calls Try.prog 11 #[.slice (some ⟨b, o, none⟩) (l.length + 1) c] w fun e w' => ∃ v A' c', e = .returned (.tuple #[v, .slice A' (ofN (f + 1) (p :: l)).2.length c']) ∧ ExV w' (New w w') (ofN (f + 1) (p :: l)).1 v ∧ PtsO w S (ofN (f + 1) (p :: l)).2 A' ∧ (ofN (f + 1) (p :: l)).2.length ≤ c' ∧ c' ≤ c ∧ Below w.heap.size w w' := by
  have HP := Lib.hid hp
  obtain ⟨b', o', hbo, hSb, f0, f1, f2, f3, f4, hz, hr⟩ := hp
  simp only [Option.some.injEq, Addr.mk.injEq, and_true] at hbo
  obtain ⟨rfl, rfl⟩ := hbo
  have HR := Lib.hid hr
  obtain ⟨z1, z2, z3, z4⟩ := hz
  unfold maxLen at z4
  have IH := Lib.hid ih
  clear hr ih
  have hbw : b < w.heap.size := hS b hSb
  have e0 := (World.cell?_of_block (a := ⟨b, o, none⟩) (Below.heap_alloc w (.cells #[.int .i64 0, .string ⟨#[]⟩, .int .i64 0, .slice none 0 0, .slice none 0 0, .slice none 0 0, .slice none 0 0] 31) b hbw)).trans f0
  have e1 := (World.cell?_of_block (a := ⟨b, o + 1, none⟩) (Below.heap_alloc w (.cells #[.int .i64 0, .string ⟨#[]⟩, .int .i64 0, .slice none 0 0, .slice none 0 0, .slice none 0 0, .slice none 0 0] 31) b hbw)).trans f1
  have e2 := (World.cell?_of_block (a := ⟨b, o + 2, none⟩) (Below.heap_alloc w (.cells #[.int .i64 0, .string ⟨#[]⟩, .int .i64 0, .slice none 0 0, .slice none 0 0, .slice none 0 0, .slice none 0 0] 31) b hbw)).trans f2
  have e3 := (World.cell?_of_block (a := ⟨b, o + 3, none⟩) (Below.heap_alloc w (.cells #[.int .i64 0, .string ⟨#[]⟩, .int .i64 0, .slice none 0 0, .slice none 0 0, .slice none 0 0, .slice none 0 0] 31) b hbw)).trans f3
  have e4 := (World.cell?_of_block (a := ⟨b, o + 4, none⟩) (Below.heap_alloc w (.cells #[.int .i64 0, .string ⟨#[]⟩, .int .i64 0, .slice none 0 0, .slice none 0 0, .slice none 0 0, .slice none 0 0] 31) b hbw)).trans f4
  clear f0 f1 f2 f3 f4
  obtain ⟨i0, hi, hz0, hz1, hz2⟩ := info_parts infoX
  have kq0 : ((l.length : Int) + 1 == 0) = false := by simp; omega
  have kq1 : ((p.k : Int) % 21 == 14) = false := by simpa using h14
  have kq2 : ((p.k : Int) % 21 == 18) = false := by simpa using h18
  have kq3 : ((p.k : Int) % 21 == 19) = false := by simpa using h19
  have kq4 : ((p.k : Int) % 21 == 20) = false := by simpa using h20
  obtain ⟨cc, hcc⟩ : ∃ cc, cc = c := ⟨_, rfl⟩
  rcases Decidable.em (c = 1) with rfl | hc1
  all_goals
    go_enter Try.func11, Try.ntmps11
    go_wp2
    clear e0 e1 e2 e3 e4
    obtain ⟨wB, hwB⟩ : ∃ wB, wB = ((w.alloc (.cells #[.int .i64 0, .string ⟨#[]⟩, .int .i64 0, .slice none 0 0, .slice none 0 0, .slice none 0 0, .slice none 0 0] 31)).alloc (.cells #[.int .u8 p.k, .string p.s, .int .i64 p.n, .int .u8 p.a, .int .u8 p.t] 55)).alloc (.cells #[.int .i64 ((p.k : Int) % 21), .string p.s, .int .i64 p.n, .slice none 0 0, .slice none 0 0, .slice none 0 0, .slice none 0 0] 31) := ⟨_, rfl⟩
    have hBz : wB.heap.size = w.heap.size + 3 := by rw [hwB]; simp
    have hBE : wB.heap[w.heap.size + 1 + 1]? = some (.cells #[.int .i64 ((p.k : Int) % 21), .string p.s, .int .i64 p.n, .slice none 0 0, .slice none 0 0, .slice none 0 0, .slice none 0 0] 31 (0, 0)) := by
      rw [hwB]; exact heap_at _ _ _ (by simp)
    have hBR : wB.heap[w.heap.size]? = some (.cells #[.int .i64 0, .string ⟨#[]⟩, .int .i64 0, .slice none 0 0, .slice none 0 0, .slice none 0 0, .slice none 0 0] 31 (0, 0)) := by
      rw [hwB]; rw [heap_past _ _ _ (by simp <;> omega), heap_past _ _ _ (by simp), heap_at _ _ _ rfl]
    have hBw : Below w.heap.size w wB := by
      rw [hwB]; exact (((Below.refl _ w).alloc (Nat.le_refl _) _).alloc (by simp) _).alloc (by simp <;> omega) _
    have HBz := Lib.hid hBz
    have HBE := Lib.hid hBE
    have HBR := Lib.hid hBR
    have HBw := Lib.hid hBw
    rw [← hwB]
    clear hwB hBz hBE hBR hBw
    try simp only [kq0, kq1, kq2, kq3, kq4]
    go_loopw [0, 12, 13, 14] (fun x i _ _ wr => ∃ (k : Nat) (va : Value) (Ar : Option Addr) (cr : Nat), x = .slice Ar (ofList (ofN f) k l).2.length cr ∧ i = .int .i64 k ∧ k ≤ p.a % 4 ∧ OfInv f w wB wr (w.heap.size + 1 + 1) S l k va Ar cr cc (.int .i64 ((p.k : Int) % 21)) (.string p.s) (.int .i64 p.n) (.slice none 0 0) (.slice none 0 0) (.slice none 0 0)) (fun _ i _ _ _ => p.a % 4 - (intOf i).toNat)
    case atStart =>
      first
        | exact ⟨0, .slice none 0 0, some ⟨b, o + 5, none⟩, c - 1, rfl, rfl, Nat.zero_le _, ⟨Keeps.refl _ _, ⟨fun _ => False, RowG.nil _ _ _, fun _ h => h.elim⟩, HBE.out, HR.out, ⟨by simp only [ofList]; omega, by omega⟩⟩⟩
        | exact ⟨0, .slice none 0 0, some ⟨b, o, none⟩, 0, by simp only [ofList]; rw [show l.length = 0 by omega], rfl, Nat.zero_le _, ⟨Keeps.refl _ _, ⟨fun _ => False, RowG.nil _ _ _, fun _ h => h.elim⟩, HBE.out, by rw [show l = [] from List.eq_nil_of_length_eq_zero (by omega)]; trivial, ⟨by simp only [ofList]; omega, by omega⟩⟩⟩
    case round =>
      obtain ⟨k, va, Ar, cr, rfl, rfl, hk, hinv⟩ := hrel
      have hls := ofList_succ (ofN f) k l
      have hle := (ofList_ok (ofN_ok f) k l).2.1
      have hln := (ofList_ok (ofN_ok f) k l).1
      have hform := hinv.row
      obtain ⟨Sx, hrow, hSx⟩ := hform
      obtain ⟨Aa, ca, rfl, hna, hma⟩ := hrow.form
      have HInv := Lib.hid hinv
      obtain ⟨hkeep, _, hcell, hpts, hcap, hcap2⟩ := hinv
      obtain ⟨lr, hlr⟩ : ∃ lr, lr = (ofList (ofN f) k l).2 := ⟨_, rfl⟩
      rw [← hlr] at hls hle hpts hcap ⊢
      obtain ⟨es, hes⟩ : ∃ es, es = (ofList (ofN f) k l).1 := ⟨_, rfl⟩
      rw [← hes] at hls hln hrow hna hcell
      have HLs := Lib.hid hls
      have HLn := Lib.hid hln
      have HRow := Lib.hid hrow
      have HKeep := Lib.hid hkeep
      have HPts := Lib.hid hpts
      have HSx := Lib.hid hSx
      have HCell := Lib.hid hcell
      have hbr : Below w.heap.size w wr := HBw.out.trans (hkeep.below HBw.out.size (fun i hi e => by omega))
      have HBr := Lib.hid hbr
      have Hlr := Lib.hid hlr
      have Hes := Lib.hid hes
      clear hls hln hrow hkeep hpts hSx hcell hbr hlr hes
      by_cases hlt : k < p.a % 4
      · have hlf : lr.length < f := by omega
        have hcr9 : cr ≤ 10000000000000 := by omega
        go_wp2_with (first | (go_at_call 11; refine (IH.out lr wr S Ar cr hlf (fun k hk => Nat.lt_of_lt_of_le (hS k hk) HBr.out.size) (PtsO.keep (fun k hk => ⟨hk, HBr.out.block k (hS k hk)⟩) _ _ HPts.out) hcap hcr9).mono ?_; rintro e w1 ⟨xv, A1, c1, rfl, hx, hp1, hc1', hc1'', hb1⟩; have hsz1 := hb1.size; have hEr : w.heap.size + 1 + 1 < wr.heap.size := (Array.getElem?_eq_some_iff.1 HCell.out).1; obtain ⟨k1, s1, n1, aA, nA, cA, aN, nN, cN, aT, nT, cT, aM, nM, cM, rfl⟩ := hx.form; have hE1 := (hb1.block _ hEr).trans HCell.out; have g3 : (w1.alloc (.cells #[.int .i64 k1, .string s1, .int .i64 n1, .slice aA nA cA, .slice aN nN cN, .slice aT nT cT, .slice aM nM cM] 31)).cell? ⟨w.heap.size + 1 + 1, 3, none⟩ = some (.slice Aa es.length ca) := blk_cell ((heap_past w1 _ _ (by omega)).trans hE1) 3; obtain ⟨hready, hitem⟩ := push_ready (T := srtE) (t := 31) HRow.out hb1 hx (.cells #[.int .i64 k1, .string s1, .int .i64 n1, .slice aA nA cA, .slice aN nN cN, .slice aT nT cT, .slice aM nM cM] 31) (.cells #[.int .i64 k1, .string s1, .int .i64 n1, .slice aA nA cA, .slice aN nN cN, .slice aT nT cT, .slice aM nM cM] 31); have hE2 : ((w1.alloc (.cells #[.int .i64 k1, .string s1, .int .i64 n1, .slice aA nA cA, .slice aN nN cN, .slice aT nT cT, .slice aM nM cM] 31)).alloc (.cells #[.int .i64 k1, .string s1, .int .i64 n1, .slice aA nA cA, .slice aN nN cN, .slice aT nT cT, .slice aM nM cM] 31)).heap[w.heap.size + 1 + 1]? = _ := (heap_past _ _ _ (by simp; omega)).trans ((heap_past w1 _ _ (by omega)).trans hE1); (have hvE : (Value.slice Aa es.length ca).ownBlock ≠ some (w.heap.size + 1 + 1) := fun e => by have := (HRow.out.block e).1; have := HBz.out; omega); have HReady := Lib.hid hready; have HItem := Lib.hid hitem; have HE2 := Lib.hid hE2; have HvE := Lib.hid hvE; have HB1 := Lib.hid hb1; have HX := Lib.hid hx; have HP1 := Lib.hid hp1; clear hready hitem hE1 hE2 hvE hb1 hx hp1) | (at_builtin; go_loud (refine wpList_grow (T := srtE) (ms := [(ofN f lr).1]) rfl (.tmp 149) (.tmp 151) 26 31 rfl i0 _ 128 Try.underlying26 hi hz0 hz1 hz2 rfl rfl HReady.out ⟨w1.heap.size + 1, 0, none⟩ 1 [.int .i64 k1, .string s1, .int .i64 n1, .slice aA nA cA, .slice aN nN cN, .slice aT nT cT, .slice aM nM cM] rfl (fun j u hj => cell_new_add _ _ _ _ (by simp) j u hj) HItem.out (by have := HLn.out; simp; omega) (by decide) (by have := HKeep.out.size; simp; omega) (by simp) ?_); intro v' w3 hrow3 hk3 hb3; obtain ⟨A3, c3, rfl, hn3, hm3⟩ := hrow3.form; go_loud (have hE3 := (hk3.block _ (by simp; omega) HvE.out).trans HE2.out; have hc3 : w3.cell? ⟨w.heap.size + 1 + 1, 3, none⟩ = some (.slice Aa es.length ca) := blk_cell hE3 3; have hf3 : w3.frozen? ⟨w.heap.size + 1 + 1, 3, none⟩ = false := blk_frozen hE3; have HE3 := Lib.hid hE3; have HRow3 := Lib.hid hrow3; have HK3 := Lib.hid hk3; clear hE3 hrow3 hk3 g3)))
        go_roundw
        case rel => exact ⟨k + 1, .slice A3 (es.length + 1) c3, A1, c1, by rw [HLs.out], by go_num, by omega, OfInv.next (by omega) (by have := HBz.out; omega) HLs.out hS HBw.out HKeep.out HRow.out HSx.out HB1.out HK3.out (by have h := HRow3.out; rwa [show (es ++ [(ofN f lr).1]).length = es.length + 1 by simp] at h) HE3.out HP1.out hc1' (by omega)⟩
        case measure => simp [intOf]; omega
      · have hkn : k = p.a % 4 := by omega
        have cE := blk_cell HCell.out
        have hRr : wr.heap[w.heap.size]? = _ := (HKeep.out.block _ (by have := HBz.out; omega) (by omega)).trans HBR.out
        have cR := blk_cell hRr
        obtain ⟨q0, q1, q2, q3, q4, q5, q6⟩ := (⟨cE 0, cE 1, cE 2, cE 3, cE 4, cE 5, cE 6⟩ : _ ∧ _ ∧ _ ∧ _ ∧ _ ∧ _ ∧ _)
        obtain ⟨r0, r1, r2, r3, r4, r5, r6⟩ := (⟨cR 0, cR 1, cR 2, cR 3, cR 4, cR 5, cR 6⟩ : _ ∧ _ ∧ _ ∧ _ ∧ _ ∧ _ ∧ _)
        have fR : ∀ j, wr.frozen? ⟨w.heap.size, j, none⟩ = false := fun j => blk_frozen hRr
        obtain ⟨t0, t1, t2, t3, t4, t5, t6⟩ := (⟨fR 0, fR 1, fR 2, fR 3, fR 4, fR 5, fR 6⟩ : _ ∧ _ ∧ _ ∧ _ ∧ _ ∧ _ ∧ _)
        clear cE cR fR
        go_wp2_with fail
        have hkf := keeps_set7 wr w.heap.size (.int .i64 ((p.k : Int) % 21)) (.string p.s) (.int .i64 p.n) (.slice Aa es.length ca) (.slice none 0 0) (.slice none 0 0) (.slice none 0 0)
        refine bodyPost_ret (v := .tuple #[.agg #[.int .i64 ((p.k : Int) % 21), .string p.s, .int .i64 p.n, .slice Aa es.length ca, .slice none 0 0, .slice none 0 0, .slice none 0 0], .slice Ar lr.length cr]) (by simp [results, Try.results11, go_sem, r0, r1, r2, r3, r4, r5, r6]) rfl ?_
        obtain ⟨hfin, hbel⟩ := OfInv.done (Sb := fun _ => False) (cn := 0) (ct := 0) (An := none) (At := none) HInv.out (by omega) (by have := HBz.out; omega) HBw.out hkf ((p.k : Int) % 21) p.n p.s [] [] (by unfold maxLen; omega) (Nat.le_refl _) (Nat.zero_le _) (Nat.le_refl _) (Nat.zero_le _) (by unfold StrsO; trivial) (by unfold TysO; trivial) (fun _ h => h.elim)
        have hof : ofN (f + 1) (p :: l) = (.mk ((p.k : Int) % 21) p.s p.n (ofList (ofN f) k l).1 [] [] [], (ofList (ofN f) k l).2) := by
          rw [hkn]
          have e : ofN (f + 1) (p :: l) = if p.k % 21 = 14 then (.mk 14 p.s p.n [] [] [] (ofMems (ofN f) (p.a % 4) l).1, (ofMems (ofN f) (p.a % 4) l).2)
            else (.mk ((p.k % 21 : Nat) : Int) (if p.k % 21 = 18 then ⟨#[]⟩ else p.s) p.n (ofList (ofN f) (p.a % 4) l).1 (if p.k % 21 = 18 then List.replicate (p.a % 4) p.s else []) (ofTypes (p.k % 21) p.t) [], (ofList (ofN f) (p.a % 4) l).2) := rfl
          rw [e, if_neg (by omega), if_neg (by omega), if_neg (by omega), ofTypes, if_neg (by omega), if_neg (by omega)]
          simp
        rw [← Hes.out] at hfin hof
        rw [hof, ← Hlr.out]
        exact ⟨_, Ar, cr, rfl, hfin, HPts.out, hcap, by omega, hbel⟩
end Go.Proofs.Ythgbldkcgfggfaa

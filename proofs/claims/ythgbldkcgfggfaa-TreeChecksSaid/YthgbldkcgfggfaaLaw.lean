/-
  What the laws of layer 2 are handed: parts in a row, opened to cells.
-/
import Derived.Test.YthgbldkcgfggfaaRows
import Derived.Test.YthgbldkcgfggfaaOfAny
import Derived.ProofKit
import Derived.SizedLaws
import Derived.Carry
import Derived.Deep.Slices
import Derived.Deep.Fields
import Derived.ChangeSame
namespace Go.Proofs.Ythgbldkcgfggfaa
open Go.ChangeShapes Go.WideShapes Go.ChangeAt Go.RowKit Go.Deep

theorem lawOwn : ownKnob Try.prog.godebug = none := by kernel_rfl
theorem lawLaid : laidOutB Try.prog = true := by kernel_rfl
theorem cellsPart : Try.prog.cellsOf 55 = 5 := by kernel_rfl
theorem bytesPart : Try.prog.bytesOf 55 = 40 := by kernel_rfl

section
variable {H : Type} {enc : TypeId × Value → H} {P : Program} {w : World} {base : Nat} {spare : Nat → Bool} {held : Bool}
theorem open_slice_fields {t e : TypeId} {fs : Array Field} {fuel : Nat} {cs : List Value} {x : DataW H × List MemPlace} (ht : P.underlying t = some (.slice e)) (he : P.underlying e = some (.struct fs))
    (hone : oneCellFields P fs = true) (hC : P.cellsOf e = fs.size) (h : DataW.trod enc P w base spare held fuel t cs = some x) :
    (cs = [.slice none 0 0] ∧ x = (.nil, [])) ∨
    ∃ (a : Addr) (len cap m : Nat) (D : Nat → DataW H) (Pl : Nat → List MemPlace), cs = [.slice (some a) len cap] ∧ base ≤ a.block ∧ len ≤ cap ∧ cap ≤ maxLen ∧ m = (if spare a.block then cap else len) ∧
      x = (.slice ((List.range len).map D) ((List.range (m - len)).map fun j => D (len + j)), MemPlace.row a (m * fs.size) ++ (List.range m).flatMap Pl) ∧
      ∀ i, i < m → ∃ (ys : List (DataW H × List MemPlace)) (n : Nat), D i = .agg (ys.map (·.1)) ∧ Pl i = ys.flatMap (·.2) ∧ ys.length = fs.size ∧
        ∀ (j : Nat) (f : Field), fs[j]? = some f → ∃ (v : Value) (y : DataW H × List MemPlace), w.cell? (a.add (i * fs.size + j)) = some v ∧ ys[j]? = some y ∧ DataW.trod enc P w base spare held n f.type [v] = some y := by
  rcases open_slice ht h with h0 | ⟨a, len, cap, m, n, D, Pl, hcs, hb, hl, hm, hmm, hx, hi⟩
  · exact .inl h0
  · refine .inr ⟨a, len, cap, m, D, Pl, hcs, hb, hl, hm, hmm, by rw [hC] at hx; exact hx, fun i him => ?_⟩
    obtain ⟨cs', hc, ht'⟩ := hi i him
    rw [hC] at hc
    obtain ⟨ys, n', hn', hy, hlen, hyl, hf⟩ := DataW.trod_struct he ht'
    obtain ⟨_, hcl, hat⟩ := World.cells?_some hc
    simp only [Prod.mk.injEq] at hy
    refine ⟨ys, n', hy.1, hy.2, hyl, fun j f hj => ?_⟩
    obtain ⟨ho, hk⟩ := hone_of hone j f hj
    have hjl : j < fs.size := (Array.getElem?_eq_some_iff.1 hj).1
    have hcell := hat j hjl
    have hv : cs'[j]? = some (cs'[j]'(by omega)) := List.getElem?_eq_getElem (by omega)
    have h1 := hf j f hj
    rw [ho, hk] at h1
    have hone' : (cs'.drop j).take 1 = [cs'[j]'(by omega)] := by
      rw [List.drop_eq_getElem_cons (by omega)]
      rfl
    rw [hone'] at h1
    have hys : ys[j]? = some (ys[j]'(by omega)) := List.getElem?_eq_getElem (by omega)
    refine ⟨_, _, ?_, hys, h1.trans hys⟩
    rw [← Go.Deep.add_add, hcell, hv]
end

theorem u8_bounds {n : Int} (h : (Lit.int .u8 n).wf = true) : 0 ≤ n ∧ n < 256 := by
  have h1 : IntKind.u8.min = 0 := rfl
  have h2 : IntKind.u8.max = 255 := rfl
  simp only [Lit.wf, Bool.and_eq_true, decide_eq_true_eq] at h
  omega

theorem parts_of {w : World} {S : Nat → Prop} (b : Nat) (hS : S b) : ∀ (n o : Nat), (∀ i, i < n → ∃ p : Part, w.cell? ⟨b, o + i * 5, none⟩ = some (.int .u8 p.k) ∧ w.cell? ⟨b, o + i * 5 + 1, none⟩ = some (.string p.s) ∧ w.cell? ⟨b, o + i * 5 + 2, none⟩ = some (.int .i64 p.n) ∧ w.cell? ⟨b, o + i * 5 + 3, none⟩ = some (.int .u8 p.a) ∧
    w.cell? ⟨b, o + i * 5 + 4, none⟩ = some (.int .u8 p.t) ∧ (p.k < 256 ∧ p.a < 256 ∧ p.t < 256 ∧ p.s.size ≤ maxLen)) → ∃ l : List Part, l.length = n ∧ PtsO w S l (some ⟨b, o, none⟩)
  | 0, _, _ => ⟨[], rfl, trivial⟩
  | n + 1, o, h => by
    obtain ⟨p, h0, h1, h2, h3, h4, h5⟩ := h 0 (by omega)
    obtain ⟨l, hl, hp⟩ := parts_of b hS n (o + 5) (fun i hi => by
      have := h (i + 1) (by omega)
      rw [show o + (i + 1) * 5 = o + 5 + i * 5 by omega] at this
      exact this)
    simp only [Nat.zero_mul, Nat.add_zero] at h0 h1 h2 h3 h4
    exact ⟨p :: l, by simp [hl], b, o, rfl, hS, h0, h1, h2, h3, h4, h5, hp⟩

section
variable {H : Type} {enc : TypeId × Value → H} {W : World}
/-- Parts that a law is handed. -/
theorem open_parts {v : Value} {d : DataW H} {p : List MemPlace} {args : List (DataW H)} {ts : List TypeId} {j : Nat} (h : DataW.Trod enc Try.prog W 0 (fun _ => true) true 22 v d p)
    (hform : ∃ a len cap, v = .slice a len cap) (hsz : (DataW.weightsEach Try.prog ts args).all (· ≤ reachBytes) = true) (hj : args[j]? = some d) (ht : ts[j]? = some 22) :
    ∃ (l : List Part) (A : Option Addr) (c : Nat), v = .slice A l.length c ∧ l.length ≤ c ∧ c ≤ 10000000000000 ∧ PtsO W (fun k => k < W.heap.size) l A := by
  obtain ⟨a0, len, cap, rfl⟩ := hform
  obtain ⟨fuel, hf⟩ := h
  rcases open_slice_fields Try.underlying22 Try.underlying55 (by kernel_rfl) (by rw [cellsPart]; rfl) hf with ⟨hcs, _⟩ | ⟨a, len', cap', m, D, Pl, hcs, _, hl, hm, hmm, hx, hi⟩
  · simp [Value.cells] at hcs
    obtain ⟨rfl, rfl, rfl⟩ := hcs
    exact ⟨[], none, 0, rfl, Nat.le_refl _, Nat.zero_le _, trivial⟩
  · simp [Value.cells] at hcs
    obtain ⟨rfl, rfl, rfl⟩ := hcs
    simp only [if_true] at hmm
    subst hmm
    simp only [Prod.mk.injEq] at hx
    obtain ⟨rfl, rfl⟩ := hx
    have hb := sized_slice hsz ht hj Try.underlying22
    rw [bytesPart] at hb
    simp only [List.length_map, List.length_range, reachBytes] at hb
    by_cases hl0 : len = 0
    · subst hl0
      exact ⟨[], some a, m, rfl, Nat.zero_le _, by omega, trivial⟩
    · obtain ⟨b, off, spot⟩ := a
      have hfld : ∀ i, i < m → ∃ q : Part, W.cell? ((⟨b, off, spot⟩ : Addr).add (i * 5 + 0)) = some (.int .u8 q.k) ∧ W.cell? ((⟨b, off, spot⟩ : Addr).add (i * 5 + 1)) = some (.string q.s) ∧ W.cell? ((⟨b, off, spot⟩ : Addr).add (i * 5 + 2)) = some (.int .i64 q.n) ∧ W.cell? ((⟨b, off, spot⟩ : Addr).add (i * 5 + 3)) = some (.int .u8 q.a) ∧
          W.cell? ((⟨b, off, spot⟩ : Addr).add (i * 5 + 4)) = some (.int .u8 q.t) ∧ (q.k < 256 ∧ q.a < 256 ∧ q.t < 256 ∧ q.s.size ≤ maxLen) := by
        intro i him
        obtain ⟨ys, n, _, _, _, hq⟩ := hi i him
        obtain ⟨v0, y0, c0, _, t0⟩ := hq 0 _ rfl
        obtain ⟨v1, y1, c1, _, t1⟩ := hq 1 _ rfl
        obtain ⟨v2, y2, c2, _, t2⟩ := hq 2 _ rfl
        obtain ⟨v3, y3, c3, _, t3⟩ := hq 3 _ rfl
        obtain ⟨v4, y4, c4, _, t4⟩ := hq 4 _ rfl
        obtain ⟨n0, e0, _, w0⟩ := DataW.trod_int Try.underlying5 t0
        obtain ⟨s1, e1, _, w1⟩ := DataW.trod_string Try.underlying9 t1
        obtain ⟨n2, e2, _, _⟩ := DataW.trod_int Try.underlying2 t2
        obtain ⟨n3, e3, _, w3⟩ := DataW.trod_int Try.underlying5 t3
        obtain ⟨n4, e4, _, w4⟩ := DataW.trod_int Try.underlying5 t4
        simp only [List.cons.injEq, and_true] at e0 e1 e2 e3 e4
        subst e0 e1 e2 e3 e4
        have b0 := u8_bounds w0
        have b3 := u8_bounds w3
        have b4 := u8_bounds w4
        refine ⟨⟨n0.toNat, s1, n2, n3.toNat, n4.toNat⟩, ?_, c1, c2, ?_, ?_, by simp only []; omega, by simp only []; omega, by simp only []; omega, w1⟩
        · rw [show ((n0.toNat : Nat) : Int) = n0 by omega]; exact c0
        · rw [show ((n3.toNat : Nat) : Int) = n3 by omega]; exact c3
        · rw [show ((n4.toNat : Nat) : Int) = n4 by omega]; exact c4
      have hspot : spot = none := by
        obtain ⟨q, h0, _⟩ := hfld 0 (by omega)
        simpa [Addr.add] using World.cell?_spot h0
      subst hspot
      have hplain : ∀ j, (⟨b, off, none⟩ : Addr).add j = ⟨b, off + j, none⟩ := add_plain b off
      have hbl : b < W.heap.size := by
        obtain ⟨q, h0, _⟩ := hfld 0 (by omega)
        have := World.block_lt_of_cell? W _ h0
        simpa [hplain] using this
      obtain ⟨l, hll, hp⟩ := parts_of (w := W) (S := fun k => k < W.heap.size) b hbl len off (fun i hi => by
        obtain ⟨q, h0, h1, h2, h3, h4, h5⟩ := hfld i (by omega)
        rw [hplain] at h0 h1 h2 h3 h4
        exact ⟨q, h0, h1, h2, h3, h4, h5⟩)
      subst hll
      exact ⟨l, _, m, rfl, hl, by omega, hp⟩
end

end Go.Proofs.Ythgbldkcgfggfaa

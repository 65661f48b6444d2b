/-
  trefoillaw13.alive is true; trefoillaw13.good.
-/
import Derived.Test.YtnhdgndjpkdhdaaNFreshDM
import Derived.Test.YtnhdgndjpkdhdaaDGreat
namespace Go.Proofs.Ytnhdgndjpkdhdaa
open Go.RowKit

def exVar : RNd := ⟨1, ⟨#[]⟩, [], [], false⟩
def exArr (a b : Int) : RNd := ⟨2, ⟨#[45, 62]⟩, [a, b], [], false⟩
def exA : RGr := ⟨[exArr 1 2, exVar, exVar], 0⟩
theorem exA_f : exA.fcode [2] = 0 := by decide +kernel
theorem exA_m : exA.mcode [2] = 0 := by decide +kernel
theorem exA_len : (exA.freshU [2]).nodes.length = 5 := by decide +kernel
theorem exA_root : (exA.freshU [2]).root = 3 := by decide +kernel
theorem exA_args : ((exA.freshU [2]).nodes[3]?).map RNd.args = some [4, 2] := by decide +kernel
theorem exA_gen : exA.genU [2] = [1] := by decide +kernel
theorem exA_es : exA.es.length ≤ 4000000 := by decide +kernel
theorem exA_fits : exA.fits := fun x hx => by
  simp [exA] at hx
  rcases hx with rfl | rfl <;> decide
theorem ndP_mk {W : World} {S : Nat → Prop} {b o : Nat} {x : RNd} {aA aL : Option Addr} {cA cL : Nat} (hb : S b) (h0 : W.cell? ⟨b, o, none⟩ = some (.int .i64 x.kind)) (h1 : W.cell? ⟨b, o + 1, none⟩ = some (.string x.name)) (h2 : W.cell? ⟨b, o + 2, none⟩ = some (.slice aA x.args.length cA)) (h3 : W.cell? ⟨b, o + 3, none⟩ = some (.slice aL x.labels.length cL)) (h4 : W.cell? ⟨b, o + 4, none⟩ = some (.bool x.op))
    (hn : x.name.size ≤ maxLen) (g1 : x.args.length ≤ cA) (g2 : cA ≤ maxLen) (g3 : x.labels.length ≤ cL) (g4 : cL ≤ maxLen) (g5 : IntsO W S x.args aA) (g6 : StrsO W S x.labels aL) : NdP W S b o x := by
  refine ⟨hb, _, ?_, aA, cA, aL, cL, rfl, hn, g1, g2, g3, g4, g5, g6⟩
  intro j u hu
  match j with
  | 0 => simp [Value.cells] at hu; subst hu; exact h0
  | 1 => simp [Value.cells] at hu; subst hu; exact h1
  | 2 => simp [Value.cells] at hu; subst hu; exact h2
  | 3 => simp [Value.cells] at hu; subst hu; exact h3
  | 4 => simp [Value.cells] at hu; subst hu; exact h4
  | n + 5 => simp [Value.cells] at hu

theorem ex_arr {W : World} {S : Nat → Prop} {b o i : Nat} {x y : Int} (hb : S b) (hi : S i) (h0 : W.cell? ⟨b, o, none⟩ = some (.int .i64 2)) (h1 : W.cell? ⟨b, o + 1, none⟩ = some (.string ⟨#[45, 62]⟩)) (h2 : W.cell? ⟨b, o + 2, none⟩ = some (.slice (some ⟨i, 0, none⟩) 2 2)) (h3 : W.cell? ⟨b, o + 3, none⟩ = some (.slice none 0 0)) (h4 : W.cell? ⟨b, o + 4, none⟩ = some (.bool false))
    (k0 : W.cell? ⟨i, 0, none⟩ = some (.int .i64 x)) (k1 : W.cell? ⟨i, 1, none⟩ = some (.int .i64 y)) : NdP W S b o (exArr x y) :=
  ndP_mk (x := exArr x y) hb h0 h1 h2 h3 h4 (show (2 : Nat) ≤ maxLen by decide) (Nat.le_refl _) (by decide) (Nat.le_refl _) (by decide) ⟨i, 0, rfl, hi, k0, i, 1, rfl, hi, k1, trivial⟩ trivial
theorem ex_var {W : World} {S : Nat → Prop} {b o : Nat} (hb : S b) (h0 : W.cell? ⟨b, o, none⟩ = some (.int .i64 1)) (h1 : W.cell? ⟨b, o + 1, none⟩ = some (.string ⟨#[]⟩)) (h2 : W.cell? ⟨b, o + 2, none⟩ = some (.slice none 0 0)) (h3 : W.cell? ⟨b, o + 3, none⟩ = some (.slice none 0 0)) (h4 : W.cell? ⟨b, o + 4, none⟩ = some (.bool false)) : NdP W S b o exVar :=
  ndP_mk hb h0 h1 h2 h3 h4 (by decide) (Nat.le_refl _) (by decide) (Nat.le_refl _) (by decide) trivial trivial


/-- The world in which the example stands. -/
def exW (w : World) : World := ((w.alloc (.cells #[.int .i64 1, .int .i64 2] 3)).alloc (.cells #[.int .i64 2, .string ⟨#[45, 62]⟩, .slice (some ⟨w.heap.size, 0, none⟩) 2 2, .slice none 0 0, .bool false, .int .i64 1, .string ⟨#[]⟩, .slice none 0 0, .slice none 0 0, .bool false, .int .i64 1, .string ⟨#[]⟩, .slice none 0 0, .slice none 0 0, .bool false] 37)).alloc (.cells #[.slice (some ⟨w.heap.size + 1, 0, none⟩) 3 3, .int .i64 0] 24)

theorem exW_facts (w : World) : Below w.heap.size w (exW w) ∧ (exW w).heap.size = w.heap.size + 3 ∧ GrV (exW w) (fun k => k < (exW w).heap.size) exA (.agg #[.slice (some ⟨w.heap.size + 1, 0, none⟩) 3 3, .int .i64 0]) ∧ Blk (exW w) (w.heap.size + 1 + 1) (.cells #[.slice (some ⟨w.heap.size + 1, 0, none⟩) 3 3, .int .i64 0] 24 (0, 0)) := by
  have hz : (exW w).heap.size = w.heap.size + 3 := by unfold exW; simp
  have q1 : Blk (exW w) w.heap.size (.cells #[.int .i64 1, .int .i64 2] 3 (0, 0)) := by unfold exW; exact ((Blk.new' _ _ _ (by simp)).alloc _).alloc _
  have q2 : Blk (exW w) (w.heap.size + 1) (.cells #[.int .i64 2, .string ⟨#[45, 62]⟩, .slice (some ⟨w.heap.size, 0, none⟩) 2 2, .slice none 0 0, .bool false, .int .i64 1, .string ⟨#[]⟩, .slice none 0 0, .slice none 0 0, .bool false, .int .i64 1, .string ⟨#[]⟩, .slice none 0 0, .slice none 0 0, .bool false] 37 (0, 0)) := by unfold exW; exact (Blk.new' _ _ _ (by simp)).alloc _
  have q3 : Blk (exW w) (w.heap.size + 1 + 1) (.cells #[.slice (some ⟨w.heap.size + 1, 0, none⟩) 3 3, .int .i64 0] 24 (0, 0)) := by unfold exW; exact Blk.new' _ _ _ (by simp)
  refine ⟨?_, hz, ⟨_, 3, rfl, Nat.le_refl _, by decide, _, 0, rfl, ?_, _, 5, rfl, ?_, _, 10, rfl, ?_, trivial⟩, q3⟩
  · unfold exW
    exact ((((Below.refl _ _).alloc (Nat.le_refl _) _).alloc (by simp) _).alloc (by simp; omega) _)
  · exact ex_arr (by rw [hz]; omega) (i := w.heap.size) (by rw [hz]; omega) (q2.cells.1 0) (q2.cells.1 1) (q2.cells.1 2) (q2.cells.1 3) (q2.cells.1 4) (q1.cells.1 0) (q1.cells.1 1)
  · exact ex_var (by rw [hz]; omega) (q2.cells.1 5) (q2.cells.1 6) (q2.cells.1 7) (q2.cells.1 8) (q2.cells.1 9)
  · exact ex_var (by rw [hz]; omega) (q2.cells.1 10) (q2.cells.1 11) (q2.cells.1 12) (q2.cells.1 13) (q2.cells.1 14)

set_option maxRecDepth 100000 in
set_option maxHeartbeats 1000000 in
theorem alive13_r (w : World) : Calls Try.prog 7 #[] w fun e w' => e = .returned (.bool true) ∧ Below w.heap.size w w' := by
  obtain ⟨hb, hz, hg, q3⟩ := exW_facts w
  obtain ⟨wE, hE⟩ : ∃ x, exW w = x := ⟨_, rfl⟩
  rw [hE] at hb hz hg q3
  unfold exW at hE
  have hK : ∀ W, BelC wE W → GrV W (fun k => k < wE.heap.size) exA (.agg #[.slice (some ⟨w.heap.size + 1, 0, none⟩) 3 3, .int .i64 0]) ∧ (∀ k, k < wE.heap.size → k < W.heap.size) ∧ W.cell? ⟨w.heap.size + 1 + 1, 0, none⟩ = some (.slice (some ⟨w.heap.size + 1, 0, none⟩) 3 3) ∧ W.cell? ⟨w.heap.size + 1 + 1, 1, none⟩ = some (.int .i64 0) := fun W hW =>
    ⟨hg.keep (fun k hk => ⟨hk, Below.block hW k hk⟩), fun k hk => Nat.lt_of_lt_of_le hk (Below.size hW), BelC.old hW (q3.cells.1 0), BelC.old hW (q3.cells.1 1)⟩
  have h2 : ∀ (W : World) (b : Nat), b = W.heap.size → IntsO (W.alloc (.cells #[.int .i64 2] 3)) (fun k => k = b) [2] (some ⟨b, 0, none⟩) := fun W b hb => by
    have q : Blk (W.alloc (.cells #[.int .i64 2] 3)) b (.cells #[.int .i64 2] 3 (0, 0)) := Blk.new' _ _ _ hb
    exact ⟨b, 0, rfl, rfl, q.cells.1 0, trivial⟩
  have hfr : ∀ X, X = wE → Calls Try.prog 13 #[.agg #[.slice (some ⟨w.heap.size + 1, 0, none⟩) 3 3, .int .i64 0], .slice (some ⟨wE.heap.size, 0, none⟩) 1 1] (X.alloc (.cells #[.int .i64 2] 3)) fun e w' => ∃ A2 c2, e = .returned (.tuple #[.agg #[.slice A2 5 c2, .int .i64 3], .int .i64 0]) ∧ 5 ≤ c2 ∧ c2 ≤ maxLen ∧ NdsO w' (New (wE.alloc (.cells #[.int .i64 2] 3)).heap.size w') (exA.freshU [2]).nodes A2 ∧ Below (wE.alloc (.cells #[.int .i64 2] 3)).heap.size (wE.alloc (.cells #[.int .i64 2] 3)) w' := fun X hX => by
    subst hX
    have hbA : BelC X (X.alloc (.cells #[.int .i64 2] 3)) := (BelC.refl _).alloc _
    obtain ⟨k1, k2, _, _⟩ := hK _ hbA
    have h := dFresh_r (X.alloc (.cells #[.int .i64 2] 3)) (fun k => k < X.heap.size) (fun k => k = X.heap.size) exA _ [2] (some ⟨X.heap.size, 0, none⟩) 1 exA_fits (fun _ => exA_es) k2 k1 (fun k hk => by subst hk; simp) (h2 X _ rfl) (Nat.le_refl _) (by decide)
    rw [exA_f] at h
    refine h.mono ?_
    rintro e w' ⟨v', rfl, ⟨A2, c2, rfl, r1, r2, r3⟩, hb'⟩
    rw [exA_len] at r1 ⊢
    rw [exA_root]
    exact ⟨A2, c2, rfl, r1, r2, r3, hb'⟩
  have hge : ∀ W, BelC wE W → Calls Try.prog 11 #[.agg #[.slice (some ⟨w.heap.size + 1, 0, none⟩) 3 3, .int .i64 0], .slice (some ⟨W.heap.size, 0, none⟩) 1 1] (W.alloc (.cells #[.int .i64 2] 3)) fun e w' => ∃ b c o, e = .returned (.tuple #[.slice (some ⟨b, o, none⟩) 1 c, .int .i64 0]) ∧ 1 ≤ c ∧ c ≤ maxLen ∧ w'.cell? ⟨b, o, none⟩ = some (.int .i64 1) ∧ Below (W.alloc (.cells #[.int .i64 2] 3)).heap.size (W.alloc (.cells #[.int .i64 2] 3)) w' := fun W hW => by
    obtain ⟨k1, k2, _, _⟩ := hK _ (hW.alloc (.cells #[.int .i64 2] 3))
    have h := generic2_r (W.alloc (.cells #[.int .i64 2] 3)) (fun k => k < wE.heap.size) (fun k => k = W.heap.size) exA _ [2] (some ⟨W.heap.size, 0, none⟩) 1 k2 k1 (fun k hk => by subst hk; simp) (h2 W _ rfl) (Nat.le_refl _) (by decide)
    rw [exA_m, exA_gen] at h
    refine h.mono ?_
    rintro e w' ⟨A, c, rfl, r1, r2, r3, hb'⟩
    obtain ⟨b, o, rfl, _, r4, _⟩ := r3
    exact ⟨b, c, o, rfl, r1, r2, r4, hb'⟩
  have HK := Lib.hid hK
  have HB := Lib.hid hb
  have HFr := Lib.hid hfr
  have HGe := Lib.hid hge
  have HE := Lib.hid hE
  have hz1 : (wE.alloc (.cells #[.int .i64 2] 3)).heap.size = w.heap.size + 4 := by simp [hz]
  have hlt : w.heap.size + 1 + 1 < wE.heap.size := by omega
  have hbx : wE.heap.size = w.heap.size + 1 + 1 + 1 := by omega
  have HZ := Lib.hid hz
  clear hK hb hg q3 hfr hge h2 hE hz
  go_enter Try.func7, Try.ntmps7
  go_wp2_with fail
  rw [HE.out, ← hbx]
  refine (HFr.out _ rfl).mono ?_
  rintro e w2 ⟨A2, c2, rfl, r1, r2, r3, hb2⟩
  have hbE : BelC wE w2 := Below.trans ((BelC.refl wE).alloc _) (hb2.mono (by simp))
  have hn3 := NdsO.get _ _ r3 3 (by rw [exA_len]; decide)
  obtain ⟨x, hx⟩ : ∃ x, x = (exA.freshU [2]).nodes[3]'(by rw [exA_len]; decide) := ⟨_, rfl⟩
  have hxa : x.args = [4, 2] := by
    have h := exA_args
    rw [List.getElem?_eq_getElem (by rw [exA_len]; decide), ← hx] at h
    simpa using h
  rw [← hx] at hn3
  obtain ⟨b3, o3, rfl, hnp⟩ := hn3
  obtain ⟨xA, yA, xL, yL, f0, f1, f2, f3, f4, h1, h2, h3, h4, h5, h6, h7, h8⟩ := hnp.val
  rw [hxa] at f2 h2 h6
  obtain ⟨bi, oi, rfl, hbi, i0, bi', oi', e', hbi', i1, _⟩ := h6
  simp only [Option.some.injEq, Addr.mk.injEq, and_true] at e'
  obtain ⟨rfl, rfl⟩ := e'
  have hwF : (w2.alloc (.cells #[.slice (some ⟨b3, o3, none⟩) 5 c2, .int .i64 3] 24)).heap.size = w2.heap.size + 1 := by simp
  have hge2 := HGe.out (w2.alloc (.cells #[.slice (some ⟨b3, o3, none⟩) 5 c2, .int .i64 3] 24)) (hbE.alloc _)
  rw [hwF] at hge2
  have hcell : ∀ W, BelC (w2.alloc (.cells #[.slice (some ⟨b3, o3, none⟩) 5 c2, .int .i64 3] 24)) W → W.cell? ⟨b3, o3 + 3 * 5 + 2, none⟩ = some (.slice (some ⟨bi, oi, none⟩) 2 yA) ∧ W.cell? ⟨bi, oi, none⟩ = some (.int .i64 4) ∧ W.cell? ⟨bi, oi + 1, none⟩ = some (.int .i64 2) ∧ W.cell? ⟨w2.heap.size, 0, none⟩ = some (.slice (some ⟨b3, o3, none⟩) 5 c2) ∧ W.cell? ⟨w2.heap.size, 1, none⟩ = some (.int .i64 3) := fun W hW => by
    have hA : BelC w2 (w2.alloc (.cells #[.slice (some ⟨b3, o3, none⟩) 5 c2, .int .i64 3] 24)) := (BelC.refl w2).alloc _
    have q : Blk (w2.alloc (.cells #[.slice (some ⟨b3, o3, none⟩) 5 c2, .int .i64 3] 24)) w2.heap.size (.cells #[.slice (some ⟨b3, o3, none⟩) 5 c2, .int .i64 3] 24 (0, 0)) := Blk.new' _ _ _ rfl
    exact ⟨BelC.old hW (hA.old f2), BelC.old hW (hA.old i0), BelC.old hW (hA.old i1), BelC.old hW (q.cells.1 0), BelC.old hW (q.cells.1 1)⟩
  have HGe2 := Lib.hid hge2
  have HCl := Lib.hid hcell
  have HBE := Lib.hid hbE
  have hbF : BelC wE (w2.alloc (.cells #[.slice (some ⟨b3, o3, none⟩) 5 c2, .int .i64 3] 24)) := hbE.alloc _
  obtain ⟨_, _, k3, k4⟩ := HK.out _ hbF
  unfold maxLen at r2 h3
  clear hge2 hcell hwF hbE hbF r3 hb2 hx hxa hnp f0 f1 f2 f3 f4 h1 h2 h4 h5 h7 h8 i0 i1 hbi hbi' HFr HGe
  go_wp2_with (go_at_call 11; (with_reducible refine HGe2.out.mono ?_); rintro e w4 ⟨b4, c4, o4, rfl, s1, s2, s3, hb4⟩; have hbF4 := Below.trans ((BelC.refl (w2.alloc (.cells #[.slice (some ⟨b3, o3, none⟩) 5 c2, .int .i64 3] 24))).alloc (.cells #[.int .i64 2] 3)) (hb4.mono (by simp)); have HB4 := Lib.hid hbF4; obtain ⟨d0, d1, d2, d3, d4⟩ := HCl.out w4 hbF4; clear hb4 hbF4)
  go_ret
  refine ⟨rfl, HB.out.trans (Below.mono (Below.trans HBE.out (Below.mono (Below.trans ((BelC.refl w2).alloc _) (Below.mono HB4.out (by simp))) (Below.size HBE.out))) HB.out.size)⟩
end Go.Proofs.Ytnhdgndjpkdhdaa

/-
  trefoillaw06.alive is true.
-/
import Derived.Test.YtipehahfbcbigaaDGreat
import Derived.Test.YtipehahfbcbigaaDFree
namespace Go.Proofs.Ytipehahfbcbigaa
open Go.RowKit

def exVar : RNd := ⟨1, ⟨#[]⟩, [], [], false⟩
def exArr (a b : Int) : RNd := ⟨2, ⟨#[45, 62]⟩, [a, b], [], false⟩
def exG : RGr := ⟨[exArr 1 0, exVar], 0⟩
def exH : RGr := ⟨[exArr 1 2, exVar, exArr 1 0], 0⟩
def exN : RGr := ⟨[], 0⟩
theorem exG_ok : exG.ok = true := by decide +kernel
theorem exH_ok : exH.ok = true := by decide +kernel
theorem exG_code : exG.code = 0 := by decide +kernel
theorem exN_code : exN.code = 2 := by decide +kernel
theorem exH_reach : exH.reachU.length = 3 := by decide +kernel
theorem ex_same : G.Same exG.gr.f exG.root.toNat exH.gr.f exH.root.toNat := by
  refine G.Same.of_rel (fun a b => (a = 0 ∧ b = 0) ∨ (a = 0 ∧ b = 2) ∨ (a = 1 ∧ b = 1)) (.inl ⟨rfl, rfl⟩) ?_ ?_
  · rintro a b (⟨rfl, rfl⟩ | ⟨rfl, rfl⟩ | ⟨rfl, rfl⟩)
    · refine ⟨⟨rfl, rfl, rfl, rfl, rfl⟩, fun i x y h1 h2 => ?_⟩
      match i with
      | 0 => exact .inr (.inr ⟨(Option.some.inj h1).symm, (Option.some.inj h2).symm⟩)
      | 1 => exact .inr (.inl ⟨(Option.some.inj h1).symm, (Option.some.inj h2).symm⟩)
      | n + 2 => cases h1
    · refine ⟨⟨rfl, rfl, rfl, rfl, rfl⟩, fun i x y h1 h2 => ?_⟩
      match i with
      | 0 => exact .inr (.inr ⟨(Option.some.inj h1).symm, (Option.some.inj h2).symm⟩)
      | 1 => exact .inl ⟨(Option.some.inj h1).symm, (Option.some.inj h2).symm⟩
      | n + 2 => cases h1
    · exact ⟨⟨rfl, rfl, rfl, rfl, rfl⟩, fun i x y h1 h2 => by cases h1⟩
  · rintro a b a' b' h1 h2 hf
    rcases h1 with ⟨rfl, rfl⟩ | ⟨rfl, rfl⟩ | ⟨rfl, rfl⟩
    · rcases hf with e | ⟨e, _⟩ <;> cases e
    · rcases hf with e | ⟨e, _⟩ <;> cases e
    · omega

theorem ndP_mk {W : World} {S : Nat → Prop} {b o : Nat} {x : RNd} {aA aL : Option Addr} {cA cL : Nat} (hb : S b) (h0 : W.cell? ⟨b, o, none⟩ = some (.int .i64 x.kind)) (h1 : W.cell? ⟨b, o + 1, none⟩ = some (.string x.name)) (h2 : W.cell? ⟨b, o + 2, none⟩ = some (.slice aA x.args.length cA)) (h3 : W.cell? ⟨b, o + 3, none⟩ = some (.slice aL x.labels.length cL)) (h4 : W.cell? ⟨b, o + 4, none⟩ = some (.bool x.op))
    (hn : x.name.size ≤ maxLen) (g1 : x.args.length ≤ cA) (g2 : cA ≤ maxLen) (g3 : x.labels.length ≤ cL) (g4 : cL ≤ maxLen) (g5 : IntsO W S x.args aA) (g6 : StrsO W S x.labels aL) : NdP W S b o x := by
  refine ⟨hb, _, ?_, aA, cA, aL, cL, rfl, hn, g1, g2, g3, g4, g5, g6⟩
  intro j u hu
  match j with
  | 0 => simp [Value.cells] at hu; subst hu; exact h0
  | 1 => simp [Value.cells] at hu; subst hu; exact h1
  | 2 => simp [Value.cells] at hu; subst hu; exact h2
  | 3 => simp [Value.cells] at hu; subst hu; exact h3
  | 4 => simp [Value.cells] at hu; subst hu; exact h4
  | n + 5 => simp [Value.cells] at hu

theorem ex_arr {W : World} {S : Nat → Prop} {b o i : Nat} {x y : Int} (hb : S b) (hi : S i) (h0 : W.cell? ⟨b, o, none⟩ = some (.int .i64 2)) (h1 : W.cell? ⟨b, o + 1, none⟩ = some (.string ⟨#[45, 62]⟩)) (h2 : W.cell? ⟨b, o + 2, none⟩ = some (.slice (some ⟨i, 0, none⟩) 2 2)) (h3 : W.cell? ⟨b, o + 3, none⟩ = some (.slice none 0 0)) (h4 : W.cell? ⟨b, o + 4, none⟩ = some (.bool false))
    (k0 : W.cell? ⟨i, 0, none⟩ = some (.int .i64 x)) (k1 : W.cell? ⟨i, 1, none⟩ = some (.int .i64 y)) : NdP W S b o (exArr x y) :=
  ndP_mk (x := exArr x y) hb h0 h1 h2 h3 h4 (show (2 : Nat) ≤ maxLen by decide) (Nat.le_refl _) (by decide) (Nat.le_refl _) (by decide) ⟨i, 0, rfl, hi, k0, i, 1, rfl, hi, k1, trivial⟩ trivial
theorem ex_var {W : World} {S : Nat → Prop} {b o : Nat} (hb : S b) (h0 : W.cell? ⟨b, o, none⟩ = some (.int .i64 1)) (h1 : W.cell? ⟨b, o + 1, none⟩ = some (.string ⟨#[]⟩)) (h2 : W.cell? ⟨b, o + 2, none⟩ = some (.slice none 0 0)) (h3 : W.cell? ⟨b, o + 3, none⟩ = some (.slice none 0 0)) (h4 : W.cell? ⟨b, o + 4, none⟩ = some (.bool false)) : NdP W S b o exVar :=
  ndP_mk hb h0 h1 h2 h3 h4 (by decide) (Nat.le_refl _) (by decide) (Nat.le_refl _) (by decide) trivial trivial

/-- The world in which the examples stand. -/
def exW (w : World) : World := ((((((((w.alloc (.cells #[.int .i64 1, .string ⟨#[]⟩, .slice none 0 0, .slice none 0 0, .bool false] 36)).alloc (.cells #[.int .i64 1, .int .i64 0] 3)).alloc (.cells #[.int .i64 2, .string ⟨#[45, 62]⟩, .slice (some ⟨w.heap.size + 1, 0, none⟩) 2 2, .slice none 0 0, .bool false, .int .i64 1, .string ⟨#[]⟩, .slice none 0 0, .slice none 0 0, .bool false] 36)).alloc (.cells #[.slice (some ⟨w.heap.size + 1 + 1, 0, none⟩) 2 2, .int .i64 0] 24)).alloc (.cells #[.int .i64 1, .int .i64 2] 3)).alloc (.cells #[.int .i64 1, .int .i64 0] 3)).alloc
  (.cells #[.int .i64 2, .string ⟨#[45, 62]⟩, .slice (some ⟨w.heap.size + 1 + 1 + 1 + 1, 0, none⟩) 2 2, .slice none 0 0, .bool false, .int .i64 1, .string ⟨#[]⟩, .slice none 0 0, .slice none 0 0, .bool false, .int .i64 2, .string ⟨#[45, 62]⟩, .slice (some ⟨w.heap.size + 1 + 1 + 1 + 1 + 1, 0, none⟩) 2 2, .slice none 0 0, .bool false] 36)).alloc (.cells #[.slice (some ⟨w.heap.size + 1 + 1 + 1 + 1 + 1 + 1, 0, none⟩) 3 3, .int .i64 0] 24))
theorem exW_facts (w : World) : Below w.heap.size w (exW w) ∧ (exW w).heap.size = w.heap.size + 8 ∧ GrV (exW w) (fun k => k < (exW w).heap.size) exG (.agg #[.slice (some ⟨w.heap.size + 1 + 1, 0, none⟩) 2 2, .int .i64 0]) ∧
    GrV (exW w) (fun k => k < (exW w).heap.size) exH (.agg #[.slice (some ⟨w.heap.size + 1 + 1 + 1 + 1 + 1 + 1, 0, none⟩) 3 3, .int .i64 0]) ∧
    Blk (exW w) (w.heap.size + 1 + 1 + 1) (.cells #[.slice (some ⟨w.heap.size + 1 + 1, 0, none⟩) 2 2, .int .i64 0] 24 (0, 0)) ∧
    Blk (exW w) (w.heap.size + 1 + 1 + 1 + 1 + 1 + 1 + 1) (.cells #[.slice (some ⟨w.heap.size + 1 + 1 + 1 + 1 + 1 + 1, 0, none⟩) 3 3, .int .i64 0] 24 (0, 0)) := by
  have hz : (exW w).heap.size = w.heap.size + 8 := by unfold exW; simp
  have q1 : Blk (exW w) (w.heap.size + 1) (.cells #[.int .i64 1, .int .i64 0] 3 (0, 0)) := by unfold exW; exact ((((((Blk.new' _ _ _ (by simp)).alloc _).alloc _).alloc _).alloc _).alloc _).alloc _
  have q2 : Blk (exW w) (w.heap.size + 1 + 1) (.cells #[.int .i64 2, .string ⟨#[45, 62]⟩, .slice (some ⟨w.heap.size + 1, 0, none⟩) 2 2, .slice none 0 0, .bool false, .int .i64 1, .string ⟨#[]⟩, .slice none 0 0, .slice none 0 0, .bool false] 36 (0, 0)) := by unfold exW; exact (((((Blk.new' _ _ _ (by simp)).alloc _).alloc _).alloc _).alloc _).alloc _
  have q3 : Blk (exW w) (w.heap.size + 1 + 1 + 1) (.cells #[.slice (some ⟨w.heap.size + 1 + 1, 0, none⟩) 2 2, .int .i64 0] 24 (0, 0)) := by unfold exW; exact ((((Blk.new' _ _ _ (by simp)).alloc _).alloc _).alloc _).alloc _
  have q4 : Blk (exW w) (w.heap.size + 1 + 1 + 1 + 1) (.cells #[.int .i64 1, .int .i64 2] 3 (0, 0)) := by unfold exW; exact (((Blk.new' _ _ _ (by simp)).alloc _).alloc _).alloc _
  have q5 : Blk (exW w) (w.heap.size + 1 + 1 + 1 + 1 + 1) (.cells #[.int .i64 1, .int .i64 0] 3 (0, 0)) := by unfold exW; exact ((Blk.new' _ _ _ (by simp)).alloc _).alloc _
  have q6 : Blk (exW w) (w.heap.size + 1 + 1 + 1 + 1 + 1 + 1) (.cells #[.int .i64 2, .string ⟨#[45, 62]⟩, .slice (some ⟨w.heap.size + 1 + 1 + 1 + 1, 0, none⟩) 2 2, .slice none 0 0, .bool false, .int .i64 1, .string ⟨#[]⟩, .slice none 0 0, .slice none 0 0, .bool false, .int .i64 2, .string ⟨#[45, 62]⟩, .slice (some ⟨w.heap.size + 1 + 1 + 1 + 1 + 1, 0, none⟩) 2 2, .slice none 0 0, .bool false] 36 (0, 0)) := by unfold exW; exact (Blk.new' _ _ _ (by simp)).alloc _
  have q7 : Blk (exW w) (w.heap.size + 1 + 1 + 1 + 1 + 1 + 1 + 1) (.cells #[.slice (some ⟨w.heap.size + 1 + 1 + 1 + 1 + 1 + 1, 0, none⟩) 3 3, .int .i64 0] 24 (0, 0)) := by unfold exW; exact Blk.new' _ _ _ (by simp)
  have hb : Below w.heap.size w (exW w) := by
    unfold exW
    exact (((((((((Below.refl _ _).alloc (Nat.le_refl _) _).alloc (by simp) _).alloc (by simp; omega) _).alloc (by simp; omega) _).alloc (by simp; omega) _).alloc (by simp; omega) _).alloc (by simp; omega) _).alloc (by simp; omega) _)
  refine ⟨hb, hz, ?_, ?_, q3, q7⟩
  · refine ⟨_, 2, rfl, Nat.le_refl _, by decide, _, 0, rfl, ?_, _, 5, rfl, ?_, trivial⟩
    · exact ex_arr (by rw [hz]; omega) (i := w.heap.size + 1) (by rw [hz]; omega) (q2.cells.1 0) (q2.cells.1 1) (q2.cells.1 2) (q2.cells.1 3) (q2.cells.1 4) (q1.cells.1 0) (q1.cells.1 1)
    · exact ex_var (by rw [hz]; omega) (q2.cells.1 5) (q2.cells.1 6) (q2.cells.1 7) (q2.cells.1 8) (q2.cells.1 9)
  · refine ⟨_, 3, rfl, Nat.le_refl _, by decide, _, 0, rfl, ?_, _, 5, rfl, ?_, _, 10, rfl, ?_, trivial⟩
    · exact ex_arr (by rw [hz]; omega) (i := w.heap.size + 1 + 1 + 1 + 1) (by rw [hz]; omega) (q6.cells.1 0) (q6.cells.1 1) (q6.cells.1 2) (q6.cells.1 3) (q6.cells.1 4) (q4.cells.1 0) (q4.cells.1 1)
    · exact ex_var (by rw [hz]; omega) (q6.cells.1 5) (q6.cells.1 6) (q6.cells.1 7) (q6.cells.1 8) (q6.cells.1 9)
    · exact ex_arr (by rw [hz]; omega) (i := w.heap.size + 1 + 1 + 1 + 1 + 1) (by rw [hz]; omega) (q6.cells.1 10) (q6.cells.1 11) (q6.cells.1 12) (q6.cells.1 13) (q6.cells.1 14) (q5.cells.1 0) (q5.cells.1 1)

set_option maxRecDepth 100000 in
set_option maxHeartbeats 1000000 in
theorem alive6_r (w : World) : Calls Try.prog 9 #[] w fun e w' => e = .returned (.bool true) ∧ Below w.heap.size w w' := by
  obtain ⟨hb, hz, hg, hh, q3, q7⟩ := exW_facts w
  obtain ⟨wE, hE⟩ : ∃ x, exW w = x := ⟨_, rfl⟩
  rw [hE] at hb hz hg hh q3 q7
  unfold exW at hE
  have hK : ∀ W, BelC wE W → GrV W (fun k => k < wE.heap.size) exG (.agg #[.slice (some ⟨w.heap.size + 1 + 1, 0, none⟩) 2 2, .int .i64 0]) ∧ GrV W (fun k => k < wE.heap.size) exH (.agg #[.slice (some ⟨w.heap.size + 1 + 1 + 1 + 1 + 1 + 1, 0, none⟩) 3 3, .int .i64 0]) ∧ (∀ k, k < wE.heap.size → k < W.heap.size) ∧
      W.cell? ⟨w.heap.size + 1 + 1 + 1, 0, none⟩ = some (.slice (some ⟨w.heap.size + 1 + 1, 0, none⟩) 2 2) ∧ W.cell? ⟨w.heap.size + 1 + 1 + 1, 1, none⟩ = some (.int .i64 0) ∧ W.cell? ⟨w.heap.size + 1 + 1 + 1 + 1 + 1 + 1 + 1, 0, none⟩ = some (.slice (some ⟨w.heap.size + 1 + 1 + 1 + 1 + 1 + 1, 0, none⟩) 3 3) ∧ W.cell? ⟨w.heap.size + 1 + 1 + 1 + 1 + 1 + 1 + 1, 1, none⟩ = some (.int .i64 0) := fun W hW =>
    ⟨hg.keep (fun k hk => ⟨hk, Below.block hW k hk⟩), hh.keep (fun k hk => ⟨hk, Below.block hW k hk⟩), fun k hk => Nat.lt_of_lt_of_le hk (Below.size hW), BelC.old hW (q3.cells.1 0), BelC.old hW (q3.cells.1 1), BelC.old hW (q7.cells.1 0), BelC.old hW (q7.cells.1 1)⟩
  have HK := Lib.hid hK
  have HB := Lib.hid hb
  have hr : ∀ X, X = wE → Calls Try.prog 16 #[.agg #[.slice (some ⟨w.heap.size + 1 + 1 + 1 + 1 + 1 + 1, 0, none⟩) 3 3, .int .i64 0]] X fun e w' => (∃ A c, e = .returned (.slice A 3 c) ∧ 3 ≤ c ∧ c ≤ maxLen) ∧ BelC wE w' := fun X hX => by
    subst hX
    have hr0 := dreach_u X _ exH _ (hK _ (BelC.refl _)).2.2.1 (hK _ (BelC.refl _)).2.1
    rw [exH_reach] at hr0
    exact hr0.mono fun e w' ⟨A, c, h1, h2, h3, _, h4⟩ => ⟨⟨A, c, h1, h2, h3⟩, h4⟩
  have hs : ∀ W, BelC wE W → Calls Try.prog 21 #[.agg #[.slice (some ⟨w.heap.size + 1 + 1, 0, none⟩) 2 2, .int .i64 0], .agg #[.slice (some ⟨w.heap.size + 1 + 1 + 1 + 1 + 1 + 1, 0, none⟩) 3 3, .int .i64 0]] W fun e w' => e = .returned (.bool true) ∧ BelC wE w' := fun W hW => by
    obtain ⟨h1, h2, h3, _⟩ := hK W hW
    have hb : (true = true ↔ exG.ok = true ∧ exH.ok = true ∧ G.Same exG.gr.f exG.root.toNat exH.gr.f exH.root.toNat) := ⟨fun _ => ⟨exG_ok, exH_ok, ex_same⟩, fun _ => rfl⟩
    exact (dsame_u W (fun k => k < wE.heap.size) (fun k => k < wE.heap.size) exG exH _ _ true h3 h3 h1 h2 hb).mono fun e w' ⟨h1, h2⟩ => ⟨h1, Below.trans hW (h2.mono (Below.size hW))⟩
  have hn : ∀ W, BelC wE W → Calls Try.prog 13 #[.agg #[.slice none 0 0, .int .i64 0]] W fun e w' => e = .returned (.int .i64 2) ∧ BelC wE w' := fun W hW => by
    have h1 := check_r W (fun _ => False) exN (.agg #[.slice none 0 0, .int .i64 0]) (fun _ h => h.elim) ⟨none, 0, rfl, Nat.le_refl _, by decide, trivial⟩
    rw [exN_code] at h1
    exact h1.mono fun e w' ⟨h1, h2⟩ => ⟨h1, Below.trans hW (h2.mono (Below.size hW))⟩
  have hc : ∀ W, BelC wE W → Calls Try.prog 13 #[.agg #[.slice (some ⟨w.heap.size + 1 + 1, 0, none⟩) 2 2, .int .i64 0]] W fun e w' => e = .returned (.int .i64 0) ∧ BelC wE w' := fun W hW => by
    obtain ⟨h1, h2, h3, _⟩ := hK W hW
    have h4 := check_r W (fun k => k < wE.heap.size) exG _ h3 h1
    rw [exG_code] at h4
    exact h4.mono fun e w' ⟨h1, h2⟩ => ⟨h1, Below.trans hW (h2.mono (Below.size hW))⟩
  have HSm := Lib.hid hs
  have HN := Lib.hid hn
  have HGc := Lib.hid hc
  have HR := Lib.hid hr
  have HE := Lib.hid hE
  clear hK hb hg hh q3 q7 hr hE hs hn hc
  go_enter Try.func9, Try.ntmps9
  go_wp2_with (first
    | (go_at_call 16; refine (HR.out _ HE.out).mono ?_; rintro e w2 ⟨⟨A2, c2, rfl, _, _⟩, hb2⟩; obtain ⟨h1, h2, h3, h4, h5, h6, h7⟩ := HK.out w2 hb2; have HB2 := Lib.hid (show BelC wE w2 from hb2); clear h1 h2 h3 hb2)
    | (go_at_call 21; (with_reducible refine (HSm.out w2 HB2.out).mono ?_); rintro e w3 ⟨rfl, hb3⟩; have HB3 := Lib.hid hb3; clear hb3)
    | (go_at_call 13; (with_reducible refine (HN.out w3 HB3.out).mono ?_); rintro e w4 ⟨rfl, hb4⟩; have HB4 := Lib.hid hb4; obtain ⟨h1, h2, h3, h4, h5, h6, h7⟩ := HK.out w4 hb4; clear h1 h2 h3 hb4)
    | (go_at_call 13; (with_reducible refine (HGc.out w4 HB4.out).mono ?_); rintro e w5 ⟨rfl, hb5⟩; have HB5 := Lib.hid (HB.out.trans (Below.mono hb5 HB.out.size)); clear hb5))
  go_ret
  exact ⟨rfl, HB5.out⟩
end Go.Proofs.Ytipehahfbcbigaa

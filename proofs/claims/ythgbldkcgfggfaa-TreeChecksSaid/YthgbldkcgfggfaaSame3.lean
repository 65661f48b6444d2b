/-
  tree.sameExpr: whether two expressions' own fields, and their members' own fields, are the same.
-/
import Derived.Test.YthgbldkcgfggfaaSame2
namespace Go.Proofs.Ythgbldkcgfggfaa
open Go.RowKit

def exLoc (x y : Ex) : Bool := decide (x.kind = y.kind) && (decide (x.str = y.str) && (decide (x.num = y.num) && (decide (x.args.length = y.args.length) && (decide (x.types.length = y.types.length) && (decide (x.names = y.names) && mmsLoc x.mems y.mems)))))

/-- The worlds in which all that w had is as it was. -/
def BelC (w w' : World) : Prop := Below w.heap.size w w'

theorem wp_region_class {P : Program} {id : Nat} {Q : Exit → Act → World → Prop} {a : Act} {w : World} {l : List Oper} {C : World → Prop} (hm : P.follows .mixedOrders = true) (hB : Region.lexB .any l.toArray = true) (hC : C w.drew)
    (h : wpQuiet P l.toArray C (fun a' => ∀ w', C w' → Q .normal a' w') l a) : (Code.region id l.toArray true).wp P Q a w :=
  wp_region_quiet (C := C) hm hB hC h

theorem belC_cell {w : World} {b o : Nat} {v : Value} (h : w.cell? ⟨b, o, none⟩ = some v) : ∀ w', BelC w w' → w'.cell? ⟨b, o, none⟩ = some v :=
  fun _ hw => (World.cell?_of_block (a := ⟨b, o, none⟩) (hw.block b (World.block_lt_of_cell? w _ h))).trans h

theorem equal_bel (w : World) (S1 S2 : Nat → Prop) (l1 l2 : List ByteArray) (A1 A2 : Option Addr) (c1 c2 : Nat) (r : Bool) (hS1 : ∀ k, S1 k → k < w.heap.size) (hS2 : ∀ k, S2 k → k < w.heap.size) (h1 : StrsO w S1 l1 A1) (h2 : StrsO w S2 l2 A2) (hc1 : l1.length ≤ c1) (hm1 : c1 ≤ maxLen) (hc2 : l2.length ≤ c2) (hm2 : c2 ≤ maxLen) (hr : decide (l1 = l2) = r) (w' : World) (hw : BelC w w') :
    Calls Try.prog 62 #[.slice A1 l1.length c1, .slice A2 l2.length c2] w' fun e w'' => e = .returned (.bool r) ∧ BelC w w'' :=
  (equal_r w' S1 S2 l1 l2 A1 A2 c1 c2 r (StrsO.keep (fun k hk => ⟨hk, hw.block k (hS1 k hk)⟩) _ _ h1) (StrsO.keep (fun k hk => ⟨hk, hw.block k (hS2 k hk)⟩) _ _ h2) hc1 hm1 hc2 hm2 hr).mono fun e w'' ⟨he, n, hn⟩ => by
    subst hn; exact ⟨he, Below.drewN' hw n⟩
theorem equalFunc_bel (w : World) (S1 S2 : Nat → Prop) (l1 l2 : List Mm) (A1 A2 : Option Addr) (c1 c2 : Nat) (r : Bool) (hS1 : ∀ k, S1 k → k < w.heap.size) (hS2 : ∀ k, S2 k → k < w.heap.size) (h1 : MmsO w S1 l1 A1) (h2 : MmsO w S2 l2 A2) (hc1 : l1.length ≤ c1) (hm1 : c1 ≤ maxLen) (hr : mmsLoc l1 l2 = r) (w' : World) (hw : BelC w w') :
    Calls Try.prog 63 #[.slice A1 l1.length c1, .slice A2 l2.length c2, .func (.func 64) #[] #[]] w' fun e w'' => e = .returned (.bool r) ∧ BelC w w'' :=
  (equalFunc_r w' S1 S2 l1 l2 A1 A2 c1 c2 r (fun k hk => Nat.lt_of_lt_of_le (hS1 k hk) hw.size) (fun k hk => Nat.lt_of_lt_of_le (hS2 k hk) hw.size) (MmsO.keep (fun k hk => ⟨hk, hw.block k (hS1 k hk)⟩) _ _ h1) (MmsO.keep (fun k hk => ⟨hk, hw.block k (hS2 k hk)⟩) _ _ h2) hc1 hm1 hr).mono fun _ _ ⟨he, hb⟩ =>
    ⟨he, Below.trans hw (hb.mono hw.size)⟩

set_option maxRecDepth 100000 in
set_option maxHeartbeats 40000000 in
theorem sameExpr_r (w : World) (S1 S2 : Nat → Prop) (b1 o1 b2 o2 : Nat) (x y : Ex) (r : Bool) (hS1 : ∀ k, S1 k → k < w.heap.size) (hS2 : ∀ k, S2 k → k < w.heap.size) (hx : ExP w S1 b1 o1 x) (hy : ExP w S2 b2 o2 y) (hr : exLoc x y = r) :
    Calls Try.prog 41 #[.pointer (some ⟨b1, o1, none⟩), .pointer (some ⟨b2, o2, none⟩)] w fun e w' => e = .returned (.bool r) ∧ Below w.heap.size w w' := by
  obtain ⟨aA, cA, aN, cN, aT, cT, aM, cM, f0, f1, f2, f3, f4, f5, f6, q0, q1, q2, q3, q4, q5, q6, q7, q8, q9, q10, q11, q12⟩ := hx.fields
  obtain ⟨aA', cA', aN', cN', aT', cT', aM', cM', g0, g1, g2, g3, g4, g5, g6, p0, p1, p2, p3, p4, p5, p6, p7, p8, p9, p10, p11, p12⟩ := hy.fields
  have F0 := belC_cell f0
  have F1 := belC_cell f1
  have F2 := belC_cell f2
  have F3 := belC_cell f3
  have F4 := belC_cell f4
  have F5 := belC_cell f5
  have F6 := belC_cell f6
  have G0 := belC_cell g0
  have G1 := belC_cell g1
  have G2 := belC_cell g2
  have G3 := belC_cell g3
  have G4 := belC_cell g4
  have G5 := belC_cell g5
  have G6 := belC_cell g6
  have Q10 := Lib.hid q10
  have P10 := Lib.hid p10
  have Q12 := Lib.hid q12
  have P12 := Lib.hid p12
  clear hx hy q9 q10 q11 q12 p9 p10 p11 p12 q0 p0 f0 f1 f2 f3 f4 f5 f6 g0 g1 g2 g3 g4 g5 g6
  have q2' : cA ≤ 9223372036854775807 := by unfold maxLen at q2; omega
  have p2' : cA' ≤ 9223372036854775807 := by unfold maxLen at p2; omega
  have q6' : cT ≤ 9223372036854775807 := by unfold maxLen at q6; omega
  have p6' : cT' ≤ 9223372036854775807 := by unfold maxLen at p6; omega
  clear q2 p2 q6 p6
  unfold exLoc at hr
  have HR0 := Lib.hid hr
  clear hr
  go_enter Try.func41, Try.ntmps41
  repeat (first | go_values | go_skip | go_guarded | go_step)
  simp only [List.append_eq, List.cons_append, List.nil_append]
  refine wp_region_class (C := BelC w) (by kernel_rfl) (by kernel_rfl) ((Below.refl _ w).drew) ?_
  have hr := HR0.out
  clear HR0
  rcases h0 : decide (x.kind = y.kind) with _ | _
  · rw [h0, Bool.false_and] at hr
    subst hr
    have e0 : (x.kind == y.kind) = false := by rw [beq_eq_false_iff_ne]; exact of_decide_eq_false h0
    clear h0
    repeat (first | go_big_quiet_skip | (go_big_quiet_want; go_big_quiet_op; first | go_big_quiet_on | (apply Exists.intro; refine ⟨fun w' hw' => ?_, ?_⟩; (first | rfl | (go_simp; rfl)); go_big_quiet_on)))
    refine wpQuiet_nil ?_
    intro w' hw'
    go_wp2
    go_ret
    exact ⟨rfl, hw'⟩
  rw [h0, Bool.true_and] at hr
  have e0 : (x.kind == y.kind) = true := by rw [beq_iff_eq]; exact of_decide_eq_true h0
  clear h0
  rcases h1 : decide (x.str = y.str) with _ | _
  · rw [h1, Bool.false_and] at hr
    subst hr
    have e1 : (x.str.toList == y.str.toList) = false := by rw [bytes_eq]; exact h1
    clear h1
    repeat (first | go_big_quiet_skip | (go_big_quiet_want; go_big_quiet_op; first | go_big_quiet_on | (apply Exists.intro; refine ⟨fun w' hw' => ?_, ?_⟩; (first | rfl | (go_simp; rfl)); go_big_quiet_on)))
    refine wpQuiet_nil ?_
    intro w' hw'
    go_wp2
    go_ret
    exact ⟨rfl, hw'⟩
  rw [h1, Bool.true_and] at hr
  have e1 : (x.str.toList == y.str.toList) = true := by rw [bytes_eq]; exact h1
  clear h1
  rcases h2 : decide (x.num = y.num) with _ | _
  · rw [h2, Bool.false_and] at hr
    subst hr
    have e2 : (x.num == y.num) = false := by rw [beq_eq_false_iff_ne]; exact of_decide_eq_false h2
    clear h2
    repeat (first | go_big_quiet_skip | (go_big_quiet_want; go_big_quiet_op; first | go_big_quiet_on | (apply Exists.intro; refine ⟨fun w' hw' => ?_, ?_⟩; (first | rfl | (go_simp; rfl)); go_big_quiet_on)))
    refine wpQuiet_nil ?_
    intro w' hw'
    go_wp2
    go_ret
    exact ⟨rfl, hw'⟩
  rw [h2, Bool.true_and] at hr
  have e2 : (x.num == y.num) = true := by rw [beq_iff_eq]; exact of_decide_eq_true h2
  clear h2
  rcases h3 : decide (x.args.length = y.args.length) with _ | _
  · rw [h3, Bool.false_and] at hr
    subst hr
    have e3 : ((x.args.length : Int) == (y.args.length : Int)) = false := by simp at h3 ⊢; omega
    clear h3
    repeat (first | go_big_quiet_skip | (go_big_quiet_want; go_big_quiet_op; first | go_big_quiet_on | (apply Exists.intro; refine ⟨fun w' hw' => ?_, ?_⟩; (first | rfl | (go_simp; rfl)); go_big_quiet_on)))
    refine wpQuiet_nil ?_
    intro w' hw'
    go_wp2
    go_ret
    exact ⟨rfl, hw'⟩
  rw [h3, Bool.true_and] at hr
  have e3 : ((x.args.length : Int) == (y.args.length : Int)) = true := by simp at h3 ⊢; omega
  clear h3
  rcases h4 : decide (x.types.length = y.types.length) with _ | _
  · rw [h4, Bool.false_and] at hr
    subst hr
    have e4 : ((x.types.length : Int) == (y.types.length : Int)) = false := by simp at h4 ⊢; omega
    clear h4
    repeat (first | go_big_quiet_skip | (go_big_quiet_want; go_big_quiet_op; first | go_big_quiet_on | (apply Exists.intro; refine ⟨fun w' hw' => ?_, ?_⟩; (first | rfl | (go_simp; rfl)); go_big_quiet_on)))
    refine wpQuiet_nil ?_
    intro w' hw'
    go_wp2
    go_ret
    exact ⟨rfl, hw'⟩
  rw [h4, Bool.true_and] at hr
  have e4 : ((x.types.length : Int) == (y.types.length : Int)) = true := by simp at h4 ⊢; omega
  clear h4
  rcases h9 : decide (x.names = y.names) with _ | _
  · rw [h9, Bool.false_and] at hr
    subst hr
    have HN := Lib.hid h9
    clear h9
    repeat (first | go_big_quiet_skip | (go_big_quiet_want; go_big_quiet_op; first | go_big_quiet_on | (apply Exists.intro; refine ⟨fun w' hw' => ?_, ?_⟩; (first | rfl | (go_at_call 62; exact equal_bel w S1 S2 _ _ _ _ _ _ _ hS1 hS2 Q10.out P10.out q3 q4 p3 p4 HN.out _ hw') | (go_simp; rfl)); go_big_quiet_on)))
    refine wpQuiet_nil ?_
    intro w' hw'
    go_wp2
    go_ret
    exact ⟨rfl, hw'⟩
  rw [h9, Bool.true_and] at hr
  have HN := Lib.hid h9
  have HR := Lib.hid hr
  clear h9 hr
  repeat (first | go_big_quiet_skip | (go_big_quiet_want; go_big_quiet_op; first | go_big_quiet_on | (apply Exists.intro; refine ⟨fun w' hw' => ?_, ?_⟩; (first | rfl | (go_at_call 62; exact equal_bel w S1 S2 _ _ _ _ _ _ _ hS1 hS2 Q10.out P10.out q3 q4 p3 p4 HN.out _ hw') | (go_at_call 63; exact equalFunc_bel w S1 S2 _ _ _ _ _ _ _ hS1 hS2 Q12.out P12.out q7 q8 HR.out _ hw') | (go_simp; rfl)); go_big_quiet_on)))
  refine wpQuiet_nil ?_
  intro w' hw'
  go_wp2
  go_ret
  exact ⟨rfl, hw'⟩

end Go.Proofs.Ythgbldkcgfggfaa

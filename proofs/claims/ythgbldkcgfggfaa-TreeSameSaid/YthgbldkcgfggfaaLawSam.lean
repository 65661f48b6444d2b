/-
  trefoillaw02.TreeSame is true for every input that it is handed, and leaves its arguments as they were. No condition besides the form's own.
-/
import Derived.Test.YthgbldkcgfggfaaLaw
import Derived.Test.YthgbldkcgfggfaaSam1
namespace Go.Proofs.Ythgbldkcgfggfaa
open Go.ChangeShapes Go.WideShapes Go.ChangeAt Go.RowKit Go.Deep

theorem u16_bounds' {n : Int} (h : (Lit.int .u16 n).wf = true) : 0 ≤ n ∧ n < 65536 := by
  have h1 : IntKind.u16.min = 0 := rfl
  have h2 : IntKind.u16.max = 65535 := rfl
  simp only [Lit.wf, Bool.and_eq_true, decide_eq_true_eq] at h
  omega
theorem list5 {α : Type} (l : List α) (h : (⟨l⟩ : Array α).size = 5) : ∃ a b c d e, l = [a, b, c, d, e] := by
  match l, h with
  | [a, b, c, d, e], _ => exact ⟨a, b, c, d, e, rfl⟩

section
variable {H : Type} {enc : TypeId × Value → H} {W : World} {base : Nat}
theorem slice_form1 {P : Program} {w : World} {spare : Nat → Bool} {held : Bool} {b0 fuel : Nat} {t e : TypeId} {v : Value} {x : DataW H × List MemPlace} (ht : P.underlying t = some (.slice e)) (h : DataW.trod enc P w b0 spare held fuel t [v] = some x) : ∃ a len cap, v = .slice a len cap := by
  rcases open_slice ht h with ⟨hcs, _⟩ | ⟨a, len, cap, m, n, D, Pl, hcs, _⟩
  · simp only [List.cons.injEq, and_true] at hcs
    exact ⟨_, _, _, hcs⟩
  · simp only [List.cons.injEq, and_true] at hcs
    exact ⟨_, _, _, hcs⟩

theorem fields_of {P : Program} {w : World} {spare : Nat → Bool} {held : Bool} {b0 fuel : Nat} {t : TypeId} {fs : Array Field} {cs : List Value} {x : DataW H × List MemPlace} (ht : P.underlying t = some (.struct fs)) (hone : oneCellFields P fs = true) (hC : P.cellsOf t = fs.size)
    (h : DataW.trod enc P w b0 spare held fuel t cs = some x) :
    ∃ (ys : List (DataW H × List MemPlace)) (n : Nat), x.1 = .agg (ys.map (·.1)) ∧ ys.length = fs.size ∧ cs.length = fs.size ∧
      ∀ (j : Nat) (f : Field), fs[j]? = some f → ∃ (v : Value) (y : DataW H × List MemPlace), cs[j]? = some v ∧ ys[j]? = some y ∧ DataW.trod enc P w b0 spare held n f.type [v] = some y := by
  obtain ⟨ys, n', _, rfl, hlen, hyl, hf⟩ := DataW.trod_struct ht h
  rw [hC] at hlen
  refine ⟨ys, n', rfl, hyl, hlen, fun j f hj => ?_⟩
  obtain ⟨ho, hk⟩ := hone_of hone j f hj
  have hjl : j < fs.size := (Array.getElem?_eq_some_iff.1 hj).1
  have h1 := hf j f hj
  rw [ho, hk, List.drop_eq_getElem_cons (by omega)] at h1
  have hys : ys[j]? = some (ys[j]'(by omega)) := List.getElem?_eq_getElem (by omega)
  exact ⟨_, _, List.getElem?_eq_getElem (by omega), hys, h1.trans hys⟩

set_option maxRecDepth 100000 in
/-- Two lists of parts, two types, a count: as a struct by value. -/
theorem open_two {v : Value} {d : DataW H} {p : List MemPlace} (hv : Value.okWide Try.prog W .any base 40 v) (h : DataW.Trod enc Try.prog W 0 (fun _ => true) true 40 v d p)
    (hsz : (DataW.weightsEach Try.prog [40] [d]).all (· ≤ reachBytes) = true) :
    ∃ (l m : List Part) (A1 A2 : Option Addr) (c1 c2 t u more : Nat), v = .agg #[.slice A1 l.length c1, .slice A2 m.length c2, .int .u8 t, .int .u8 u, .int .u16 more] ∧ t < 256 ∧ u < 256 ∧ more < 65536 ∧
      l.length ≤ c1 ∧ c1 ≤ 10000000000000 ∧ PtsO W (fun k => k < W.heap.size) l A1 ∧ m.length ≤ c2 ∧ c2 ≤ 10000000000000 ∧ PtsO W (fun k => k < W.heap.size) m A2 := by
  obtain ⟨cs, rfl, hs⟩ := okWide_struct Try.underlying40 hv
  have hC : Try.prog.cellsOf 40 = 5 := by kernel_rfl
  rw [hC] at hs
  obtain ⟨cl⟩ := cs
  obtain ⟨v0, v1, v2, v3, v4, rfl⟩ := list5 cl hs
  obtain ⟨fuel, hf⟩ := h
  obtain ⟨ys, n, hd, hyl, _, hq⟩ := fields_of Try.underlying40 (by kernel_rfl) (by rw [hC]; rfl) hf
  simp only at hd
  subst hd
  obtain ⟨z0, y0, e0, g0, t0⟩ := hq 0 _ rfl
  obtain ⟨z1, y1, e1, g1, t1⟩ := hq 1 _ rfl
  obtain ⟨z2, y2, e2, g2, t2⟩ := hq 2 _ rfl
  obtain ⟨z3, y3, e3, g3, t3⟩ := hq 3 _ rfl
  obtain ⟨z4, y4, e4, g4, t4⟩ := hq 4 _ rfl
  simp only [Value.cells, List.getElem?_cons_zero, List.getElem?_cons_succ, Option.some.injEq] at e0 e1 e2 e3 e4
  subst e0; subst e1; subst e2; subst e3; subst e4
  have hw : (DataW.weightsEach Try.prog [22, 22, 5, 5, 23] (ys.map (·.1))).all (· ≤ reachBytes) = true := by
    simp only [DataW.weightsEach, List.append_nil, DataW.weights, Try.underlying40] at hsz
    exact hsz
  have h0 : (ys.map (·.1))[0]? = some y0.1 := by rw [List.getElem?_map, g0]; rfl
  have h1 : (ys.map (·.1))[1]? = some y1.1 := by rw [List.getElem?_map, g1]; rfl
  obtain ⟨a0, b0, c0, rfl⟩ := slice_form1 Try.underlying22 t0
  obtain ⟨a1, b1, c1, rfl⟩ := slice_form1 Try.underlying22 t1
  obtain ⟨l, A1, c1', e1, q1, q2, q3⟩ := open_parts (p := y0.2) ⟨n, t0⟩ ⟨_, _, _, rfl⟩ hw h0 rfl
  obtain ⟨m, A2, c2', e2, r1, r2, r3⟩ := open_parts (p := y1.2) ⟨n, t1⟩ ⟨_, _, _, rfl⟩ hw h1 rfl
  obtain ⟨n2, e3, _, w2⟩ := DataW.trod_int Try.underlying5 t2
  obtain ⟨n3, e4, _, w3⟩ := DataW.trod_int Try.underlying5 t3
  obtain ⟨n4, e5, _, w4⟩ := DataW.trod_int Try.underlying23 t4
  simp only [List.cons.injEq, and_true] at e3 e4 e5
  subst e3; subst e4; subst e5
  have b2 := u8_bounds w2
  have b3 := u8_bounds w3
  have b4 := u16_bounds' w4
  refine ⟨l, m, A1, A2, c1', c2', n2.toNat, n3.toNat, n4.toNat, ?_, by omega, by omega, by omega, q1, q2, q3, r1, r2, r3⟩
  rw [e1, e2, show ((n2.toNat : Nat) : Int) = n2 by omega, show ((n3.toNat : Nat) : Int) = n3 by omega, show ((n4.toNat : Nat) : Int) = n4 by omega]
end

set_option maxRecDepth 100000 in
set_option maxHeartbeats 1000000 in
theorem same_great (w : World) (S : Nat → Prop) (l m : List Part) (A1 A2 : Option Addr) (c1 c2 : Nat) (t u more : Nat) (hS : ∀ k, S k → k < w.heap.size) (hl : PtsO w S l A1) (hlc : l.length ≤ c1) (hc1 : c1 ≤ 10000000000000) (hm : PtsO w S m A2) (hmc : m.length ≤ c2) (hc2 : c2 ≤ 10000000000000) (g : Bool) (hg1 : greatB l = g) (hg2 : g = false → greatB m = true) :
    Calls Try.prog 4 #[.agg #[.slice A1 l.length c1, .slice A2 m.length c2, .int .u8 t, .int .u8 u, .int .u16 more]] w fun e w' => e = .returned (.bool true) ∧ Below w.heap.size w w' := by
  have HS := Lib.hid hS
  have HL := Lib.hid hl
  have HM := Lib.hid hm
  have HG1 := Lib.hid hg1
  have HG2 := Lib.hid hg2
  clear hl hS hg1 hm hg2
  go_enter Try.func4, Try.ntmps4
  go_wp2_with fail
  obtain ⟨w0, hw0⟩ : ∃ w0, w0 = w.alloc (.cells #[.slice A1 l.length c1, .slice A2 m.length c2, .int .u8 t, .int .u8 u, .int .u16 more] 40) := ⟨_, rfl⟩
  have hz0 : w0.heap.size = w.heap.size + 1 := by rw [hw0]; simp
  have hrow : w0.heap[w.heap.size]? = some (.cells #[.slice A1 l.length c1, .slice A2 m.length c2, .int .u8 t, .int .u8 u, .int .u16 more] 40 (0, 0)) := by rw [hw0]; exact heap_at _ _ _ rfl
  have hb0 : Below w.heap.size w w0 := by rw [hw0]; exact (Below.refl _ _).alloc (Nat.le_refl _) _
  rw [← hw0]
  have HRow := Lib.hid hrow
  have HB0 := Lib.hid hb0
  clear hw0 hrow hb0
  refine (alive_any w0).mono ?_
  rintro e w1 ⟨rfl, hb1⟩
  obtain ⟨q0, q1, q2, q3, q4⟩ := (⟨blk_cell ((hb1.block _ (by omega)).trans HRow.out) 0, blk_cell ((hb1.block _ (by omega)).trans HRow.out) 1, blk_cell ((hb1.block _ (by omega)).trans HRow.out) 2, blk_cell ((hb1.block _ (by omega)).trans HRow.out) 3, blk_cell ((hb1.block _ (by omega)).trans HRow.out) 4⟩ : _ ∧ _ ∧ _ ∧ _ ∧ _)
  have HB1 := Lib.hid (HB0.out.trans (hb1.mono (by omega)) : Below w.heap.size w w1)
  clear hb1 hz0
  go_wp2_with fail
  go_quiet (fail)
  go_wp2_with fail
  have HB2 := Lib.hid (Below.drewN' HB1.out nq : Below w.heap.size w (w1.drewN nq))
  obtain ⟨w2, hw2⟩ : ∃ w2, w2 = w1.drewN nq := ⟨_, rfl⟩
  rw [← hw2] at HB2 ⊢
  clear q0 q1 q2 q3 q4 hw2 HB1
  obtain ⟨p1, p2⟩ := pts_later HS.out HB2.out HL.out
  refine (great_r w2 S l A1 c1 g p1 p2 hlc hc1 HG1.out).mono ?_
  rintro e w3 ⟨rfl, hb3⟩
  have HB3 := Lib.hid (HB2.out.trans (hb3.mono HB2.out.size))
  clear hb3 p1 p2
  cases g with
  | true =>
    go_wp2_with fail
    go_ret
    exact ⟨rfl, HB3.out⟩
  | false =>
    have HG := Lib.hid (HG2.out rfl)
    clear HG2
    go_wp2_with fail
    obtain ⟨p1, p2⟩ := pts_later HS.out HB3.out HM.out
    refine (great_r w3 S m A2 c2 true p1 p2 hmc hc2 HG.out).mono ?_
    rintro e w4 ⟨rfl, hb4⟩
    have HB4 := Lib.hid (HB3.out.trans (hb4.mono HB3.out.size))
    clear hb4 p1 p2
    go_wp2_with fail
    go_ret
    exact ⟨rfl, HB4.out⟩

theorem lawsame_any (w : World) (S : Nat → Prop) (l m : List Part) (A1 A2 : Option Addr) (c1 c2 : Nat) (t u more : Nat) (ht : t < 256) (hu : u < 256) (hmore : more < 65536) (hS : ∀ k, S k → k < w.heap.size) (hl : PtsO w S l A1) (hlc : l.length ≤ c1) (hc1 : c1 ≤ 10000000000000) (hm : PtsO w S m A2) (hmc : m.length ≤ c2) (hc2 : c2 ≤ 10000000000000) :
    Calls Try.prog 4 #[.agg #[.slice A1 l.length c1, .slice A2 m.length c2, .int .u8 t, .int .u8 u, .int .u16 more]] w fun e w' => e = .returned (.bool true) ∧ Below w.heap.size w w' := by
  cases hg1 : greatB l with
  | true => exact same_great w S l m A1 A2 c1 c2 t u more hS hl hlc hc1 hm hmc hc2 true hg1 (fun h => by cases h)
  | false =>
    cases hg2 : greatB m with
    | true => exact same_great w S l m A1 A2 c1 c2 t u more hS hl hlc hc1 hm hmc hc2 false hg1 (fun _ => hg2)
    | false => exact same_main w S l m A1 A2 c1 c2 t u more ht hu hmore hS hl hlc hc1 hm hmc hc2 hg1 hg2

set_option maxRecDepth 100000 in
theorem same_lifted (os : Os) (started : os.Started) (H : Type) (enc : TypeId × Value → H) :
    ReturnsInHanded {} Try.checked os 4 .any (Rows.treeSameSpec.pre6 enc Try.prog Try.f4 Rows.treeSameRow.domain false) (Rows.treeSameSpec.post enc Try.prog Try.f4 false true false false) := by
  refine returnsInHanded_of_change_sized (C := Try.checked) lawOwn started (by kernel_rfl) Try.func4
    (ChangeSpec.witness6 (enc := enc) (C := Try.checked) false ⟨#[], #[.agg #[.slice none 0 0, .slice none 0 0, .int .u8 0, .int .u8 0, .int .u16 0]], []⟩ 8 (by kernel_rfl) (by kernel_rfl) (by kernel_rfl) (by kernel_rfl)) ?_
  intro W base args ds gs before hval0 hW _ hsz0 _
  have hsz : (DataW.weightsEach Try.prog (Try.f4.params.toList ++ Rows.treeSameSpec.plain.varTypes Try.prog) (ds ++ gs)).all (· ≤ reachBytes) = true := hsz0
  clear hsz0
  have hval : ∀ (j : Nat) t v, Try.f4.params[j]? = some t → args[j]? = some v → Value.okWide Try.prog W .any base t v := hval0
  have hW' := hW
  obtain ⟨p, q, hA0, hV, rfl, _, _⟩ := hW
  have hA : DataW.TrodAll enc Try.prog W 0 (fun _ => true) true Try.f4.params.toList args.toList ds p := hA0
  rw [Try.params4] at hA hval hsz
  obtain ⟨v0, d0, rfl, rfl, h0⟩ := trodAll_one hA
  obtain ⟨rfl, rfl⟩ := trodVars_none hV
  have hsz1 : (DataW.weightsEach Try.prog [40] [d0]).all (· ≤ reachBytes) = true := hsz
  obtain ⟨l, m, A1, A2, c1, c2, t, u, more, rfl, ht, hu, hmore, hlc, hc1, hl, hmc, hc2, hm⟩ := open_two (hval 0 40 v0 rfl rfl) h0 hsz1
  clear hA0 hval0
  simp only [List.append_nil] at hW'
  have hlt : ∀ x ∈ p, x.block < W.heap.size := fun x hx => by simpa using hW'.lt x (by simpa using hx)
  refine (lawsame_any W _ l m A1 A2 c1 c2 t u more ht hu hmore (fun _ h => h) hl hlc hc1 hm hmc hc2).mono fun e W' ⟨he, hnx⟩ => ?_
  subst he
  refine ⟨_, rfl, _, _, _, [], p, [], hW', ?_, ?_, rfl, hnx.frame _, fun h => by cases h⟩
  · exact trodAll_mk1 (shut_bool Try.underlying4 true)
  · exact trodAll_mk1 (Below.trod lawLaid (by kernel_rfl) (of_decide_eq_true (by kernel_rfl)) h0 hnx hlt)

theorem treesame_holds : Rows.TreeSameSaid :=
  OpenClaim.holds_of_wide 4 Try.f4 rfl rfl rfl rfl rfl rfl rfl ⟨rfl, rfl, rfl, rfl, rfl⟩ rfl rfl rfl rfl rfl (by kernel_rfl) Try.func4 (by kernel_rfl)
    (of_decide_eq_true (by kernel_rfl)) (by unfold Func.isWrapper; first | (rw [if_pos (by decide +kernel)]; kernel_rfl) | (rw [if_neg (by decide +kernel)]; exact ⟨rfl, rfl⟩))
    (fun os started H enc _ => same_lifted os started H enc)

#print axioms treesame_holds
end Go.Proofs.Ythgbldkcgfggfaa

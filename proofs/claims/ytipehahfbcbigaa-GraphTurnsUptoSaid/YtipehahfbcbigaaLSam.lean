/-
  trefoillaw06.GraphSame is true for every input that it is handed, and leaves its arguments as they were.
-/
import Derived.Test.YtipehahfbcbigaaLOpen
import Derived.Test.YtipehahfbcbigaaDAlive
import Derived.Test.YtipehahfbcbigaaDRef
namespace Go.Proofs.Ytipehahfbcbigaa
open Go.ChangeShapes Go.WideShapes Go.ChangeAt Go.RowKit Go.Deep

theorem alive_c {w1 W : World} (hW : BelC w1 W) : Calls Try.prog 9 #[] W fun e w' => e = .returned (.bool true) ∧ BelC w1 w' :=
  (alive6_r W).mono fun _ _ ⟨h1, h2⟩ => ⟨h1, Below.trans hW (h2.mono (Below.size hW))⟩
theorem great_c {w1 W : World} {S : Nat → Prop} {g : RGr} {gv : Value} (hS : ∀ k, S k → k < w1.heap.size) (hg : GrV w1 S g gv) (hW : BelC w1 W) : Calls Try.prog 10 #[gv] W fun e w' => (∃ z : Int, e = .returned (.int .i64 z)) ∧ BelC w1 w' :=
  (great_r W S g gv (fun k hk => Nat.lt_of_lt_of_le (hS k hk) (Below.size hW)) (hg.keep (fun k hk => ⟨hk, Below.block hW k (hS k hk)⟩))).mono fun _ _ ⟨h1, h2⟩ => ⟨h1, Below.trans hW (h2.mono (Below.size hW))⟩
theorem dsame_c {w1 W : World} {S1 S2 : Nat → Prop} {g h : RGr} {gv hv : Value} {b : Bool} (hS1 : ∀ k, S1 k → k < w1.heap.size) (hg : GrV w1 S1 g gv) (hS2 : ∀ k, S2 k → k < w1.heap.size) (hh : GrV w1 S2 h hv) (hb : b = true ↔ g.ok = true ∧ h.ok = true ∧ G.Same g.gr.f g.root.toNat h.gr.f h.root.toNat) (hW : BelC w1 W) :
    Calls Try.prog 21 #[gv, hv] W fun e w' => e = .returned (.bool b) ∧ BelC w1 w' :=
  (dsame_u W S1 S2 g h gv hv b (fun k hk => Nat.lt_of_lt_of_le (hS1 k hk) (Below.size hW)) (fun k hk => Nat.lt_of_lt_of_le (hS2 k hk) (Below.size hW)) (hg.keep (fun k hk => ⟨hk, Below.block hW k (hS1 k hk)⟩)) (hh.keep (fun k hk => ⟨hk, Below.block hW k (hS2 k hk)⟩)) hb).mono fun _ _ ⟨h1, h2⟩ => ⟨h1, Below.trans hW (h2.mono (Below.size hW))⟩
theorem rsame_c {w1 W : World} {S1 S2 : Nat → Prop} {g h : RGr} {gv hv : Value} {b : Bool} (hS1 : ∀ k, S1 k → k < w1.heap.size) (hg : GrV w1 S1 g gv) (hS2 : ∀ k, S2 k → k < w1.heap.size) (hh : GrV w1 S2 h hv) (hb : b = true ↔ g.ok = true ∧ h.ok = true ∧ G.Same g.gr.f g.root.toNat h.gr.f h.root.toNat) (hW : BelC w1 W) :
    Calls Try.prog 22 #[gv, hv] W fun e w' => e = .returned (.bool b) ∧ BelC w1 w' :=
  (rsame_r W S1 S2 g h gv hv b (fun k hk => Nat.lt_of_lt_of_le (hS1 k hk) (Below.size hW)) (fun k hk => Nat.lt_of_lt_of_le (hS2 k hk) (Below.size hW)) (hg.keep (fun k hk => ⟨hk, Below.block hW k (hS1 k hk)⟩)) (hh.keep (fun k hk => ⟨hk, Below.block hW k (hS2 k hk)⟩)) hb).mono fun _ _ ⟨h1, h2⟩ => ⟨h1, Below.trans hW (h2.mono (Below.size hW))⟩

set_option maxRecDepth 100000 in
set_option maxHeartbeats 1000000 in
theorem lawsame6_any (w : World) (S1 S2 : Nat → Prop) (g h : RGr) (gv hv : Value) (hS1 : ∀ k, S1 k → k < w.heap.size) (hS2 : ∀ k, S2 k → k < w.heap.size) (hg : GrV w S1 g gv) (hh : GrV w S2 h hv) :
    Calls Try.prog 4 #[gv, hv] w fun e w' => e = .returned (.bool true) ∧ Below w.heap.size w w' := by
  have hgK := hg
  have hhK := hh
  obtain ⟨gA, gc, rfl, _, _, _⟩ := hg
  obtain ⟨hA, hc, rfl, _, _, _⟩ := hh
  obtain ⟨w1, hw1⟩ : ∃ w1, w1 = (w.alloc (.cells #[.slice gA g.nodes.length gc, .int .i64 g.root] 24)).alloc (.cells #[.slice hA h.nodes.length hc, .int .i64 h.root] 24) := ⟨_, rfl⟩
  have hb1 : Below w.heap.size w w1 := by rw [hw1]; exact ((Below.refl _ _).alloc (Nat.le_refl _) _).alloc (by simp) _
  have hq0 : Blk w1 w.heap.size (.cells #[.slice gA g.nodes.length gc, .int .i64 g.root] 24 (0, 0)) := by rw [hw1]; exact (Blk.new' _ _ _ rfl).alloc _
  have hq1 : Blk w1 (w.heap.size + 1) (.cells #[.slice hA h.nodes.length hc, .int .i64 h.root] 24 (0, 0)) := by rw [hw1]; exact Blk.new' _ _ _ (by simp)
  have hcell : ∀ W, BelC w1 W → (W.cell? ⟨w.heap.size, 0, none⟩ = some (.slice gA g.nodes.length gc) ∧ W.cell? ⟨w.heap.size, 1, none⟩ = some (.int .i64 g.root) ∧ W.cell? ⟨w.heap.size + 1, 0, none⟩ = some (.slice hA h.nodes.length hc) ∧ W.cell? ⟨w.heap.size + 1, 1, none⟩ = some (.int .i64 h.root)) := fun W hW => ⟨BelC.old hW (hq0.cells.1 0), BelC.old hW (hq0.cells.1 1), BelC.old hW (hq1.cells.1 0), BelC.old hW (hq1.cells.1 1)⟩
  have hgW := hgK.keep (w' := w1) (S' := S1) (fun k hk => ⟨hk, hb1.block k (hS1 k hk)⟩)
  have hhW := hhK.keep (w' := w1) (S' := S2) (fun k hk => ⟨hk, hb1.block k (hS2 k hk)⟩)
  have hT1 : ∀ k, S1 k → k < w1.heap.size := fun k hk => Nat.lt_of_lt_of_le (hS1 k hk) hb1.size
  have hT2 : ∀ k, S2 k → k < w1.heap.size := fun k hk => Nat.lt_of_lt_of_le (hS2 k hk) hb1.size
  obtain ⟨b, hb⟩ : ∃ b : Bool, b = true ↔ g.ok = true ∧ h.ok = true ∧ G.Same g.gr.f g.root.toNat h.gr.f h.root.toNat := by
    by_cases h : g.ok = true ∧ h.ok = true ∧ G.Same g.gr.f g.root.toNat h.gr.f h.root.toNat
    · exact ⟨true, by simp [h]⟩
    · exact ⟨false, by simp [h]⟩
  have HGg := Lib.hid (fun W (hW : BelC w1 W) => great_c hT1 hgW hW)
  have HGh := Lib.hid (fun W (hW : BelC w1 W) => great_c hT2 hhW hW)
  have HSm := Lib.hid (fun W (hW : BelC w1 W) => dsame_c hT1 hgW hT2 hhW hb hW)
  have HSr := Lib.hid (fun W (hW : BelC w1 W) => rsame_c hT1 hgW hT2 hhW hb hW)
  have HC := Lib.hid hcell
  have HB1 := Lib.hid hb1
  clear hgK hhK hS1 hS2 hb1 hq0 hq1 hcell hgW hhW hT1 hT2 hb
  go_enter Try.func4, Try.ntmps4
  go_wp2_with fail
  rw [← hw1]
  clear hw1
  refine (alive_c (BelC.refl w1)).mono ?_
  rintro e w2 ⟨rfl, hb2⟩
  have HB2 := Lib.hid hb2
  obtain ⟨k0, k1, k2, k3⟩ := HC.out w2 hb2
  clear hb2
  go_wp2_with (first
    | (go_at_call 10; (with_reducible refine (HGg.out w2 HB2.out).mono ?_); rintro e w3 ⟨⟨z, rfl⟩, hb3⟩; have HB3 := Lib.hid hb3; obtain ⟨j0, j1, j2, j3⟩ := HC.out w3 hb3; clear hb3; by_cases hz : (150 : Int) < z)
    | (go_at_call 10; (with_reducible refine (HGh.out w3 HB3.out).mono ?_); rintro e w4 ⟨⟨z2, rfl⟩, hb4⟩; have HB4 := Lib.hid hb4; have hx4 := HC.out w4 hb4; clear hb4; by_cases hz2 : (150 : Int) < z2))
  · go_ret
    exact ⟨rfl, HB1.out.trans (Below.mono HB3.out HB1.out.size)⟩
  · go_ret
    exact ⟨rfl, HB1.out.trans (Below.mono HB4.out HB1.out.size)⟩
  · have hb4 := HB4.out
    go_region_held3 (fun W => W.cell? ⟨w.heap.size, 0, none⟩ = some (.slice gA g.nodes.length gc) ∧ W.cell? ⟨w.heap.size, 1, none⟩ = some (.int .i64 g.root) ∧ W.cell? ⟨w.heap.size + 1, 0, none⟩ = some (.slice hA h.nodes.length hc) ∧ W.cell? ⟨w.heap.size + 1, 1, none⟩ = some (.int .i64 h.root))
      (first | with_reducible exact hx4 | (with_reducible refine HC.out _ ?_; (· repeat (first | with_reducible assumption | with_reducible refine BelC.drew ?_))))
      (first | (go_at_call 21; (with_reducible refine (HSm.out _ ?_).mono ?_); (· repeat (first | with_reducible assumption | with_reducible refine BelC.drew ?_)); rintro e w5 ⟨rfl, hb5⟩) | (go_at_call 22; (with_reducible refine (HSr.out _ ?_).mono ?_); (· repeat (first | with_reducible assumption | with_reducible refine BelC.drew ?_)); rintro e w6 ⟨rfl, hb6⟩))
    go_wp2
    go_ret
    exact ⟨rfl, HB1.out.trans (Below.mono hb6 HB1.out.size)⟩

set_option maxRecDepth 100000 in
theorem graphsame_lifted (os : Os) (started : os.Started) (H : Type) (enc : TypeId × Value → H) :
    ReturnsInHanded {} Try.checked os 4 .any (Rows.graphSameSpec.pre6 enc Try.prog Try.f4 Rows.graphSameRow.domain false) (Rows.graphSameSpec.post enc Try.prog Try.f4 false true false false) := by
  refine returnsInHanded_of_change_sized (C := Try.checked) lawOwn started (by kernel_rfl) Try.func4
    (ChangeSpec.witness6 (enc := enc) (C := Try.checked) false ⟨#[], #[.agg #[.slice none 0 0, .int .i64 0], .agg #[.slice none 0 0, .int .i64 0]], []⟩ 8 (by kernel_rfl) (by kernel_rfl) (by kernel_rfl) (by kernel_rfl)) ?_
  intro W base args ds gs before hval0 hW _ hsz0 _
  have hsz : (DataW.weightsEach Try.prog (Try.f4.params.toList ++ Rows.graphSameSpec.plain.varTypes Try.prog) (ds ++ gs)).all (· ≤ reachBytes) = true := hsz0
  clear hsz0
  have hval : ∀ (j : Nat) t v, Try.f4.params[j]? = some t → args[j]? = some v → Value.okWide Try.prog W .any base t v := hval0
  have hW' := hW
  obtain ⟨p, q, hA0, hV, rfl, _, _⟩ := hW
  have hA : DataW.TrodAll enc Try.prog W 0 (fun _ => true) true Try.f4.params.toList args.toList ds p := hA0
  rw [Try.params4] at hA hval hsz
  obtain ⟨v0, v1, d0, d1, p0, p1, rfl, rfl, rfl, h0, h1⟩ := trodAll_two hA
  obtain ⟨rfl, rfl⟩ := trodVars_none hV
  have hsz1 : (DataW.weightsEach Try.prog [24, 24] [d0, d1]).all (· ≤ reachBytes) = true := hsz
  have hwt := fun n hn => of_decide_eq_true (List.all_eq_true.1 hsz1 n hn)
  obtain ⟨g, hg, _⟩ := open_graph (hval 0 24 v0 rfl rfl) h0 (fun n hn => hwt n (DataW.weights_mem_each (j := 0) (t := 24) (d := d0) rfl rfl n hn))
  obtain ⟨h, hh, _⟩ := open_graph (hval 1 24 v1 rfl rfl) h1 (fun n hn => hwt n (DataW.weights_mem_each (j := 1) (t := 24) (d := d1) rfl rfl n hn))
  clear hA0 hval0
  simp only [List.append_nil] at hW'
  have hlt : ∀ x ∈ p0 ++ p1, x.block < W.heap.size := fun x hx => by simpa using hW'.lt x (by simpa using hx)
  refine (lawsame6_any W _ _ g h v0 v1 (fun _ h => h) (fun _ h => h) hg hh).mono fun e W' ⟨he, hnx⟩ => ?_
  subst he
  refine ⟨_, rfl, _, _, _, [], p0 ++ p1, [], hW', ?_, ?_, rfl, hnx.frame _, fun h => by cases h⟩
  · exact trodAll_mk1 (shut_bool Try.underlying4 true)
  · exact trodAll_mk2 (Below.trod lawLaid (by kernel_rfl) (of_decide_eq_true (by kernel_rfl)) h0 hnx (fun x hx => hlt x (List.mem_append_left _ hx))) (Below.trod lawLaid (by kernel_rfl) (of_decide_eq_true (by kernel_rfl)) h1 hnx (fun x hx => hlt x (List.mem_append_right _ hx)))

theorem graphsame_holds : Rows.GraphSameSaid :=
  OpenClaim.holds_of_wide 4 Try.f4 rfl rfl rfl rfl rfl rfl rfl ⟨rfl, rfl, rfl, rfl, rfl⟩ rfl rfl rfl rfl rfl (by kernel_rfl) Try.func4 (by kernel_rfl)
    (of_decide_eq_true (by kernel_rfl)) (by unfold Func.isWrapper; first | (rw [if_pos (by decide +kernel)]; kernel_rfl) | (rw [if_neg (by decide +kernel)]; exact ⟨rfl, rfl⟩))
    (fun os started H enc _ => graphsame_lifted os started H enc)

#print axioms graphsame_holds
end Go.Proofs.Ytipehahfbcbigaa

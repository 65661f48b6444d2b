/-
  trefoillaw06.GraphReach is true for every input that it is handed, and leaves its arguments as they were.
-/
import Derived.Test.YtipehahfbcbigaaLCom
import Derived.Test.YtipehahfbcbigaaLTrimP
import Derived.Test.YtipehahfbcbigaaDMap
import Derived.Maps.Own
namespace Go.Proofs.Ytipehahfbcbigaa
open Go.ChangeShapes Go.WideShapes Go.ChangeAt Go.RowKit Go.Deep

theorem keyedI : Maps.Keyed Try.prog 3 := Maps.int_keyed Try.underlying3
theorem zeroBo (w : World) : (zeroValue 4).run Try.prog w = .ok (.bool false) w := by kernel_rfl
/-- Numbers that were met, as a map's datum. -/
def setB (l : List Nat) : DataW Unit := l.foldl (fun D (x : Nat) => D.put (.int .i64 (x : Int)) (.lit (.bool true))) (.map [])
theorem setB_snoc (l : List Nat) (x : Nat) : setB (l ++ [x]) = (setB l).put (.int .i64 (x : Int)) (.lit (.bool true)) := by simp [setB]
theorem setB_isMap (l : List Nat) : Maps.IsMap (setB l) :=
  gsnoc_ind (P := fun l => Maps.IsMap (setB l)) Maps.isMap_empty (fun l x h => by rw [setB_snoc]; exact h.put _ _) l
theorem at_setB (l : List Nat) (x : Nat) : (setB l).atKey (.int .i64 (x : Int)) (.lit (.bool false)) = .lit (.bool (decide (x ∈ l))) := by
  refine gsnoc_ind (P := fun l => (setB l).atKey (.int .i64 (x : Int)) (.lit (.bool false)) = .lit (.bool (decide (x ∈ l)))) rfl ?_ l
  intro l y ih
  rw [setB_snoc]
  by_cases e : x = y
  · subst e
    rw [Maps.atKey_put_same (setB_isMap l) (by simp [WideAt.IsKeyLit])]
    simp
  · rw [Maps.atKey_put_other (fun e2 => e (by simp at e2; omega)), ih]
    simp [e]
theorem plainElem_bool_inv {H : Type} {P : Program} {e : TypeId} (he : P.underlying e = some .bool) {v : Value} {z : DataW H × List MemPlace} (h : plainElem P e v = some z) : ∃ a, v = .bool a ∧ z = (.lit (.bool a), []) := by
  unfold plainElem at h
  rw [he] at h
  cases v <;> simp at h
  exact ⟨_, rfl, h.symm⟩
theorem met_look {W : World} {mb n x : Nat} {l : List Nat} (h : W.ownsMap Try.prog 3 (plainElem Try.prog 4) mb n (setB l)) (hx : x ≤ 4000000) : (Instr.lookup 39 (.map (some mb)) (.int .i64 (x : Int)) false).run Try.prog W = .ok (.bool (decide (x ∈ l))) W := by
  obtain ⟨v, ps, hrun, hv⟩ := h.lookup keyedI Try.underlying39 (zeroBo W) (plainElem_bool Try.underlying4 false) (Maps.keyOf_int_mk Try.underlying3 (wfI x hx))
  rw [at_setB] at hv
  obtain ⟨c, rfl, e⟩ := plainElem_bool_inv Try.underlying4 hv
  simp only [Prod.mk.injEq, DataW.lit.injEq, Lit.bool.injEq] at e
  rw [e.1]
  exact hrun

theorem dsame_e {wC X W : World} {S1 S2 : Nat → Prop} {g h : RGr} {gv hv : Value} {b : Bool} (hS1 : ∀ k, S1 k → k < wC.heap.size) (hg : GrV wC S1 g gv) (hS2 : ∀ k, S2 k → k < wC.heap.size) (hh : GrV wC S2 h hv) (hb : b = true ↔ g.ok = true ∧ h.ok = true ∧ G.Same g.gr.f g.root.toNat h.gr.f h.root.toNat) (hX : BelC wC X) (hW : BelC X W) :
    Calls Try.prog 21 #[gv, hv] W fun e w' => e = .returned (.bool b) ∧ BelC X w' := by
  have hCW : BelC wC W := Below.trans hX (Below.mono hW (Below.size hX))
  exact (dsame_u W S1 S2 g h gv hv b (fun k hk => Nat.lt_of_lt_of_le (hS1 k hk) (Below.size hCW)) (fun k hk => Nat.lt_of_lt_of_le (hS2 k hk) (Below.size hCW)) (hg.keep (fun k hk => ⟨hk, Below.block hCW k (hS1 k hk)⟩)) (hh.keep (fun k hk => ⟨hk, Below.block hCW k (hS2 k hk)⟩)) hb).mono fun _ _ ⟨h1, h2⟩ => ⟨h1, Below.trans hW (h2.mono (Below.size hW))⟩

set_option maxRecDepth 100000 in
set_option maxHeartbeats 2000000 in
theorem lawreach_any (w : World) (S1 S2 S3 : Nat → Prop) (g h k : RGr) (gv hv kv : Value) (hS1 : ∀ j, S1 j → j < w.heap.size) (hS2 : ∀ j, S2 j → j < w.heap.size) (hS3 : ∀ j, S3 j → j < w.heap.size) (hg : GrV w S1 g gv) (hh : GrV w S2 h hv) (hk : GrV w S3 k kv) :
    Calls Try.prog 8 #[gv, hv, kv] w fun e w' => e = .returned (.bool true) ∧ Below w.heap.size w w' := by
  have hgK := hg
  have hhK := hh
  have hkK := hk
  obtain ⟨gA, gc, rfl, hgc, hgm, oG⟩ := hg
  obtain ⟨hA, hc, rfl, _, _, _⟩ := hh
  obtain ⟨kA, kc, rfl, _, _, _⟩ := hk
  unfold maxLen at hgm
  obtain ⟨w1, hw1⟩ : ∃ w1, w1 = ((w.alloc (.cells #[.slice gA g.nodes.length gc, .int .i64 g.root] 24)).alloc (.cells #[.slice hA h.nodes.length hc, .int .i64 h.root] 24)).alloc (.cells #[.slice kA k.nodes.length kc, .int .i64 k.root] 24) := ⟨_, rfl⟩
  have hsz1 : w1.heap.size = w.heap.size + 3 := by rw [hw1]; simp
  have hb1 : Below w.heap.size w w1 := by rw [hw1]; exact (((Below.refl _ _).alloc (Nat.le_refl _) _).alloc (by simp) _).alloc (by simp; omega) _
  have hq0 : Blk w1 w.heap.size (.cells #[.slice gA g.nodes.length gc, .int .i64 g.root] 24 (0, 0)) := by rw [hw1]; exact ((Blk.new' _ _ _ rfl).alloc _).alloc _
  have hq1 : Blk w1 (w.heap.size + 1) (.cells #[.slice hA h.nodes.length hc, .int .i64 h.root] 24 (0, 0)) := by rw [hw1]; exact (Blk.new' _ _ _ (by simp)).alloc _
  have hq2 : Blk w1 (w.heap.size + 1 + 1) (.cells #[.slice kA k.nodes.length kc, .int .i64 k.root] 24 (0, 0)) := by rw [hw1]; exact Blk.new' _ _ _ (by simp)
  have hcell : ∀ W, BelC w1 W → (W.cell? ⟨w.heap.size, 0, none⟩ = some (.slice gA g.nodes.length gc) ∧ W.cell? ⟨w.heap.size, 1, none⟩ = some (.int .i64 g.root) ∧ W.cell? ⟨w.heap.size + 1, 0, none⟩ = some (.slice hA h.nodes.length hc) ∧ W.cell? ⟨w.heap.size + 1, 1, none⟩ = some (.int .i64 h.root) ∧ W.cell? ⟨w.heap.size + 1 + 1, 0, none⟩ = some (.slice kA k.nodes.length kc) ∧ W.cell? ⟨w.heap.size + 1 + 1, 1, none⟩ = some (.int .i64 k.root)) := fun W hW => ⟨BelC.old hW (hq0.cells.1 0), BelC.old hW (hq0.cells.1 1), BelC.old hW (hq1.cells.1 0), BelC.old hW (hq1.cells.1 1), BelC.old hW (hq2.cells.1 0), BelC.old hW (hq2.cells.1 1)⟩
  have hgW := hgK.keep (w' := w1) (S' := S1) (fun j hj => ⟨hj, hb1.block j (hS1 j hj)⟩)
  have hhW := hhK.keep (w' := w1) (S' := S2) (fun j hj => ⟨hj, hb1.block j (hS2 j hj)⟩)
  have hkW := hkK.keep (w' := w1) (S' := S3) (fun j hj => ⟨hj, hb1.block j (hS3 j hj)⟩)
  have hT1 : ∀ j, S1 j → j < w1.heap.size := fun j hj => Nat.lt_of_lt_of_le (hS1 j hj) hb1.size
  have hT2 : ∀ j, S2 j → j < w1.heap.size := fun j hj => Nat.lt_of_lt_of_le (hS2 j hj) hb1.size
  have hT3 : ∀ j, S3 j → j < w1.heap.size := fun j hj => Nat.lt_of_lt_of_le (hS3 j hj) hb1.size
  have HON := Lib.hid (NdsO.keep (fun j hj => ⟨hj, hb1.block j (hS1 j hj)⟩) _ _ oG : NdsO w1 S1 g.nodes gA)
  obtain ⟨cg, hcg⟩ : ∃ c, g.code = c := ⟨_, rfl⟩
  obtain ⟨ch, hch⟩ : ∃ c, h.code = c := ⟨_, rfl⟩
  obtain ⟨ck, hck⟩ : ∃ c, k.code = c := ⟨_, rfl⟩
  have HGg := Lib.hid (fun W (hW : BelC w1 W) => great_c hT1 hgW hW)
  have HGh := Lib.hid (fun W (hW : BelC w1 W) => great_c hT2 hhW hW)
  have HGk := Lib.hid (fun W (hW : BelC w1 W) => great_c hT3 hkW hW)
  have hKg := fun W (hW : BelC w1 W) => check_c hT1 hgW hW
  have hKh := fun W (hW : BelC w1 W) => check_c hT2 hhW hW
  have hKk := fun W (hW : BelC w1 W) => check_c hT3 hkW hW
  rw [hcg] at hKg
  rw [hch] at hKh
  rw [hck] at hKk
  have HKg := Lib.hid hKg
  have HKh := Lib.hid hKh
  have HKk := Lib.hid hKk
  have HRe := Lib.hid (fun W (hW : BelC w1 W) => reach_e hT1 hgW (BelC.refl w1) hW)
  have HSm := Lib.hid (fun (b : Bool) (hb : b = true ↔ g.ok = true ∧ h.ok = true ∧ G.Same g.gr.f g.root.toNat h.gr.f h.root.toNat) (X W : World) (hX : BelC w1 X) (hW : BelC X W) => dsame_e hT1 hgW hT2 hhW hb hX hW)
  have HSm2 := Lib.hid (fun (b : Bool) (hb : b = true ↔ h.ok = true ∧ k.ok = true ∧ G.Same h.gr.f h.root.toNat k.gr.f k.root.toNat) (X W : World) (hX : BelC w1 X) (hW : BelC X W) => dsame_e hT2 hhW hT3 hkW hb hX hW)
  have HSm3 := Lib.hid (fun (b : Bool) (hb : b = true ↔ g.ok = true ∧ k.ok = true ∧ G.Same g.gr.f g.root.toNat k.gr.f k.root.toNat) (X W : World) (hX : BelC w1 X) (hW : BelC X W) => dsame_e hT1 hgW hT3 hkW hb hX hW)
  have HC := Lib.hid hcell
  have HB1 := Lib.hid hb1
  have HCg := Lib.hid hcg
  have HCh := Lib.hid hch
  have HCk := Lib.hid hck
  have HT1 := Lib.hid hT1
  clear hgK hhK hkK hS1 hS2 hS3 hb1 hq0 hq1 hq2 hcell hgW hhW hkW hT1 hT2 hT3 hcg hch hck hKg hKh hKk oG
  go_enter Try.func8, Try.ntmps8
  go_wp2_with fail
  rw [show w.heap.size + 1 + 1 = w.heap.size + 1 + 1 from rfl, ← hw1]
  clear hw1
  refine (alive_c (BelC.refl w1)).mono ?_
  rintro e w2 ⟨rfl, hb2⟩
  have HB2 := Lib.hid hb2
  obtain ⟨k0, k1, k2, k3, k4, k5⟩ := HC.out w2 hb2
  clear hb2
  go_upto_region 5 with (first
    | (go_at_call 10; (with_reducible refine (HGg.out w2 HB2.out).mono ?_); rintro e w3 ⟨⟨z, rfl⟩, hb3⟩; have HB3 := Lib.hid hb3; obtain ⟨j0, j1, j2, j3, j4, j5⟩ := HC.out w3 hb3; clear hb3; by_cases hz : (200 : Int) < z)
    | (go_at_call 10; (with_reducible refine (HGh.out w3 HB3.out).mono ?_); rintro e w4 ⟨⟨z2, rfl⟩, hb4⟩; have HB4 := Lib.hid hb4; obtain ⟨i0, i1, i2, i3, i4, i5⟩ := HC.out w4 hb4; clear hb4; by_cases hz2 : (200 : Int) < z2)
    | (go_at_call 10; (with_reducible refine (HGk.out w4 HB4.out).mono ?_); rintro e w5 ⟨⟨z3, rfl⟩, hb5⟩; have HB5 := Lib.hid hb5; obtain ⟨l0, l1, l2, l3, l4, l5⟩ := HC.out w5 hb5; clear hb5; by_cases hz3 : (200 : Int) < z3)
    | (go_at_call 13; (with_reducible refine (HKg.out w5 HB5.out).mono ?_); rintro e w6 ⟨rfl, hb6⟩; have HB6 := Lib.hid hb6; obtain ⟨m0, m1, m2, m3, m4, m5⟩ := HC.out w6 hb6; clear hb6; by_cases hc1 : cg = 0 <;> (first | subst hc1 | have hc1b : (cg != 0) = true := bne_iff_ne.2 hc1))
    | (go_at_call 13; (with_reducible refine (HKh.out w6 HB6.out).mono ?_); rintro e w7 ⟨rfl, hb7⟩; have HB7 := Lib.hid hb7; obtain ⟨n0, n1, n2, n3, n4, n5⟩ := HC.out w7 hb7; clear hb7; by_cases hc2 : ch = 0 <;> (first | subst hc2 | have hc2b : (ch != 0) = true := bne_iff_ne.2 hc2))
    | (go_at_call 13; (with_reducible refine (HKk.out w7 HB7.out).mono ?_); rintro e w8 ⟨rfl, hb8⟩; have HB8 := Lib.hid hb8; have hx8 := HC.out w8 hb8; clear hb8; by_cases hc3 : ck = 0 <;> (first | subst hc3 | have hc3b : (ck != 0) = true := bne_iff_ne.2 hc3)))
  all_goals try (go_ret; first | exact ⟨rfl, HB1.out.trans (Below.mono HB3.out HB1.out.size)⟩ | exact ⟨rfl, HB1.out.trans (Below.mono HB4.out HB1.out.size)⟩ | exact ⟨rfl, HB1.out.trans (Below.mono HB5.out HB1.out.size)⟩ | exact ⟨rfl, HB1.out.trans (Below.mono HB6.out HB1.out.size)⟩ | exact ⟨rfl, HB1.out.trans (Below.mono HB7.out HB1.out.size)⟩ | exact ⟨rfl, HB1.out.trans (Below.mono HB8.out HB1.out.size)⟩)
  have hok := RGr.ok_of_code HCg.out
  have hokh := RGr.ok_of_code HCh.out
  have hokk := RGr.ok_of_code HCk.out
  have hrU : g.reachU = g.reach := by unfold RGr.reachU; rw [if_pos hok]
  obtain ⟨R, hR⟩ : ∃ R, R = g.reach := ⟨_, rfl⟩
  obtain ⟨rf1, rf2, rf3, rf4⟩ := reach_facts hok
  have hN9 := RGr.ok_len hok
  obtain ⟨_, hr0, hr1, _⟩ := RGr.ok_parts hok
  obtain ⟨rg, hrg⟩ : ∃ rg : Nat, g.root = (rg : Int) := ⟨g.root.toNat, by omega⟩
  have hroot : ∃ t, R = rg :: t := by
    obtain ⟨t, ht⟩ := (RGr.ok_fit hok).reach_root
    refine ⟨t, ?_⟩
    rw [hR]
    have e : g.gr.root = rg := by show g.root.toNat = rg; omega
    rw [← e]
    exact ht
  rw [← hR] at rf1 rf2 rf3 rf4
  have hre := HRe.out
  rw [hrU, ← hR] at hre
  have HRe2 := Lib.hid hre
  have HRoot := Lib.hid hroot
  have HNod := Lib.hid rf1
  have HLt := Lib.hid rf2
  have HCl := Lib.hid rf4
  have HOk := Lib.hid hok
  have HOkh := Lib.hid hokh
  have HOkk := Lib.hid hokk
  have hmm := @run_makeMap Try.prog
  have HRg := Lib.hid hrg
  have hb18 := HB8.out
  have HB18 := Lib.hid hb18
  obtain ⟨x0, x1, x2, x3, x4, x5⟩ := hx8
  clear hok hokh hokk hrU hR rf1 rf2 rf4 hr0 hr1 hrg hroot hre hb18 k0 k1 k2 k3 k4 k5 j0 j1 j2 j3 j4 j5 i0 i1 i2 i3 i4 i5 l0 l1 l2 l3 l4 l5 m0 m1 m2 m3 m4 m5 n0 n1 n2 n3 n4 n5 HGg HGh HGk HKg HKh HKk HB2 HB3 HB4 HB5 HB6 HB7 HRe
  go_wp2_with (go_at_call 16; (with_reducible refine (HRe2.out w8 HB8.out).mono ?_); rintro e w9 ⟨A9, c9, rfl, hl9, hm9, hst9, hb9, _⟩; have HSt9 := Lib.hid hst9; have HB9 := Lib.hid hb9; clear hst9 hb9)
  have hmk0 := World.ownsMap_made w9 Try.prog 3 (plainElem (H := Unit) Try.prog 4)
  have HMk0 := Lib.hid hmk0
  unfold maxLen at hm9
  clear hmk0 hmm x0 x1 x2 x3 x4 x5
  go_loopw [50] (fun v50 wr => ∃ j : Nat, v50 = .int .i64 j ∧ j ≤ R.length ∧ wr.ownsMap Try.prog 3 (plainElem (H := Unit) Try.prog 4) w9.heap.size j (setB (R.take j)) ∧ BelC w9 wr) (fun v50 _ => R.length - (intOf v50).toNat)
  case atStart => exact ⟨0, rfl, Nat.zero_le _, HMk0.out, (BelC.refl w9).alloc _⟩
  case round =>
    obtain ⟨j, rfl, hj, hown, hbr⟩ := hrel
    have HOwn := Lib.hid hown
    have HBr := Lib.hid hbr
    by_cases hlt : j < R.length
    · obtain ⟨b, o, rfl, _, d1⟩ := IntsO.get _ _ (HSt9.out wr hbr) j (by simpa using hlt)
      rw [List.getElem_map] at d1
      obtain ⟨y, hy⟩ : ∃ y, y = R[j] := ⟨_, rfl⟩
      rw [← hy] at d1
      have d1' : wr.cell? ⟨b, o + j, none⟩ = some (.int .i64 (y : Int)) := d1
      have hyN : y < g.nodes.length := HLt.out y (by rw [hy]; exact List.getElem_mem hlt)
      have hny : y ∉ R.take j := by
        intro hm
        have h1 := HNod.out
        rw [← List.take_append_drop j R] at h1
        exact (List.nodup_append.1 h1).2.2 y hm y (by rw [List.drop_eq_getElem_cons hlt, ← hy]; exact List.mem_cons_self ..) rfl
      have hlk := met_look hown (x := y) (by omega)
      rw [decide_eq_false hny] at hlk
      have htk : setB (R.take (j + 1)) = (setB (R.take j)).put (.int .i64 (y : Int)) (.lit (.bool true)) := by
        rw [List.take_add_one, List.getElem?_eq_getElem hlt, ← hy]
        exact setB_snoc _ _
      have HTk := Lib.hid htk
      have hkey := Maps.keyOf_int_mk Try.underlying3 (wfI y (by omega))
      have HKey := Lib.hid hkey
      clear d1 hy hny htk hkey hown hbr
      go_wp2_with (at_mapUpdate; refine wpList_mapUpdate_own _ rfl _ _ _ 39 rfl 3 4 keyedI Try.underlying39 _ w9.heap.size j _ rfl HOwn.out (by unfold maxLen; omega) _ _ _ rfl rfl HKey.out _ [] (plainElem_bool Try.underlying4 true) ?_; intro w10 hown10 hgrow10; have HOwn10 := Lib.hid hown10; have HGrow10 := Lib.hid hgrow10; clear hown10 hgrow10)
      go_roundw
      case rel => exact ⟨j + 1, by go_num, by omega, by rw [HTk.out]; exact HOwn10.out, Below.trans HBr.out ((Keeps.of_grown HGrow10.out).below (Below.size HBr.out) (fun i hi e => by injection e with e; omega))⟩
      case measure => simp [intOf]; omega
    · have hj' : j = R.length := by omega
      have hown2 : wr.ownsMap Try.prog 3 (plainElem (H := Unit) Try.prog 4) w9.heap.size j (setB R) := by
        have h1 := hown
        rwa [hj', List.take_length, ← hj'] at h1
      have HOwn2 := Lib.hid hown2
      obtain ⟨wm, hwm⟩ : ∃ x, x = wr := ⟨_, rfl⟩
      rw [← hwm] at HOwn2 HBr ⊢
      clear hj' hown2 hown hbr hwm HOwn
      go_wp2
      go_loopw [62] (fun v62 wr => ∃ i n : Nat, v62 = .int .i64 i ∧ i ≤ R.length ∧ wr = wm.drewN n) (fun v62 _ => R.length - (intOf v62).toNat)
      case atStart => exact ⟨0, 0, rfl, Nat.zero_le _, rfl⟩
      case round =>
        obtain ⟨i, n, rfl, hi, rfl⟩ := hrel
        have hb9 : BelC w9 (wm.drewN n) := Below.drewN'' HBr.out n
        have hb1w : BelC w1 (wm.drewN n) := Below.trans HB9.out (Below.mono hb9 (Below.size HB9.out))
        obtain ⟨q0, q1, q2, q3, q4, q5⟩ := HC.out _ hb1w
        by_cases hlt : i < R.length
        · obtain ⟨b, o, rfl, _, d1⟩ := IntsO.get _ _ (HSt9.out _ hb9) i (by simpa using hlt)
          rw [List.getElem_map] at d1
          obtain ⟨y, hy⟩ : ∃ y, y = R[i] := ⟨_, rfl⟩
          rw [← hy] at d1
          have d1' : (wm.drewN n).cell? ⟨b, o + i, none⟩ = some (.int .i64 (y : Int)) := d1
          have hyR : y ∈ R := by rw [hy]; exact List.getElem_mem hlt
          have hyN : y < g.nodes.length := HLt.out y hyR
          obtain ⟨b1, o1, rfl, hnp⟩ := NdsO.get _ _ HON.out y hyN
          have hcl := HCl.out y hyR
          rw [g.nd_eq y hyN] at hcl
          obtain ⟨X, hX⟩ : ∃ X, X = g.nodes[y] := ⟨_, rfl⟩
          rw [← hX] at hnp hcl
          obtain ⟨xA, xB, xL, xM, f0, f1, f2, f3, f4, h1, h2, h3, h4, h5, h6, h7, h8⟩ := hnp.val
          have p2 := BelC.old hb1w f2
          have HX6 := Lib.hid h6
          have HCl2 := Lib.hid hcl
          unfold maxLen at h3
          clear d1 hy hyR hcl hX hnp f0 f1 f2 f3 f4 h1 h4 h5 h6 h7 h8 hb9 hb1w q1 q2 q3 q4 q5
          go_wp2
          go_loopw [73] (fun v73 wr => ∃ m n : Nat, v73 = .int .i64 m ∧ m ≤ X.args.length ∧ wr = wm.drewN n) (fun v73 _ => X.args.length - (intOf v73).toNat)
          case atStart => exact ⟨0, n, rfl, Nat.zero_le _, rfl⟩
          case round =>
            obtain ⟨m, n2, rfl, hm, rfl⟩ := hrel
            by_cases hlt2 : m < X.args.length
            · have hb9 : BelC w9 (wm.drewN n2) := Below.drewN'' HBr.out n2
              have hb1w : BelC w1 (wm.drewN n2) := Below.trans HB9.out (Below.mono hb9 (Below.size HB9.out))
              obtain ⟨xb, xo, rfl, _, e1⟩ := IntsO.get _ _ HX6.out m hlt2
              obtain ⟨z0, z1, zR⟩ := HCl2.out _ (List.getElem_mem hlt2)
              obtain ⟨zn, hzn⟩ : ∃ zn : Nat, X.args[m] = (zn : Int) := ⟨(X.args[m]).toNat, by omega⟩
              have hzR : zn ∈ R := by rw [hzn] at zR; simpa using zR
              rw [hzn] at e1
              have e2 := BelC.old hb1w e1
              have hlk := met_look (W := wm.drewN n2) (mb := w9.heap.size) (l := R) (x := zn) HOwn2.out (by omega)
              rw [decide_eq_true hzR] at hlk
              clear hb9 hb1w e1 z0 z1 zR hzn hzR p2 q0
              go_wp2
              go_roundw
              case rel => exact ⟨m + 1, _, by go_num, by omega, rfl⟩
              case measure => simp [intOf]; omega
            · clear p2 q0 d1'
              go_wp2
              go_roundw
              case rel => exact ⟨i + 1, _, by go_num, by omega, rfl⟩
              case measure => simp [intOf]; omega
        · clear q0 q1 q2 q3 q4 q5
          obtain ⟨t, ht⟩ := HRoot.out
          have hRl : 0 < R.length := by rw [ht]; simp
          obtain ⟨b, o, rfl, _, d1⟩ := IntsO.get _ _ (HSt9.out _ hb9) 0 (by simpa using hRl)
          have d0 : ∀ W, BelC (wm.drewN n) W → W.cell? ⟨b, o, none⟩ = some (.int .i64 g.root) := fun W hW => by
            have h1 := BelC.old hW d1
            rw [List.getElem_map] at h1
            have h2 : R[0] = rg := by simp [ht]
            rw [h2] at h1
            rw [HRg.out]
            exact h1
          obtain ⟨wf, hwf⟩ : ∃ x, x = wm.drewN n := ⟨_, rfl⟩
          rw [← hwf] at hb1w d0 ⊢
          have hcf : ∀ W, BelC wf W → (W.cell? ⟨w.heap.size, 0, none⟩ = some (.slice gA g.nodes.length gc) ∧ W.cell? ⟨w.heap.size, 1, none⟩ = some (.int .i64 g.root) ∧ W.cell? ⟨w.heap.size + 1, 0, none⟩ = some (.slice hA h.nodes.length hc) ∧ W.cell? ⟨w.heap.size + 1, 1, none⟩ = some (.int .i64 h.root) ∧ W.cell? ⟨w.heap.size + 1 + 1, 0, none⟩ = some (.slice kA k.nodes.length kc) ∧ W.cell? ⟨w.heap.size + 1 + 1, 1, none⟩ = some (.int .i64 k.root) ∧ W.cell? ⟨b, o, none⟩ = some (.int .i64 g.root)) := fun W hW => by
            obtain ⟨h0, h1, h2, h3, h4, h5⟩ := HC.out W (Below.trans hb1w (Below.mono hW (Below.size hb1w)))
            exact ⟨h0, h1, h2, h3, h4, h5, d0 W hW⟩
          obtain ⟨b1, hb1⟩ : ∃ b : Bool, b = true ↔ G.Same g.gr.f g.root.toNat h.gr.f h.root.toNat := by
            by_cases h : G.Same g.gr.f g.root.toNat h.gr.f h.root.toNat
            · exact ⟨true, by simp [h]⟩
            · exact ⟨false, by simp [h]⟩
          obtain ⟨b2, hb2⟩ : ∃ b : Bool, b = true ↔ G.Same h.gr.f h.root.toNat k.gr.f k.root.toNat := by
            by_cases h : G.Same h.gr.f h.root.toNat k.gr.f k.root.toNat
            · exact ⟨true, by simp [h]⟩
            · exact ⟨false, by simp [h]⟩
          obtain ⟨b3, hb3⟩ : ∃ b : Bool, b = true ↔ G.Same g.gr.f g.root.toNat k.gr.f k.root.toNat := by
            by_cases h : G.Same g.gr.f g.root.toNat k.gr.f k.root.toNat
            · exact ⟨true, by simp [h]⟩
            · exact ⟨false, by simp [h]⟩
          have s1 := fun W (hW : BelC wf W) => HSm.out b1 ⟨fun e => ⟨HOk.out, HOkh.out, hb1.1 e⟩, fun e => hb1.2 e.2.2⟩ wf W hb1w hW
          have s2 := fun W (hW : BelC wf W) => HSm2.out b2 ⟨fun e => ⟨HOkh.out, HOkk.out, hb2.1 e⟩, fun e => hb2.2 e.2.2⟩ wf W hb1w hW
          have s3 := fun W (hW : BelC wf W) => HSm3.out b3 ⟨fun e => ⟨HOk.out, HOkk.out, hb3.1 e⟩, fun e => hb3.2 e.2.2⟩ wf W hb1w hW
          have s4 : b1 = true → b2 = true → b3 = true := fun h1 h2 => hb3.2 ((hb1.1 h1).trans (hb2.1 h2))
          have K1 := Lib.hid s1
          have K2 := Lib.hid s2
          have K3 := Lib.hid s3
          have K4 := Lib.hid s4
          have KC := Lib.hid hcf
          have KB := Lib.hid (HB1.out.trans (Below.mono hb1w HB1.out.size) : Below w.heap.size w wf)
          have hxf := hcf wf (BelC.refl _)
          have hRi : (0 : Int) < (R.length : Int) := by omega
          clear s1 s2 s3 s4 hcf hb1 hb2 hb3 hb1w d0 d1 ht hwf hb9 HSm HSm2 HSm3 HRe2 HC HOwn2 HBr HB9 HB8 HB18 HMk0 hm9 hl9
          cases b1 with
          | false =>
            go_wp2_with fail
            refine wp_region_noPanic ?_
            refine wp_region_held_drew (S := (fun W => W.cell? ⟨w.heap.size, 0, none⟩ = some (.slice gA g.nodes.length gc) ∧ W.cell? ⟨w.heap.size, 1, none⟩ = some (.int .i64 g.root) ∧ W.cell? ⟨w.heap.size + 1, 0, none⟩ = some (.slice hA h.nodes.length hc) ∧ W.cell? ⟨w.heap.size + 1, 1, none⟩ = some (.int .i64 h.root) ∧ W.cell? ⟨w.heap.size + 1 + 1, 0, none⟩ = some (.slice kA k.nodes.length kc) ∧ W.cell? ⟨w.heap.size + 1 + 1, 1, none⟩ = some (.int .i64 k.root) ∧ W.cell? ⟨b, o, none⟩ = some (.int .i64 g.root))) (by kernel_rfl) ?_ (fun hHeld => ?_)
            · (try dsimp only); (first | with_reducible exact hxf | (with_reducible refine KC.out _ ?_; (· repeat (first | with_reducible assumption | with_reducible exact BelC.refl _ | with_reducible refine BelC.drew ?_))))
            refine wpAnyH_take (i := 0) (oi := { dst := some 83, op := Op.move (Operand.tmp 7), type := 31, pos := "law.go:151", after := #[], guard := none }) (v := ?_) rfl (by kernel_rfl) (by kernel_rfl) (by kernel_rfl) (fun _ _ _ h => h) (Or.inl ⟨by rfl, ?_⟩) (by assumption) ?_
            rotate_left
            · intro w hSw; (try dsimp only at hSw); go_simp; (try with_reducible rfl)
            try simp only [Act.put, List.setIfInBounds_toArray, List.set_cons_zero, List.set_cons_succ]
            refine wpAnyH_take (i := 1) (oi := { dst := some 84, op := Op.indexAddr 31 (Operand.tmp 83) (Operand.const (Value.int IntKind.i64 0)), type := 0, pos := "law.go:151", after := #[{ on := 0, ground := Ground.data }], guard := none }) (v := ?_) rfl (by kernel_rfl) (by kernel_rfl) (by kernel_rfl) (fun _ _ _ h => h) (Or.inl ⟨by rfl, ?_⟩) (by assumption) ?_
            rotate_left
            · intro w hSw; (try dsimp only at hSw); go_simp; (try with_reducible rfl)
            try simp only [Act.put, List.setIfInBounds_toArray, List.set_cons_zero, List.set_cons_succ]
            refine wpAnyH_take (i := 2) (oi := { dst := some 85, op := Op.load 3 (Operand.tmp 84), type := 3, pos := "law.go:151", after := #[{ on := 1, ground := Ground.data }], guard := none }) (v := ?_) rfl (by kernel_rfl) (by kernel_rfl) (by kernel_rfl) (fun _ _ _ h => h) (Or.inl ⟨by rfl, ?_⟩) (by assumption) ?_
            rotate_left
            · intro w hSw; (try dsimp only at hSw); go_simp; (try with_reducible rfl)
            try simp only [Act.put, List.setIfInBounds_toArray, List.set_cons_zero, List.set_cons_succ]
            refine wpAnyH_take (i := 3) (oi := { dst := some 86, op := Op.fieldAddr 24 (Operand.tmp 3) 1, type := 0, pos := "law.go:151", after := #[], guard := none }) (v := ?_) rfl (by kernel_rfl) (by kernel_rfl) (by kernel_rfl) (fun _ _ _ h => h) (Or.inl ⟨by rfl, ?_⟩) (by assumption) ?_
            rotate_left
            · intro w hSw; (try dsimp only at hSw); go_simp; (try with_reducible rfl)
            try simp only [Act.put, List.setIfInBounds_toArray, List.set_cons_zero, List.set_cons_succ]
            refine wpAnyH_take (i := 4) (oi := { dst := some 87, op := Op.load 3 (Operand.tmp 86), type := 3, pos := "law.go:151", after := #[{ on := 3, ground := Ground.data }], guard := none }) (v := ?_) rfl (by kernel_rfl) (by kernel_rfl) (by kernel_rfl) (fun _ _ _ h => h) (Or.inl ⟨by rfl, ?_⟩) (by assumption) ?_
            rotate_left
            · intro w hSw; (try dsimp only at hSw); go_simp; (try with_reducible rfl)
            try simp only [Act.put, List.setIfInBounds_toArray, List.set_cons_zero, List.set_cons_succ]
            refine wpAnyH_take (i := 5) (oi := { dst := some 88, op := Op.binOp BinOp.eql 3 (Operand.tmp 85) (Operand.tmp 87) 3, type := 4, pos := "law.go:151", after := #[{ on := 2, ground := Ground.data }, { on := 4, ground := Ground.data }], guard := none }) (v := ?_) rfl (by kernel_rfl) (by kernel_rfl) (by kernel_rfl) (fun _ _ _ h => h) (Or.inl ⟨by rfl, ?_⟩) (by assumption) ?_
            rotate_left
            · intro w hSw; (try dsimp only at hSw); go_simp; (try with_reducible rfl)
            try simp only [Act.put, List.setIfInBounds_toArray, List.set_cons_zero, List.set_cons_succ]
            refine wpAnyH_take (i := 6) (oi := { dst := some 89, op := Op.move (Operand.tmp 88), type := 4, pos := "law.go:151", after := #[{ on := 5, ground := Ground.data }], guard := none }) (v := ?_) rfl (by kernel_rfl) (by kernel_rfl) (by kernel_rfl) (fun _ _ _ h => h) (Or.inl ⟨by rfl, ?_⟩) (by assumption) ?_
            rotate_left
            · intro w hSw; (try dsimp only at hSw); go_simp; (try with_reducible rfl)
            try simp only [Act.put, List.setIfInBounds_toArray, List.set_cons_zero, List.set_cons_succ]
            refine wpAnyH_take (i := 7) (oi := { dst := some 90, op := Op.load 24 (Operand.tmp 3), type := 24, pos := "law.go:151", after := #[{ on := 6, ground := Ground.guard }], guard := some (6, true) }) (v := ?_) rfl (by kernel_rfl) (by kernel_rfl) (by kernel_rfl) (fun _ _ _ h => h) (Or.inl ⟨by rfl, ?_⟩) (by assumption) ?_
            rotate_left
            · intro w hSw; (try dsimp only at hSw); go_simp; (try with_reducible rfl)
            try simp only [Act.put, List.setIfInBounds_toArray, List.set_cons_zero, List.set_cons_succ]
            refine wpAnyH_take (i := 8) (oi := { dst := some 91, op := Op.load 24 (Operand.tmp 4), type := 24, pos := "law.go:151", after := #[{ on := 6, ground := Ground.guard }], guard := some (6, true) }) (v := ?_) rfl (by kernel_rfl) (by kernel_rfl) (by kernel_rfl) (fun _ _ _ h => h) (Or.inl ⟨by rfl, ?_⟩) (by assumption) ?_
            rotate_left
            · intro w hSw; (try dsimp only at hSw); go_simp; (try with_reducible rfl)
            try simp only [Act.put, List.setIfInBounds_toArray, List.set_cons_zero, List.set_cons_succ]
            refine wpAnyH_ready (rs := [9]) (by kernel_rfl) (by simp) ?_
            refine AllReadyH.cons (o := { dst := some 92, op := Op.call { callee := Callee.value (Operand.func 21), args := #[Operand.tmp 90, Operand.tmp 91], argTypes := #[24, 24] }, type := 4, pos := "law.go:151", after := #[{ on := 7, ground := Ground.data }, { on := 8, ground := Ground.data }, { on := 6, ground := Ground.chain }, { on := 6, ground := Ground.guard }], guard := some (6, true) }) rfl (fun K hK => ?_) AllReadyH.nil
            go_simp
            go_at_call 21; (with_reducible refine (K1.out _ ?_).mono ?_); (· repeat (first | with_reducible assumption | with_reducible exact BelC.refl _ | with_reducible refine BelC.drew ?_)); rintro e w20 ⟨rfl, hb20⟩
            refine hK.out _ _ ?_ (fun hHeld => ?_)
            · (try dsimp only); (first | with_reducible exact hxf | (with_reducible refine KC.out _ ?_; (· repeat (first | with_reducible assumption | with_reducible exact BelC.refl _ | with_reducible refine BelC.drew ?_))))
            clear hK K
            try simp only [Act.put, List.setIfInBounds_toArray, List.set_cons_zero, List.set_cons_succ]
            refine wpAnyH_take (i := 10) (oi := { dst := some 93, op := Op.unOp UnOp.not 4 (Operand.tmp 92), type := 4, pos := "law.go:151", after := #[{ on := 9, ground := Ground.data }, { on := 6, ground := Ground.guard }], guard := some (6, true) }) (v := ?_) rfl (by kernel_rfl) (by kernel_rfl) (by kernel_rfl) (fun _ _ _ h => h) (Or.inl ⟨by rfl, ?_⟩) (by assumption) ?_
            rotate_left
            · intro w hSw; (try dsimp only at hSw); go_simp; (try with_reducible rfl)
            try simp only [Act.put, List.setIfInBounds_toArray, List.set_cons_zero, List.set_cons_succ]
            refine wpAnyH_take (i := 11) (oi := { dst := some 94, op := Op.move (Operand.tmp 93), type := 4, pos := "law.go:151", after := #[{ on := 10, ground := Ground.data }, { on := 9, ground := Ground.chain }, { on := 6, ground := Ground.guard }], guard := some (6, true) }) (v := ?_) rfl (by kernel_rfl) (by kernel_rfl) (by kernel_rfl) (fun _ _ _ h => h) (Or.inl ⟨by rfl, ?_⟩) (by assumption) ?_
            rotate_left
            · intro w hSw; (try dsimp only at hSw); go_simp; (try with_reducible rfl)
            try simp only [Act.put, List.setIfInBounds_toArray, List.set_cons_zero, List.set_cons_succ]
            refine wpAnyH_take (i := 12) (oi := { dst := some 95, op := Op.load 24 (Operand.tmp 4), type := 24, pos := "law.go:151", after := #[{ on := 11, ground := Ground.guard }], guard := some (11, false) }) (v := undef) rfl (by kernel_rfl) (by kernel_rfl) (by kernel_rfl) (fun _ _ _ h => h) (Or.inr ⟨by rfl, rfl⟩) (by assumption) ?_
            try simp only [Act.put, List.setIfInBounds_toArray, List.set_cons_zero, List.set_cons_succ]
            refine wpAnyH_take (i := 13) (oi := { dst := some 96, op := Op.load 24 (Operand.tmp 5), type := 24, pos := "law.go:151", after := #[{ on := 11, ground := Ground.guard }], guard := some (11, false) }) (v := undef) rfl (by kernel_rfl) (by kernel_rfl) (by kernel_rfl) (fun _ _ _ h => h) (Or.inr ⟨by rfl, rfl⟩) (by assumption) ?_
            try simp only [Act.put, List.setIfInBounds_toArray, List.set_cons_zero, List.set_cons_succ]
            refine wpAnyH_take (i := 14) (oi := { dst := some 97, op := Op.call { callee := Callee.value (Operand.func 21), args := #[Operand.tmp 95, Operand.tmp 96], argTypes := #[24, 24] }, type := 4, pos := "law.go:151", after := #[{ on := 12, ground := Ground.data }, { on := 13, ground := Ground.data }, { on := 11, ground := Ground.chain }, { on := 11, ground := Ground.guard }], guard := some (11, false) }) (v := undef) rfl (by kernel_rfl) (by kernel_rfl) (by kernel_rfl) (fun _ _ _ h => h) (Or.inr ⟨by rfl, rfl⟩) (by assumption) ?_
            try simp only [Act.put, List.setIfInBounds_toArray, List.set_cons_zero, List.set_cons_succ]
            refine wpAnyH_take (i := 15) (oi := { dst := some 98, op := Op.unOp UnOp.not 4 (Operand.tmp 97), type := 4, pos := "law.go:151", after := #[{ on := 14, ground := Ground.data }, { on := 11, ground := Ground.guard }], guard := some (11, false) }) (v := undef) rfl (by kernel_rfl) (by kernel_rfl) (by kernel_rfl) (fun _ _ _ h => h) (Or.inr ⟨by rfl, rfl⟩) (by assumption) ?_
            try simp only [Act.put, List.setIfInBounds_toArray, List.set_cons_zero, List.set_cons_succ]
            refine wpAnyH_take (i := 16) (oi := { dst := some 99, op := Op.pick (Operand.tmp 94) (Operand.const (Value.bool true)) (Operand.tmp 98), type := 4, pos := "law.go:151", after := #[{ on := 11, ground := Ground.data }, { on := 15, ground := Ground.data }, { on := 6, ground := Ground.guard }], guard := some (6, true) }) (v := ?_) rfl (by kernel_rfl) (by kernel_rfl) (by kernel_rfl) (fun _ _ _ h => h) (Or.inl ⟨by rfl, ?_⟩) (by assumption) ?_
            rotate_left
            · intro w hSw; (try dsimp only at hSw); go_simp; (try with_reducible rfl)
            try simp only [Act.put, List.setIfInBounds_toArray, List.set_cons_zero, List.set_cons_succ]
            refine wpAnyH_take (i := 17) (oi := { dst := some 100, op := Op.move (Operand.tmp 99), type := 4, pos := "law.go:151", after := #[{ on := 16, ground := Ground.data }, { on := 14, ground := Ground.chain }, { on := 6, ground := Ground.guard }], guard := some (6, true) }) (v := ?_) rfl (by kernel_rfl) (by kernel_rfl) (by kernel_rfl) (fun _ _ _ h => h) (Or.inl ⟨by rfl, ?_⟩) (by assumption) ?_
            rotate_left
            · intro w hSw; (try dsimp only at hSw); go_simp; (try with_reducible rfl)
            try simp only [Act.put, List.setIfInBounds_toArray, List.set_cons_zero, List.set_cons_succ]
            refine wpAnyH_take (i := 18) (oi := { dst := some 101, op := Op.load 24 (Operand.tmp 3), type := 24, pos := "law.go:151", after := #[{ on := 17, ground := Ground.guard }], guard := some (17, false) }) (v := undef) rfl (by kernel_rfl) (by kernel_rfl) (by kernel_rfl) (fun _ _ _ h => h) (Or.inr ⟨by rfl, rfl⟩) (by assumption) ?_
            try simp only [Act.put, List.setIfInBounds_toArray, List.set_cons_zero, List.set_cons_succ]
            refine wpAnyH_take (i := 19) (oi := { dst := some 102, op := Op.load 24 (Operand.tmp 5), type := 24, pos := "law.go:151", after := #[{ on := 17, ground := Ground.guard }], guard := some (17, false) }) (v := undef) rfl (by kernel_rfl) (by kernel_rfl) (by kernel_rfl) (fun _ _ _ h => h) (Or.inr ⟨by rfl, rfl⟩) (by assumption) ?_
            try simp only [Act.put, List.setIfInBounds_toArray, List.set_cons_zero, List.set_cons_succ]
            refine wpAnyH_take (i := 20) (oi := { dst := some 103, op := Op.call { callee := Callee.value (Operand.func 21), args := #[Operand.tmp 101, Operand.tmp 102], argTypes := #[24, 24] }, type := 4, pos := "law.go:151", after := #[{ on := 18, ground := Ground.data }, { on := 19, ground := Ground.data }, { on := 17, ground := Ground.chain }, { on := 17, ground := Ground.guard }], guard := some (17, false) }) (v := undef) rfl (by kernel_rfl) (by kernel_rfl) (by kernel_rfl) (fun _ _ _ h => h) (Or.inr ⟨by rfl, rfl⟩) (by assumption) ?_
            try simp only [Act.put, List.setIfInBounds_toArray, List.set_cons_zero, List.set_cons_succ]
            refine wpAnyH_take (i := 21) (oi := { dst := some 104, op := Op.pick (Operand.tmp 100) (Operand.const (Value.bool true)) (Operand.tmp 103), type := 4, pos := "law.go:151", after := #[{ on := 17, ground := Ground.data }, { on := 20, ground := Ground.data }, { on := 6, ground := Ground.guard }], guard := some (6, true) }) (v := ?_) rfl (by kernel_rfl) (by kernel_rfl) (by kernel_rfl) (fun _ _ _ h => h) (Or.inl ⟨by rfl, ?_⟩) (by assumption) ?_
            rotate_left
            · intro w hSw; (try dsimp only at hSw); go_simp; (try with_reducible rfl)
            try simp only [Act.put, List.setIfInBounds_toArray, List.set_cons_zero, List.set_cons_succ]
            refine wpAnyH_take (i := 22) (oi := { dst := some 105, op := Op.pick (Operand.tmp 89) (Operand.tmp 104) (Operand.const (Value.bool false)), type := 4, pos := "law.go:151", after := #[{ on := 6, ground := Ground.data }, { on := 21, ground := Ground.data }], guard := none }) (v := ?_) rfl (by kernel_rfl) (by kernel_rfl) (by kernel_rfl) (fun _ _ _ h => h) (Or.inl ⟨by rfl, ?_⟩) (by assumption) ?_
            rotate_left
            · intro w hSw; (try dsimp only at hSw); go_simp; (try with_reducible rfl)
            try simp only [Act.put, List.setIfInBounds_toArray, List.set_cons_zero, List.set_cons_succ]
            refine wpAnyH_take (i := 23) (oi := { dst := some 6, op := Op.assign (Operand.tmp 105), type := 4, pos := "law.go:151", after := #[{ on := 22, ground := Ground.data }, { on := 20, ground := Ground.chain }, { on := 0, ground := Ground.phase }, { on := 1, ground := Ground.phase }, { on := 2, ground := Ground.phase }, { on := 3, ground := Ground.phase }, { on := 4, ground := Ground.phase }, { on := 5, ground := Ground.phase }, { on := 6, ground := Ground.phase }, { on := 7, ground := Ground.phase }, { on := 8, ground := Ground.phase }, { on := 9, ground := Ground.phase }, { on := 10, ground := Ground.phase }, { on := 11, ground := Ground.phase }, { on := 12, ground := Ground.phase }, { on := 13, ground := Ground.phase }, { on := 14, ground := Ground.phase }, { on := 15, ground := Ground.phase }, { on := 16, ground := Ground.phase }, { on := 17, ground := Ground.phase }, { on := 18, ground := Ground.phase }, { on := 19, ground := Ground.phase }, { on := 20, ground := Ground.phase }, { on := 21, ground := Ground.phase }, { on := 22, ground := Ground.phase }], guard := none }) (v := ?_) rfl (by kernel_rfl) (by kernel_rfl) (by kernel_rfl) (fun _ _ _ h => h) (Or.inl ⟨by rfl, ?_⟩) (by assumption) ?_
            rotate_left
            · intro w hSw; (try dsimp only at hSw); go_simp; (try with_reducible rfl)
            try simp only [Act.put, List.setIfInBounds_toArray, List.set_cons_zero, List.set_cons_succ]
            refine wpAnyH_done (by kernel_rfl) ?_ _
            refine NoPanic.normal ?_
            go_wp2
            go_ret
            exact ⟨rfl, KB.out.trans (Below.mono hb20 KB.out.size)⟩
          | true =>
            cases b2 with
            | false =>
              go_wp2_with fail
              refine wp_region_noPanic ?_
              refine wp_region_held_drew (S := (fun W => W.cell? ⟨w.heap.size, 0, none⟩ = some (.slice gA g.nodes.length gc) ∧ W.cell? ⟨w.heap.size, 1, none⟩ = some (.int .i64 g.root) ∧ W.cell? ⟨w.heap.size + 1, 0, none⟩ = some (.slice hA h.nodes.length hc) ∧ W.cell? ⟨w.heap.size + 1, 1, none⟩ = some (.int .i64 h.root) ∧ W.cell? ⟨w.heap.size + 1 + 1, 0, none⟩ = some (.slice kA k.nodes.length kc) ∧ W.cell? ⟨w.heap.size + 1 + 1, 1, none⟩ = some (.int .i64 k.root) ∧ W.cell? ⟨b, o, none⟩ = some (.int .i64 g.root))) (by kernel_rfl) ?_ (fun hHeld => ?_)
              · (try dsimp only); (first | with_reducible exact hxf | (with_reducible refine KC.out _ ?_; (· repeat (first | with_reducible assumption | with_reducible exact BelC.refl _ | with_reducible refine BelC.drew ?_))))
              refine wpAnyH_take (i := 0) (oi := { dst := some 83, op := Op.move (Operand.tmp 7), type := 31, pos := "law.go:151", after := #[], guard := none }) (v := ?_) rfl (by kernel_rfl) (by kernel_rfl) (by kernel_rfl) (fun _ _ _ h => h) (Or.inl ⟨by rfl, ?_⟩) (by assumption) ?_
              rotate_left
              · intro w hSw; (try dsimp only at hSw); go_simp; (try with_reducible rfl)
              try simp only [Act.put, List.setIfInBounds_toArray, List.set_cons_zero, List.set_cons_succ]
              refine wpAnyH_take (i := 1) (oi := { dst := some 84, op := Op.indexAddr 31 (Operand.tmp 83) (Operand.const (Value.int IntKind.i64 0)), type := 0, pos := "law.go:151", after := #[{ on := 0, ground := Ground.data }], guard := none }) (v := ?_) rfl (by kernel_rfl) (by kernel_rfl) (by kernel_rfl) (fun _ _ _ h => h) (Or.inl ⟨by rfl, ?_⟩) (by assumption) ?_
              rotate_left
              · intro w hSw; (try dsimp only at hSw); go_simp; (try with_reducible rfl)
              try simp only [Act.put, List.setIfInBounds_toArray, List.set_cons_zero, List.set_cons_succ]
              refine wpAnyH_take (i := 2) (oi := { dst := some 85, op := Op.load 3 (Operand.tmp 84), type := 3, pos := "law.go:151", after := #[{ on := 1, ground := Ground.data }], guard := none }) (v := ?_) rfl (by kernel_rfl) (by kernel_rfl) (by kernel_rfl) (fun _ _ _ h => h) (Or.inl ⟨by rfl, ?_⟩) (by assumption) ?_
              rotate_left
              · intro w hSw; (try dsimp only at hSw); go_simp; (try with_reducible rfl)
              try simp only [Act.put, List.setIfInBounds_toArray, List.set_cons_zero, List.set_cons_succ]
              refine wpAnyH_take (i := 3) (oi := { dst := some 86, op := Op.fieldAddr 24 (Operand.tmp 3) 1, type := 0, pos := "law.go:151", after := #[], guard := none }) (v := ?_) rfl (by kernel_rfl) (by kernel_rfl) (by kernel_rfl) (fun _ _ _ h => h) (Or.inl ⟨by rfl, ?_⟩) (by assumption) ?_
              rotate_left
              · intro w hSw; (try dsimp only at hSw); go_simp; (try with_reducible rfl)
              try simp only [Act.put, List.setIfInBounds_toArray, List.set_cons_zero, List.set_cons_succ]
              refine wpAnyH_take (i := 4) (oi := { dst := some 87, op := Op.load 3 (Operand.tmp 86), type := 3, pos := "law.go:151", after := #[{ on := 3, ground := Ground.data }], guard := none }) (v := ?_) rfl (by kernel_rfl) (by kernel_rfl) (by kernel_rfl) (fun _ _ _ h => h) (Or.inl ⟨by rfl, ?_⟩) (by assumption) ?_
              rotate_left
              · intro w hSw; (try dsimp only at hSw); go_simp; (try with_reducible rfl)
              try simp only [Act.put, List.setIfInBounds_toArray, List.set_cons_zero, List.set_cons_succ]
              refine wpAnyH_take (i := 5) (oi := { dst := some 88, op := Op.binOp BinOp.eql 3 (Operand.tmp 85) (Operand.tmp 87) 3, type := 4, pos := "law.go:151", after := #[{ on := 2, ground := Ground.data }, { on := 4, ground := Ground.data }], guard := none }) (v := ?_) rfl (by kernel_rfl) (by kernel_rfl) (by kernel_rfl) (fun _ _ _ h => h) (Or.inl ⟨by rfl, ?_⟩) (by assumption) ?_
              rotate_left
              · intro w hSw; (try dsimp only at hSw); go_simp; (try with_reducible rfl)
              try simp only [Act.put, List.setIfInBounds_toArray, List.set_cons_zero, List.set_cons_succ]
              refine wpAnyH_take (i := 6) (oi := { dst := some 89, op := Op.move (Operand.tmp 88), type := 4, pos := "law.go:151", after := #[{ on := 5, ground := Ground.data }], guard := none }) (v := ?_) rfl (by kernel_rfl) (by kernel_rfl) (by kernel_rfl) (fun _ _ _ h => h) (Or.inl ⟨by rfl, ?_⟩) (by assumption) ?_
              rotate_left
              · intro w hSw; (try dsimp only at hSw); go_simp; (try with_reducible rfl)
              try simp only [Act.put, List.setIfInBounds_toArray, List.set_cons_zero, List.set_cons_succ]
              refine wpAnyH_take (i := 7) (oi := { dst := some 90, op := Op.load 24 (Operand.tmp 3), type := 24, pos := "law.go:151", after := #[{ on := 6, ground := Ground.guard }], guard := some (6, true) }) (v := ?_) rfl (by kernel_rfl) (by kernel_rfl) (by kernel_rfl) (fun _ _ _ h => h) (Or.inl ⟨by rfl, ?_⟩) (by assumption) ?_
              rotate_left
              · intro w hSw; (try dsimp only at hSw); go_simp; (try with_reducible rfl)
              try simp only [Act.put, List.setIfInBounds_toArray, List.set_cons_zero, List.set_cons_succ]
              refine wpAnyH_take (i := 8) (oi := { dst := some 91, op := Op.load 24 (Operand.tmp 4), type := 24, pos := "law.go:151", after := #[{ on := 6, ground := Ground.guard }], guard := some (6, true) }) (v := ?_) rfl (by kernel_rfl) (by kernel_rfl) (by kernel_rfl) (fun _ _ _ h => h) (Or.inl ⟨by rfl, ?_⟩) (by assumption) ?_
              rotate_left
              · intro w hSw; (try dsimp only at hSw); go_simp; (try with_reducible rfl)
              try simp only [Act.put, List.setIfInBounds_toArray, List.set_cons_zero, List.set_cons_succ]
              refine wpAnyH_ready (rs := [9]) (by kernel_rfl) (by simp) ?_
              refine AllReadyH.cons (o := { dst := some 92, op := Op.call { callee := Callee.value (Operand.func 21), args := #[Operand.tmp 90, Operand.tmp 91], argTypes := #[24, 24] }, type := 4, pos := "law.go:151", after := #[{ on := 7, ground := Ground.data }, { on := 8, ground := Ground.data }, { on := 6, ground := Ground.chain }, { on := 6, ground := Ground.guard }], guard := some (6, true) }) rfl (fun K hK => ?_) AllReadyH.nil
              go_simp
              go_at_call 21; (with_reducible refine (K1.out _ ?_).mono ?_); (· repeat (first | with_reducible assumption | with_reducible exact BelC.refl _ | with_reducible refine BelC.drew ?_)); rintro e w20 ⟨rfl, hb20⟩
              refine hK.out _ _ ?_ (fun hHeld => ?_)
              · (try dsimp only); (first | with_reducible exact hxf | (with_reducible refine KC.out _ ?_; (· repeat (first | with_reducible assumption | with_reducible exact BelC.refl _ | with_reducible refine BelC.drew ?_))))
              clear hK K
              try simp only [Act.put, List.setIfInBounds_toArray, List.set_cons_zero, List.set_cons_succ]
              refine wpAnyH_take (i := 10) (oi := { dst := some 93, op := Op.unOp UnOp.not 4 (Operand.tmp 92), type := 4, pos := "law.go:151", after := #[{ on := 9, ground := Ground.data }, { on := 6, ground := Ground.guard }], guard := some (6, true) }) (v := ?_) rfl (by kernel_rfl) (by kernel_rfl) (by kernel_rfl) (fun _ _ _ h => h) (Or.inl ⟨by rfl, ?_⟩) (by assumption) ?_
              rotate_left
              · intro w hSw; (try dsimp only at hSw); go_simp; (try with_reducible rfl)
              try simp only [Act.put, List.setIfInBounds_toArray, List.set_cons_zero, List.set_cons_succ]
              refine wpAnyH_take (i := 11) (oi := { dst := some 94, op := Op.move (Operand.tmp 93), type := 4, pos := "law.go:151", after := #[{ on := 10, ground := Ground.data }, { on := 9, ground := Ground.chain }, { on := 6, ground := Ground.guard }], guard := some (6, true) }) (v := ?_) rfl (by kernel_rfl) (by kernel_rfl) (by kernel_rfl) (fun _ _ _ h => h) (Or.inl ⟨by rfl, ?_⟩) (by assumption) ?_
              rotate_left
              · intro w hSw; (try dsimp only at hSw); go_simp; (try with_reducible rfl)
              try simp only [Act.put, List.setIfInBounds_toArray, List.set_cons_zero, List.set_cons_succ]
              refine wpAnyH_take (i := 12) (oi := { dst := some 95, op := Op.load 24 (Operand.tmp 4), type := 24, pos := "law.go:151", after := #[{ on := 11, ground := Ground.guard }], guard := some (11, false) }) (v := ?_) rfl (by kernel_rfl) (by kernel_rfl) (by kernel_rfl) (fun _ _ _ h => h) (Or.inl ⟨by rfl, ?_⟩) (by assumption) ?_
              rotate_left
              · intro w hSw; (try dsimp only at hSw); go_simp; (try with_reducible rfl)
              try simp only [Act.put, List.setIfInBounds_toArray, List.set_cons_zero, List.set_cons_succ]
              refine wpAnyH_take (i := 13) (oi := { dst := some 96, op := Op.load 24 (Operand.tmp 5), type := 24, pos := "law.go:151", after := #[{ on := 11, ground := Ground.guard }], guard := some (11, false) }) (v := ?_) rfl (by kernel_rfl) (by kernel_rfl) (by kernel_rfl) (fun _ _ _ h => h) (Or.inl ⟨by rfl, ?_⟩) (by assumption) ?_
              rotate_left
              · intro w hSw; (try dsimp only at hSw); go_simp; (try with_reducible rfl)
              try simp only [Act.put, List.setIfInBounds_toArray, List.set_cons_zero, List.set_cons_succ]
              refine wpAnyH_ready (rs := [14]) (by kernel_rfl) (by simp) ?_
              refine AllReadyH.cons (o := { dst := some 97, op := Op.call { callee := Callee.value (Operand.func 21), args := #[Operand.tmp 95, Operand.tmp 96], argTypes := #[24, 24] }, type := 4, pos := "law.go:151", after := #[{ on := 12, ground := Ground.data }, { on := 13, ground := Ground.data }, { on := 11, ground := Ground.chain }, { on := 11, ground := Ground.guard }], guard := some (11, false) }) rfl (fun K hK => ?_) AllReadyH.nil
              go_simp
              go_at_call 21; (with_reducible refine (K2.out _ ?_).mono ?_); (· repeat (first | with_reducible assumption | with_reducible exact BelC.refl _ | with_reducible refine BelC.drew ?_)); rintro e w20 ⟨rfl, hb20⟩
              refine hK.out _ _ ?_ (fun hHeld => ?_)
              · (try dsimp only); (first | with_reducible exact hxf | (with_reducible refine KC.out _ ?_; (· repeat (first | with_reducible assumption | with_reducible exact BelC.refl _ | with_reducible refine BelC.drew ?_))))
              clear hK K
              try simp only [Act.put, List.setIfInBounds_toArray, List.set_cons_zero, List.set_cons_succ]
              refine wpAnyH_take (i := 15) (oi := { dst := some 98, op := Op.unOp UnOp.not 4 (Operand.tmp 97), type := 4, pos := "law.go:151", after := #[{ on := 14, ground := Ground.data }, { on := 11, ground := Ground.guard }], guard := some (11, false) }) (v := ?_) rfl (by kernel_rfl) (by kernel_rfl) (by kernel_rfl) (fun _ _ _ h => h) (Or.inl ⟨by rfl, ?_⟩) (by assumption) ?_
              rotate_left
              · intro w hSw; (try dsimp only at hSw); go_simp; (try with_reducible rfl)
              try simp only [Act.put, List.setIfInBounds_toArray, List.set_cons_zero, List.set_cons_succ]
              refine wpAnyH_take (i := 16) (oi := { dst := some 99, op := Op.pick (Operand.tmp 94) (Operand.const (Value.bool true)) (Operand.tmp 98), type := 4, pos := "law.go:151", after := #[{ on := 11, ground := Ground.data }, { on := 15, ground := Ground.data }, { on := 6, ground := Ground.guard }], guard := some (6, true) }) (v := ?_) rfl (by kernel_rfl) (by kernel_rfl) (by kernel_rfl) (fun _ _ _ h => h) (Or.inl ⟨by rfl, ?_⟩) (by assumption) ?_
              rotate_left
              · intro w hSw; (try dsimp only at hSw); go_simp; (try with_reducible rfl)
              try simp only [Act.put, List.setIfInBounds_toArray, List.set_cons_zero, List.set_cons_succ]
              refine wpAnyH_take (i := 17) (oi := { dst := some 100, op := Op.move (Operand.tmp 99), type := 4, pos := "law.go:151", after := #[{ on := 16, ground := Ground.data }, { on := 14, ground := Ground.chain }, { on := 6, ground := Ground.guard }], guard := some (6, true) }) (v := ?_) rfl (by kernel_rfl) (by kernel_rfl) (by kernel_rfl) (fun _ _ _ h => h) (Or.inl ⟨by rfl, ?_⟩) (by assumption) ?_
              rotate_left
              · intro w hSw; (try dsimp only at hSw); go_simp; (try with_reducible rfl)
              try simp only [Act.put, List.setIfInBounds_toArray, List.set_cons_zero, List.set_cons_succ]
              refine wpAnyH_take (i := 18) (oi := { dst := some 101, op := Op.load 24 (Operand.tmp 3), type := 24, pos := "law.go:151", after := #[{ on := 17, ground := Ground.guard }], guard := some (17, false) }) (v := undef) rfl (by kernel_rfl) (by kernel_rfl) (by kernel_rfl) (fun _ _ _ h => h) (Or.inr ⟨by rfl, rfl⟩) (by assumption) ?_
              try simp only [Act.put, List.setIfInBounds_toArray, List.set_cons_zero, List.set_cons_succ]
              refine wpAnyH_take (i := 19) (oi := { dst := some 102, op := Op.load 24 (Operand.tmp 5), type := 24, pos := "law.go:151", after := #[{ on := 17, ground := Ground.guard }], guard := some (17, false) }) (v := undef) rfl (by kernel_rfl) (by kernel_rfl) (by kernel_rfl) (fun _ _ _ h => h) (Or.inr ⟨by rfl, rfl⟩) (by assumption) ?_
              try simp only [Act.put, List.setIfInBounds_toArray, List.set_cons_zero, List.set_cons_succ]
              refine wpAnyH_take (i := 20) (oi := { dst := some 103, op := Op.call { callee := Callee.value (Operand.func 21), args := #[Operand.tmp 101, Operand.tmp 102], argTypes := #[24, 24] }, type := 4, pos := "law.go:151", after := #[{ on := 18, ground := Ground.data }, { on := 19, ground := Ground.data }, { on := 17, ground := Ground.chain }, { on := 17, ground := Ground.guard }], guard := some (17, false) }) (v := undef) rfl (by kernel_rfl) (by kernel_rfl) (by kernel_rfl) (fun _ _ _ h => h) (Or.inr ⟨by rfl, rfl⟩) (by assumption) ?_
              try simp only [Act.put, List.setIfInBounds_toArray, List.set_cons_zero, List.set_cons_succ]
              refine wpAnyH_take (i := 21) (oi := { dst := some 104, op := Op.pick (Operand.tmp 100) (Operand.const (Value.bool true)) (Operand.tmp 103), type := 4, pos := "law.go:151", after := #[{ on := 17, ground := Ground.data }, { on := 20, ground := Ground.data }, { on := 6, ground := Ground.guard }], guard := some (6, true) }) (v := ?_) rfl (by kernel_rfl) (by kernel_rfl) (by kernel_rfl) (fun _ _ _ h => h) (Or.inl ⟨by rfl, ?_⟩) (by assumption) ?_
              rotate_left
              · intro w hSw; (try dsimp only at hSw); go_simp; (try with_reducible rfl)
              try simp only [Act.put, List.setIfInBounds_toArray, List.set_cons_zero, List.set_cons_succ]
              refine wpAnyH_take (i := 22) (oi := { dst := some 105, op := Op.pick (Operand.tmp 89) (Operand.tmp 104) (Operand.const (Value.bool false)), type := 4, pos := "law.go:151", after := #[{ on := 6, ground := Ground.data }, { on := 21, ground := Ground.data }], guard := none }) (v := ?_) rfl (by kernel_rfl) (by kernel_rfl) (by kernel_rfl) (fun _ _ _ h => h) (Or.inl ⟨by rfl, ?_⟩) (by assumption) ?_
              rotate_left
              · intro w hSw; (try dsimp only at hSw); go_simp; (try with_reducible rfl)
              try simp only [Act.put, List.setIfInBounds_toArray, List.set_cons_zero, List.set_cons_succ]
              refine wpAnyH_take (i := 23) (oi := { dst := some 6, op := Op.assign (Operand.tmp 105), type := 4, pos := "law.go:151", after := #[{ on := 22, ground := Ground.data }, { on := 20, ground := Ground.chain }, { on := 0, ground := Ground.phase }, { on := 1, ground := Ground.phase }, { on := 2, ground := Ground.phase }, { on := 3, ground := Ground.phase }, { on := 4, ground := Ground.phase }, { on := 5, ground := Ground.phase }, { on := 6, ground := Ground.phase }, { on := 7, ground := Ground.phase }, { on := 8, ground := Ground.phase }, { on := 9, ground := Ground.phase }, { on := 10, ground := Ground.phase }, { on := 11, ground := Ground.phase }, { on := 12, ground := Ground.phase }, { on := 13, ground := Ground.phase }, { on := 14, ground := Ground.phase }, { on := 15, ground := Ground.phase }, { on := 16, ground := Ground.phase }, { on := 17, ground := Ground.phase }, { on := 18, ground := Ground.phase }, { on := 19, ground := Ground.phase }, { on := 20, ground := Ground.phase }, { on := 21, ground := Ground.phase }, { on := 22, ground := Ground.phase }], guard := none }) (v := ?_) rfl (by kernel_rfl) (by kernel_rfl) (by kernel_rfl) (fun _ _ _ h => h) (Or.inl ⟨by rfl, ?_⟩) (by assumption) ?_
              rotate_left
              · intro w hSw; (try dsimp only at hSw); go_simp; (try with_reducible rfl)
              try simp only [Act.put, List.setIfInBounds_toArray, List.set_cons_zero, List.set_cons_succ]
              refine wpAnyH_done (by kernel_rfl) ?_ _
              refine NoPanic.normal ?_
              go_wp2
              go_ret
              exact ⟨rfl, KB.out.trans (Below.mono hb20 KB.out.size)⟩
            | true =>
              have h3 := K4.out rfl rfl
              subst h3
              go_wp2_with fail

              go_region_held3 (fun W => W.cell? ⟨w.heap.size, 0, none⟩ = some (.slice gA g.nodes.length gc) ∧ W.cell? ⟨w.heap.size, 1, none⟩ = some (.int .i64 g.root) ∧ W.cell? ⟨w.heap.size + 1, 0, none⟩ = some (.slice hA h.nodes.length hc) ∧ W.cell? ⟨w.heap.size + 1, 1, none⟩ = some (.int .i64 h.root) ∧ W.cell? ⟨w.heap.size + 1 + 1, 0, none⟩ = some (.slice kA k.nodes.length kc) ∧ W.cell? ⟨w.heap.size + 1 + 1, 1, none⟩ = some (.int .i64 k.root) ∧ W.cell? ⟨b, o, none⟩ = some (.int .i64 g.root))
                (first | with_reducible exact hxf | (with_reducible refine KC.out _ ?_; (· repeat (first | with_reducible assumption | with_reducible exact BelC.refl _ | with_reducible refine BelC.drew ?_))))
                (first | (go_at_call 21; (first | with_reducible refine (K1.out _ ?_).mono ?_ | with_reducible refine (K2.out _ ?_).mono ?_ | with_reducible refine (K3.out _ ?_).mono ?_); (· repeat (first | with_reducible assumption | with_reducible exact BelC.refl _ | with_reducible refine BelC.drew ?_)); rintro e w20 ⟨rfl, hb20⟩))
              go_wp2
              go_ret
              exact ⟨rfl, KB.out.trans (Below.mono hb20 KB.out.size)⟩

set_option maxRecDepth 100000 in
theorem graphreach_lifted (os : Os) (started : os.Started) (H : Type) (enc : TypeId × Value → H) :
    ReturnsInHanded {} Try.checked os 8 .any (Rows.graphReachSpec.pre6 enc Try.prog Try.f8 Rows.graphReachRow.domain false) (Rows.graphReachSpec.post enc Try.prog Try.f8 false true false false) := by
  refine returnsInHanded_of_change_sized (C := Try.checked) lawOwn started (by kernel_rfl) Try.func8
    (ChangeSpec.witness6 (enc := enc) (C := Try.checked) false ⟨#[], #[.agg #[.slice none 0 0, .int .i64 0], .agg #[.slice none 0 0, .int .i64 0], .agg #[.slice none 0 0, .int .i64 0]], []⟩ 8 (by kernel_rfl) (by kernel_rfl) (by kernel_rfl) (by kernel_rfl)) ?_
  intro W base args ds gs before hval0 hW _ hsz0 _
  have hsz : (DataW.weightsEach Try.prog (Try.f8.params.toList ++ Rows.graphReachSpec.plain.varTypes Try.prog) (ds ++ gs)).all (· ≤ reachBytes) = true := hsz0
  clear hsz0
  have hval : ∀ (j : Nat) t v, Try.f8.params[j]? = some t → args[j]? = some v → Value.okWide Try.prog W .any base t v := hval0
  have hW' := hW
  obtain ⟨p, q, hA0, hV, rfl, _, _⟩ := hW
  have hA : DataW.TrodAll enc Try.prog W 0 (fun _ => true) true Try.f8.params.toList args.toList ds p := hA0
  rw [Try.params8] at hA hval hsz
  obtain ⟨v0, v1, v2, d0, d1, d2, p0, p1, p2, rfl, rfl, rfl, h0, h1, h2⟩ := trodAll_three hA
  obtain ⟨rfl, rfl⟩ := trodVars_none hV
  have hsz1 : (DataW.weightsEach Try.prog [24, 24, 24] [d0, d1, d2]).all (· ≤ reachBytes) = true := hsz
  have hwt := fun n hn => of_decide_eq_true (List.all_eq_true.1 hsz1 n hn)
  obtain ⟨g, hg, _⟩ := open_graph (hval 0 24 v0 rfl rfl) h0 (fun n hn => hwt n (DataW.weights_mem_each (j := 0) (t := 24) (d := d0) rfl rfl n hn))
  obtain ⟨h, hh, _⟩ := open_graph (hval 1 24 v1 rfl rfl) h1 (fun n hn => hwt n (DataW.weights_mem_each (j := 1) (t := 24) (d := d1) rfl rfl n hn))
  obtain ⟨k, hk, _⟩ := open_graph (hval 2 24 v2 rfl rfl) h2 (fun n hn => hwt n (DataW.weights_mem_each (j := 2) (t := 24) (d := d2) rfl rfl n hn))
  clear hA0 hval0
  simp only [List.append_nil] at hW'
  have hlt : ∀ x ∈ p0 ++ p1 ++ p2, x.block < W.heap.size := fun x hx => by simpa using hW'.lt x (by simpa using hx)
  refine (lawreach_any W _ _ _ g h k v0 v1 v2 (fun _ h => h) (fun _ h => h) (fun _ h => h) hg hh hk).mono fun e W' ⟨he, hnx⟩ => ?_
  subst he
  refine ⟨_, rfl, _, _, _, [], p0 ++ p1 ++ p2, [], hW', ?_, ?_, rfl, hnx.frame _, fun h => by cases h⟩
  · exact trodAll_mk1 (shut_bool Try.underlying4 true)
  · rw [List.append_assoc]
    exact trodAll_mk3 (Below.trod lawLaid (by kernel_rfl) (of_decide_eq_true (by kernel_rfl)) h0 hnx (fun x hx => hlt x (List.mem_append_left _ (List.mem_append_left _ hx)))) (Below.trod lawLaid (by kernel_rfl) (of_decide_eq_true (by kernel_rfl)) h1 hnx (fun x hx => hlt x (List.mem_append_left _ (List.mem_append_right _ hx)))) (Below.trod lawLaid (by kernel_rfl) (of_decide_eq_true (by kernel_rfl)) h2 hnx (fun x hx => hlt x (List.mem_append_right _ hx)))

theorem graphreach_holds : Rows.GraphReachSaid :=
  OpenClaim.holds_of_wide 8 Try.f8 rfl rfl rfl rfl rfl rfl rfl ⟨rfl, rfl, rfl, rfl, rfl⟩ rfl rfl rfl rfl rfl (by kernel_rfl) Try.func8 (by kernel_rfl)
    (of_decide_eq_true (by kernel_rfl)) (by unfold Func.isWrapper; first | (rw [if_pos (by decide +kernel)]; kernel_rfl) | (rw [if_neg (by decide +kernel)]; exact ⟨rfl, rfl⟩))
    (fun os started H enc _ => graphreach_lifted os started H enc)

#print axioms graphreach_holds
end Go.Proofs.Ytipehahfbcbigaa

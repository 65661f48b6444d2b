/-
  trefoillaw02.TreeApart: the walk, one of the lists longer.
-/
import Derived.Test.YthgbldkcgfggfaaCat
namespace Go.Proofs.Ythgbldkcgfggfaa
open Go.RowKit

set_option maxRecDepth 100000 in
set_option maxHeartbeats 4000000 in
theorem apart_5 (w : World) (S : Nat → Prop) (l : List Part) (A1 : Option Addr) (c1 wh : Nat) (hwh : wh < 256) (hcase : (wh : Int) % 7 = 5) (hS : ∀ k, S k → k < w.heap.size) (hl : PtsO w S l A1) (hlc : l.length ≤ c1) (hc1 : c1 ≤ 10000000000000) (hg1 : greatB l = false) :
    Calls Try.prog 6 #[.slice A1 l.length c1, .int .u8 wh] w fun e w' => e = .returned (.bool true) ∧ Below w.heap.size w w' := by
  have HS := Lib.hid hS
  have HL := Lib.hid hl
  have HG1 := Lib.hid hg1
  clear hl hS hg1
  go_enter Try.func6, Try.ntmps6
  go_wp2_with fail
  refine (alive_any w).mono ?_
  rintro e w1 ⟨rfl, hb1⟩
  have HB1 := Lib.hid hb1
  clear hb1
  go_wp2_with fail
  obtain ⟨p1, p2⟩ := pts_later HS.out HB1.out HL.out
  refine (great_r w1 S l A1 c1 false p1 p2 hlc hc1 HG1.out).mono ?_
  rintro e w2 ⟨rfl, hb2⟩
  have HB2 := Lib.hid (HB1.out.trans (hb2.mono HB1.out.size))
  clear hb2 p1 p2
  go_wp2_with fail
  obtain ⟨p1, p2⟩ := pts_later HS.out HB2.out HL.out
  refine (of_any l w2 S A1 c1 p1 p2 hlc hc1).mono ?_
  rintro e w3 ⟨va, ua, rfl, hva, hb3⟩
  obtain ⟨ka, sa, na, aA, nA, cA, aN, nN, cN, aT, nT, cT, aM, nM, cM, rfl⟩ := hva.form
  obtain ⟨hka, hsa, hna⟩ := ExV.heads hva
  have hk1 := ofE_kind l
  have hs1 := ofE_str l HG1.out
  rw [← hka] at hk1
  rw [← hsa] at hs1
  have HVA := Lib.hid hva
  have HB3 := Lib.hid (HB2.out.trans (hb3.mono HB2.out.size))
  clear hb3 p1 p2 hva hka hsa hna
  have hN1 : (ofE l).size ≤ 1200 ∧ (ofE l).tsize ≤ 1400 := by
    have h1 := ofE_small l
    have h2 := HG1.out
    simp [greatB] at h2
    omega
  obtain ⟨⟨rfl, rfl, rfl, rfl⟩, hl1, hl2, hl3, hl4⟩ := ExV.full HVA.out
  obtain ⟨i0, hi, hz0, hz1, hz2⟩ := info_parts infoTy
  have hzB := HB3.out.size
  have hrow0 : RowG srtT 42 (w3.heap.size + 2) (((w3.alloc (.cells #[.int .i64 ka, .string sa, .int .i64 na, .slice aA (ofE l).args.length cA, .slice aN (ofE l).names.length cN, .slice aT (ofE l).types.length cT, .slice aM (ofE l).mems.length cM] 31)).alloc (.cells #[.int .i64 ka, .string sa, .int .i64 na, .slice aA (ofE l).args.length cA, .slice aN (ofE l).names.length cN, .slice aT (ofE l).types.length cT, .slice aM (ofE l).mems.length cM] 31)).alloc (.cells #[] 42)) (fun k => k < w3.heap.size) (.slice (some ⟨w3.heap.size + 1 + 1, 0, none⟩) 0 0) [] := by
    refine ⟨⟨[], ?_, rfl⟩, fun k hk e => ?_, fun k hk => by simp; omega⟩
    · have h0 := World.ownsRow_lit (base := w3.heap.size + 2) (e := 42) (size := srtT.size) ((w3.alloc (.cells #[.int .i64 ka, .string sa, .int .i64 na, .slice aA (ofE l).args.length cA, .slice aN (ofE l).names.length cN, .slice aT (ofE l).types.length cT, .slice aM (ofE l).mems.length cM] 31)).alloc (.cells #[.int .i64 ka, .string sa, .int .i64 na, .slice aA (ofE l).args.length cA, .slice aN (ofE l).names.length cN, .slice aT (ofE l).types.length cT, .slice aM (ofE l).mems.length cM] 31)) #[] 0 (by simp) (Nat.zero_le _) (by simp)
      simpa using h0
    · simp [Value.ownBlock] at e; omega
  have hlies : LiesAt srtT (((w3.alloc (.cells #[.int .i64 ka, .string sa, .int .i64 na, .slice aA (ofE l).args.length cA, .slice aN (ofE l).names.length cN, .slice aT (ofE l).types.length cT, .slice aM (ofE l).mems.length cM] 31)).alloc (.cells #[.int .i64 ka, .string sa, .int .i64 na, .slice aA (ofE l).args.length cA, .slice aN (ofE l).names.length cN, .slice aT (ofE l).types.length cT, .slice aM (ofE l).mems.length cM] 31)).alloc (.cells #[] 42)) (fun k => k < w3.heap.size) (ofE l).types aT := by
    have hold : ∀ k, k < w3.heap.size → (((w3.alloc (.cells #[.int .i64 ka, .string sa, .int .i64 na, .slice aA (ofE l).args.length cA, .slice aN (ofE l).names.length cN, .slice aT (ofE l).types.length cT, .slice aM (ofE l).mems.length cM] 31)).alloc (.cells #[.int .i64 ka, .string sa, .int .i64 na, .slice aA (ofE l).args.length cA, .slice aN (ofE l).names.length cN, .slice aT (ofE l).types.length cT, .slice aM (ofE l).mems.length cM] 31)).alloc (.cells #[] 42)).heap[k]? = w3.heap[k]? := fun k hk => (heap_past _ _ _ (by simp; omega)).trans ((heap_past _ _ _ (by simp; omega)).trans (heap_past _ _ _ hk))
    exact LiesAt.keep (fun k hk => ⟨hk.2, hold k hk.2⟩) (fun ad hA => (LiesAt.lt (hA ▸ hl3)).imp id (fun h => hold _ h)) hl3
  have HRow0 := Lib.hid hrow0
  have HLies := Lib.hid hlies
  have hlen : (ofE l).types.length ≤ 3000 := by have h1 := len_all (ofE l); have h2 := ofE_names l; omega
  clear hrow0 hlies hl1 hl2 hl3 hl4
  go_wp2_with (first | (at_builtin; go_loud (refine wpList_cat (T := srtT) (ms := (ofE l).types) rfl (.tmp 61) (.tmp 63) 28 42 rfl i0 _ 80 Try.underlying28 hi hz0 hz1 hz2 rfl (w3.heap.size + 1 + 1) rfl rfl HRow0.out aT cT rfl HLies.out ?_ (by decide) ?_ ?_; (· omega); (· simp)); intro v6 w6 hrow6 hk6 hb6; obtain ⟨A6, c6, rfl, hn6, hm6⟩ := hrow6.form; go_loud (have hz6 : w3.heap.size + 3 ≤ w6.heap.size := (by have h6 := hk6.size; simp at h6; omega); have hrow7 : RowG srtT 42 (w3.heap.size + 2) (w6.alloc (.cells #[.int .i64 0, .string ⟨#[]⟩, .slice none 0 0, .slice none 0 0, .bool false] 42)) (fun k => k < w3.heap.size) (.slice A6 (ofE l).types.length c6) (ofE l).types := hrow6.keep (F := fun _ => False) ((Keeps.refl _ w6).alloc _) (fun _ e => e.elim); have HRow7 := Lib.hid hrow7; have HItem := Lib.hid (Items.one srtT (w := w6.alloc (.cells #[.int .i64 0, .string ⟨#[]⟩, .slice none 0 0, .slice none 0 0, .bool false] 42)) (S := fun k => k < w3.heap.size) (a := (Ty.mk 0 ⟨#[]⟩ [] [] false)) (v := (.agg #[.int .i64 0, .string ⟨#[]⟩, .slice none 0 0, .slice none 0 0, .bool false])) (leafT_V _ _)); have HK6 := Lib.hid hk6; clear hrow6 hrow7 hk6 hb6)) | (at_builtin; go_loud (refine wpList_grow (T := srtT) (ms := [(Ty.mk 0 ⟨#[]⟩ [] [] false)]) rfl (.tmp 64) (.tmp 66) 28 42 rfl i0 _ 80 Try.underlying28 hi hz0 hz1 hz2 rfl rfl HRow7.out ⟨w6.heap.size, 0, none⟩ 1 [.int .i64 0, .string ⟨#[]⟩, .slice none 0 0, .slice none 0 0, .bool false] rfl (fun j u hj => cell_new_add _ _ _ _ rfl j u hj) HItem.out ?_ (by decide) ?_ (by simp) ?_; (· simp; omega); (· simp; omega)); intro v7 w7 hrow7 hk7 hb7; obtain ⟨A7, c7, rfl, hn7, hm7⟩ := hrow7.form; go_loud (have hX7 := (hk7.block (w3.heap.size + 1) (by simp; omega) (fun e => by have := (HRow7.out.block e).1; omega)).trans ((heap_past _ _ _ (by omega)).trans ((HK6.out.block (w3.heap.size + 1) (by simp) (by simp [Value.ownBlock])).trans ((heap_past _ _ _ (by simp)).trans (heap_at _ _ _ (by simp))))); have hc7 : w7.cell? ⟨w3.heap.size + 1, 5, none⟩ = some (.slice aT (ofE l).types.length cT) := blk_cell hX7 5; have hf7 : w7.frozen? ⟨w3.heap.size + 1, 5, none⟩ = false := blk_frozen hX7; have HX7 := Lib.hid hX7; have HRow8 := Lib.hid hrow7; have HK7 := Lib.hid hk7; clear hX7 hrow7 hk7 hb7)))
  have hz7 : w6.heap.size + 1 ≤ w7.heap.size := by have h7 := HK7.out.size; simp at h7; omega
  have hold7 : ∀ k, k < w3.heap.size + 1 → w7.heap[k]? = (w3.alloc (.cells #[.int .i64 ka, .string sa, .int .i64 na, .slice aA (ofE l).args.length cA, .slice aN (ofE l).names.length cN, .slice aT (ofE l).types.length cT, .slice aM (ofE l).mems.length cM] 31)).heap[k]? := fun k hk =>
    (HK7.out.block k (by simp; omega) (fun e => by have := (HRow7.out.block e).1; omega)).trans ((heap_past _ _ _ (by omega)).trans ((HK6.out.block k (by simp; omega) (by simp [Value.ownBlock]; omega)).trans ((heap_past _ _ _ (by simp; omega)).trans (heap_past _ _ _ (by simp; omega)))))
  obtain ⟨wQ, hwQ⟩ : ∃ wQ, wQ = w7.setCell ⟨w3.heap.size + 1, 5, none⟩ (.slice A7 ((ofE l).types.length + 1) c7) := ⟨_, rfl⟩
  rw [← hwQ]
  have hQz : w3.heap.size + 4 ≤ wQ.heap.size := by rw [hwQ]; simp [World.setCell]; omega
  have hQE : wQ.heap[w3.heap.size]? = some (.cells #[.int .i64 ka, .string sa, .int .i64 na, .slice aA (ofE l).args.length cA, .slice aN (ofE l).names.length cN, .slice aT (ofE l).types.length cT, .slice aM (ofE l).mems.length cM] 31 (0, 0)) := by
    rw [hwQ]; exact (Below.heap_setCell _ _ _ _ (by simp)).trans ((hold7 _ (by omega)).trans (heap_at _ _ _ rfl))
  have hQX : wQ.heap[w3.heap.size + 1]? = some (.cells #[.int .i64 ka, .string sa, .int .i64 na, .slice aA (ofE l).args.length cA, .slice aN (ofE l).names.length cN, .slice A7 ((ofE l).types.length + 1) c7, .slice aM (ofE l).mems.length cM] 31 (0, 0)) := by
    rw [hwQ]; simp [World.setCell, Array.getElem?_modify, HX7.out]
  have hQo : ∀ k, k < w3.heap.size → wQ.heap[k]? = w3.heap[k]? := fun k hk => by
    rw [hwQ]; exact (Below.heap_setCell _ _ _ _ (by simp; omega)).trans ((hold7 _ (by omega)).trans (heap_past _ _ _ hk))
  have hQB : Below w3.heap.size w3 wQ := by
    have h0 : Keeps (fun k => w3.heap.size ≤ k) w3 w7 :=
      (((((((Keeps.refl _ w3).alloc _).alloc _).alloc _).trans' HK6.out (by simp [Value.ownBlock]; omega)).alloc _).trans' HK7.out (fun i hi e => by have := (HRow7.out.block e).1; omega))
    rw [hwQ]
    exact (h0.setCell (fun h => by simp at h; omega) _).below (Nat.le_refl _) (fun i hi => by omega)
  have hQR : RowG srtT 42 (w3.heap.size + 2) wQ (fun k => k < w3.heap.size) (.slice A7 ((ofE l).types ++ [(Ty.mk 0 ⟨#[]⟩ [] [] false)]).length c7) ((ofE l).types ++ [(Ty.mk 0 ⟨#[]⟩ [] [] false)]) := by
    rw [hwQ]
    exact HRow8.out.keep ((Keeps.refl (fun k => k = w3.heap.size + 1) w7).setCell (p := ⟨w3.heap.size + 1, 5, none⟩) (fun _ => rfl) _) (fun k hk _ => by subst hk; exact ⟨fun e => by have := (HRow8.out.block e).1; omega, by omega⟩)
  have HQR := Lib.hid hQR
  have HQB := Lib.hid (HB3.out.trans (hQB.mono HB3.out.size))
  have HQo := Lib.hid hQo
  have HQE := Lib.hid hQE
  have HQX := Lib.hid hQX
  clear hQR hQB hQo hQE hQX hwQ HRow8 HX7 HK7 HK6 HItem HRow7 HLies HRow0 hc7 hf7
  go_wp2_with fail
  obtain ⟨p1, p2⟩ := pts_later HS.out HQB.out HL.out
  refine (of_any l _ S A1 c1 p1 p2 hlc hc1).mono ?_
  rintro e w5 ⟨vy, uy, rfl, hvy, hb5⟩
  obtain ⟨kb, sb, nb, bA, mA, dA, bN, mN, dN, bT, mT, dT, bM, mM, dM, rfl⟩ := hvy.form
  have HVY := Lib.hid hvy
  have HB5 := Lib.hid hb5
  have hz5 := hb5.size
  clear hvy hb5 p1 p2
  go_wp2_with fail
  obtain ⟨wF, hwF⟩ : ∃ wF, wF = w5.alloc (.cells #[.int .i64 kb, .string sb, .int .i64 nb, .slice bA mA dA, .slice bN mN dN, .slice bT mT dT, .slice bM mM dM] 31) := ⟨_, rfl⟩
  have hFz : wF.heap.size = w5.heap.size + 1 := by rw [hwF]; simp
  have hFE : wF.heap[w3.heap.size]? = some (.cells #[.int .i64 ka, .string sa, .int .i64 na, .slice aA (ofE l).args.length cA, .slice aN (ofE l).names.length cN, .slice aT (ofE l).types.length cT, .slice aM (ofE l).mems.length cM] 31 (0, 0)) := by
    rw [hwF]; exact (heap_past _ _ _ (by omega)).trans ((HB5.out.block _ (by omega)).trans HQE.out)
  have hFX : wF.heap[w3.heap.size + 1]? = some (.cells #[.int .i64 ka, .string sa, .int .i64 na, .slice aA (ofE l).args.length cA, .slice aN (ofE l).names.length cN, .slice A7 ((ofE l).types.length + 1) c7, .slice aM (ofE l).mems.length cM] 31 (0, 0)) := by
    rw [hwF]; exact (heap_past _ _ _ (by omega)).trans ((HB5.out.block _ (by omega)).trans HQX.out)
  have hFY : wF.heap[w5.heap.size]? = some (.cells #[.int .i64 kb, .string sb, .int .i64 nb, .slice bA mA dA, .slice bN mN dN, .slice bT mT dT, .slice bM mM dM] 31 (0, 0)) := by
    rw [hwF]; exact heap_at _ _ _ rfl
  have hFw : Below w.heap.size w wF := by
    rw [hwF]
    exact (HQB.out.trans (HB5.out.mono (by omega))).alloc (by omega) _
  have hVE : ExV wF (fun k => k < wF.heap.size) (ofE l) (.agg #[.int .i64 ka, .string sa, .int .i64 na, .slice aA (ofE l).args.length cA, .slice aN (ofE l).names.length cN, .slice aT (ofE l).types.length cT, .slice aM (ofE l).mems.length cM]) := by
    refine ExV.keep (fun k hk => ⟨by have := hk.2; omega, ?_⟩) _ _ HVA.out
    have h2 := hk.2
    rw [hwF]; exact (heap_past _ _ _ (by omega)).trans ((HB5.out.block _ (by omega)).trans (HQo.out _ h2))
  have hVX : ExV wF (fun k => k < wF.heap.size) (Ex.mk (ofE l).kind (ofE l).str (ofE l).num (ofE l).args (ofE l).names ((ofE l).types ++ [(Ty.mk 0 ⟨#[]⟩ [] [] false)]) (ofE l).mems) (.agg #[.int .i64 ka, .string sa, .int .i64 na, .slice aA (ofE l).args.length cA, .slice aN (ofE l).names.length cN, .slice A7 ((ofE l).types.length + 1) c7, .slice aM (ofE l).mems.length cM]) := by
    have hr : RowG srtT 42 (w3.heap.size + 2) wF (fun k => k < w3.heap.size) (.slice A7 ((ofE l).types ++ [(Ty.mk 0 ⟨#[]⟩ [] [] false)]).length c7) ((ofE l).types ++ [(Ty.mk 0 ⟨#[]⟩ [] [] false)]) :=
      HQR.out.keep (F := fun _ => False) (by rw [hwF]; exact (BelC.keeps HB5.out).alloc _) (fun _ e => e.elim)
    obtain ⟨A9, c9, e9, g1, g2, g3⟩ := hr.tys (S' := fun k => k < wF.heap.size) (fun k hk => by omega) (fun k _ hk => hk)
    simp only [Value.slice.injEq] at e9
    obtain ⟨rfl, _, rfl⟩ := e9
    have h9 := ExV.put_types hVE _ g1 g2 g3
    rw [List.length_append, List.length_singleton] at h9
    exact h9
  have hVY : ExV wF (fun k => k < wF.heap.size) (ofE l) (.agg #[.int .i64 kb, .string sb, .int .i64 nb, .slice bA mA dA, .slice bN mN dN, .slice bT mT dT, .slice bM mM dM]) := by
    refine ExV.keep (fun k hk => ⟨by have := hk.2; omega, ?_⟩) _ _ HVY.out
    have h2 := hk.2
    rw [hwF]; exact heap_past _ _ _ h2
  have hXs : (Ex.mk (ofE l).kind (ofE l).str (ofE l).num (ofE l).args (ofE l).names ((ofE l).types ++ [(Ty.mk 0 ⟨#[]⟩ [] [] false)]) (ofE l).mems).size ≤ 2000 ∧ (Ex.mk (ofE l).kind (ofE l).str (ofE l).num (ofE l).args (ofE l).names ((ofE l).types ++ [(Ty.mk 0 ⟨#[]⟩ [] [] false)]) (ofE l).mems).tsize ≤ 2000 := by
    have h1 := Ex.size_eq (ofE l)
    have h2 := Ex.tsize_eq (ofE l)
    have h5 : (Ex.mk (ofE l).kind (ofE l).str (ofE l).num (ofE l).args (ofE l).names ((ofE l).types ++ [(Ty.mk 0 ⟨#[]⟩ [] [] false)]) (ofE l).mems).size = 1 + Ex.sizes (ofE l).args + Mm.sizes (ofE l).mems := Ex.size_eq _
    have h6 : (Ex.mk (ofE l).kind (ofE l).str (ofE l).num (ofE l).args (ofE l).names ((ofE l).types ++ [(Ty.mk 0 ⟨#[]⟩ [] [] false)]) (ofE l).mems).tsize = Ty.sizes ((ofE l).types ++ [(Ty.mk 0 ⟨#[]⟩ [] [] false)]) + Ex.tsizes (ofE l).args + Mm.tsizes (ofE l).mems := Ex.tsize_eq _
    rw [tys_cat] at h6
    have h3 : (Ty.mk 0 ⟨#[]⟩ [] [] false).size = 1 := rfl
    omega
  have hne : ofE l ≠ Ex.mk (ofE l).kind (ofE l).str (ofE l).num (ofE l).args (ofE l).names ((ofE l).types ++ [(Ty.mk 0 ⟨#[]⟩ [] [] false)]) (ofE l).mems := by
    intro h
    have h1 := congrArg (fun x => (Ex.types x).length) h
    simp [Ex.types] at h1
  have hcell : ∀ W, BelC wF W → (∀ j, W.cell? ⟨w3.heap.size, j, none⟩ = (#[.int .i64 ka, .string sa, .int .i64 na, .slice aA (ofE l).args.length cA, .slice aN (ofE l).names.length cN, .slice aT (ofE l).types.length cT, .slice aM (ofE l).mems.length cM] : Array Value)[j]?) ∧ (∀ j, W.cell? ⟨w3.heap.size + 1, j, none⟩ = (#[.int .i64 ka, .string sa, .int .i64 na, .slice aA (ofE l).args.length cA, .slice aN (ofE l).names.length cN, .slice A7 ((ofE l).types.length + 1) c7, .slice aM (ofE l).mems.length cM] : Array Value)[j]?) ∧ (∀ j, W.cell? ⟨w5.heap.size, j, none⟩ = (#[.int .i64 kb, .string sb, .int .i64 nb, .slice bA mA dA, .slice bN mN dN, .slice bT mT dT, .slice bM mM dM] : Array Value)[j]?) := fun W hW =>
    ⟨blk_cell ((hW.block _ (by omega)).trans hFE), blk_cell ((hW.block _ (by omega)).trans hFX), blk_cell ((hW.block _ (by omega)).trans hFY)⟩
  have HC := Lib.hid hcell
  have HVE := Lib.hid hVE
  have HVX := Lib.hid hVX
  have HVY' := Lib.hid hVY
  have HFw := Lib.hid hFw
  rw [← hwF]
  have hx0 := HC.out wF (BelC.refl _)
  clear hwF hFE hFX hFY hFw hVE hVX hVY hcell HVA HVY HB5 HB3 HB2 HB1 HQR HQB HQo HQE HQX
  have r1 : false = true ↔ ofE l = Ex.mk (ofE l).kind (ofE l).str (ofE l).num (ofE l).args (ofE l).names ((ofE l).types ++ [(Ty.mk 0 ⟨#[]⟩ [] [] false)]) (ofE l).mems := by simp only [Bool.false_eq_true, false_iff]; exact hne
  have r2 : false = true ↔ Ex.mk (ofE l).kind (ofE l).str (ofE l).num (ofE l).args (ofE l).names ((ofE l).types ++ [(Ty.mk 0 ⟨#[]⟩ [] [] false)]) (ofE l).mems = ofE l := by simp only [Bool.false_eq_true, false_iff]; exact fun h => hne h.symm
  obtain ⟨se, hse⟩ : ∃ d : Int, ((ofE l).size : Int) = d := ⟨_, rfl⟩
  go_region_held3 (fun W => (∀ j, W.cell? ⟨w3.heap.size, j, none⟩ = (#[.int .i64 ka, .string sa, .int .i64 na, .slice aA (ofE l).args.length cA, .slice aN (ofE l).names.length cN, .slice aT (ofE l).types.length cT, .slice aM (ofE l).mems.length cM] : Array Value)[j]?) ∧ (∀ j, W.cell? ⟨w3.heap.size + 1, j, none⟩ = (#[.int .i64 ka, .string sa, .int .i64 na, .slice aA (ofE l).args.length cA, .slice aN (ofE l).names.length cN, .slice A7 ((ofE l).types.length + 1) c7, .slice aM (ofE l).mems.length cM] : Array Value)[j]?) ∧ (∀ j, W.cell? ⟨w5.heap.size, j, none⟩ = (#[.int .i64 kb, .string sb, .int .i64 nb, .slice bA mA dA, .slice bN mN dN, .slice bT mT dT, .slice bM mM dM] : Array Value)[j]?))
    (first | exact hx0 | (refine HC.out _ ?_; (· repeat (first | assumption | exact BelC.refl _ | refine BelC.alloc ?_ _ | refine BelC.drew ?_))))
    (first | (go_at_call 21; with_reducible refine (sameE (wB := wF) HVE.out HVX.out ?_ ?_ ?_ false r1 ?_).mono ?_; (· omega); (· omega); (· omega); (· repeat (first | assumption | exact BelC.refl _ | refine BelC.alloc ?_ _ | refine BelC.drew ?_)); rintro e w6 ⟨rfl, hb6⟩) | (go_at_call 21; with_reducible refine (sameE (wB := wF) HVX.out HVE.out ?_ ?_ ?_ false r2 ?_).mono ?_; (· omega); (· omega); (· omega); (· repeat (first | assumption | exact BelC.refl _ | refine BelC.alloc ?_ _ | refine BelC.drew ?_)); rintro e w6 ⟨rfl, hb6⟩) | (go_at_call 21; with_reducible refine (sameE (wB := wF) HVE.out HVY'.out ?_ ?_ ?_ true ⟨fun _ => rfl, fun _ => rfl⟩ ?_).mono ?_; (· omega); (· omega); (· omega); (· repeat (first | assumption | exact BelC.refl _ | refine BelC.alloc ?_ _ | refine BelC.drew ?_)); rintro e w6 ⟨rfl, hb6⟩) | (go_at_call 14; with_reducible refine (sizeE (wB := wF) HVY'.out ?_ se hse ?_).mono ?_; (· omega); (· repeat (first | assumption | exact BelC.refl _ | refine BelC.alloc ?_ _ | refine BelC.drew ?_)); rintro e w6 ⟨rfl, hb6⟩) | (go_at_call 14; with_reducible refine (sizeE (wB := wF) HVE.out ?_ se hse ?_).mono ?_; (· omega); (· repeat (first | assumption | exact BelC.refl _ | refine BelC.alloc ?_ _ | refine BelC.drew ?_)); rintro e w6 ⟨rfl, hb6⟩))
  all_goals go_wp2_with fail
  all_goals go_ret
  all_goals exact ⟨rfl, HFw.out.trans (Below.mono (by assumption) HFw.out.size)⟩

end Go.Proofs.Ythgbldkcgfggfaa

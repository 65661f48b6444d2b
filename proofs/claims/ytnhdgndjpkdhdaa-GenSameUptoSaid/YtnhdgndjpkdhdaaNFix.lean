/-
  gen.Fixed, gen.Generic.
-/
import Derived.Test.YtnhdgndjpkdhdaaNGen
namespace Go.Proofs.Ytnhdgndjpkdhdaa
open Go.RowKit Go.Shelf Go.Sort

set_option maxRecDepth 100000 in
theorem nisFree_r (w : World) (S : Nat → Prop) (x : RNd) (b o : Nat) (hx : NdP w S b o x) :
    Calls Try.prog 25 #[.pointer (some ⟨b, o, none⟩)] w fun e w' => e = .returned (.bool (decide (x.kind = 1) || x.op)) ∧ w = w' := by
  obtain ⟨xA, cA, xL, cL, f0, f1, f2, f3, f4, hvv⟩ := hx.val
  clear hx hvv f1 f2 f3
  by_cases hk : x.kind = 1
  · rw [hk] at f0 ⊢
    go_enter Try.func25, Try.ntmps25
    go_wp2
    go_ret
    exact ⟨by simp, rfl⟩
  · have h1 : (x.kind == 1) = false := beq_eq_false_iff_ne.2 hk
    go_enter Try.func25, Try.ntmps25
    go_wp2
    go_ret
    exact ⟨by simp [hk], rfl⟩

/-- What Fixed and Generic answer. -/
def RGr.fixU (g : RGr) (M : List Int) : List Nat := if g.mcode M = 0 then g.fixL (M.map Int.toNat) else []
def RGr.genU (g : RGr) (M : List Int) : List Nat := if g.mcode M = 0 then g.genL (M.map Int.toNat) else []
theorem range_drop {N k : Nat} (h : k < N) : (List.range N).drop k = k :: (List.range N).drop (k + 1) := by
  rw [List.drop_eq_getElem_cons (by simpa using h), List.getElem_range]

set_option maxRecDepth 100000 in
set_option maxHeartbeats 2000000 in
theorem fixed_r (w : World) (S S2 : Nat → Prop) (g : RGr) (gv : Value) (M : List Int) (mA : Option Addr) (mc : Nat) (hS : ∀ k, S k → k < w.heap.size) (he : GrV w S g gv)
    (hS2 : ∀ k, S2 k → k < w.heap.size) (hI : IntsO w S2 M mA) (hmc : M.length ≤ mc) (hmm : mc ≤ maxLen) :
    Calls Try.prog 9 #[gv, .slice mA M.length mc] w fun e w' => ∃ A c, e = .returned (.tuple #[.slice A (g.fixU M).length c, .int .i64 (g.mcode M)]) ∧ (g.fixU M).length ≤ c ∧ c ≤ maxLen ∧ IntsO w' (fun k => w.heap.size ≤ k ∧ k < w'.heap.size) ((g.fixU M).map Int.ofNat) A ∧ Below w.heap.size w w' := by
  obtain ⟨A, cN, hgv, hcN, hcN9, oN⟩ := he
  subst hgv
  obtain ⟨w1, hw1⟩ : ∃ w1, w1 = w.alloc (.cells #[.slice A g.nodes.length cN, .int .i64 g.root] 24) := ⟨_, rfl⟩
  have hsz1 : w1.heap.size = w.heap.size + 1 := by rw [hw1]; simp
  have hb1 : Below w.heap.size w w1 := by rw [hw1]; exact (Below.refl _ _).alloc (Nat.le_refl _) _
  have hq1 : Blk w1 w.heap.size (.cells #[.slice A g.nodes.length cN, .int .i64 g.root] 24 (0, 0)) := by rw [hw1]; exact Blk.new' _ _ _ rfl
  have hz1 : ∀ k, S k → k < w1.heap.size := fun k hk => by have := hS k hk; omega
  have hz2 : ∀ k, S2 k → k < w1.heap.size := fun k hk => by have := hS2 k hk; omega
  have hA1 : NdsO w1 S g.nodes A := NdsO.keep (fun k hk => ⟨hk, hb1.block k (hS k hk)⟩) _ _ oN
  have hI1 : IntsO w1 S2 M mA := IntsO.keep (fun k hk => ⟨hk, hb1.block k (hS2 k hk)⟩) _ _ hI
  have hck := mcheck_r w1 S S2 g _ M mA mc hz1 ⟨A, cN, rfl, hcN, hcN9, hA1⟩ hz2 hI1 hmc hmm
  have hcell : ∀ W, Below w1.heap.size w1 W → W.cell? ⟨w.heap.size, 0, none⟩ = some (.slice A g.nodes.length cN) := fun W hW =>
    (hW.cell (p := ⟨w.heap.size, 0, none⟩) (by simp only; omega)).trans (hq1.cells.1 0)
  have HCk := Lib.hid hck
  have HC := Lib.hid hcell
  have HB1 := Lib.hid hb1
  have HA1 := Lib.hid hA1
  have HI1 := Lib.hid hI1
  have HZ1 := Lib.hid hz1
  have HZ2 := Lib.hid hz2
  obtain ⟨c00, c01⟩ := (⟨hq1.cells.1 0, hq1.cells.1 1⟩ : w1.cell? ⟨w.heap.size, 0, none⟩ = some (.slice A g.nodes.length cN) ∧ w1.cell? ⟨w.heap.size, 1, none⟩ = some (.int .i64 g.root))
  clear hS hS2 hI oN hA1 hI1 hck hcell hb1 hq1 hz1 hz2
  by_cases hcd : g.mcode M = 0
  · obtain ⟨hok, hmo⟩ := mcode_ok hcd
    obtain ⟨hMe, hMl⟩ := mono_nat hmo
    have hN := RGr.ok_len hok
    have hU : g.fixU M = g.fixL (M.map Int.toNat) := by unfold RGr.fixU; rw [if_pos hcd]
    rw [hcd, hU]
    rw [hcd] at HCk
    obtain ⟨Mn, hMn⟩ : ∃ Mn, Mn = M.map Int.toNat := ⟨_, rfl⟩
    rw [← hMn] at hMl hMe ⊢
    have hlen : M.length = Mn.length := by rw [hMn, List.length_map]
    have hre : ∀ W, Below w1.heap.size w1 W → Calls Try.prog 24 #[.slice A g.nodes.length cN, .slice mA M.length mc] W fun e w' => ∃ B out, e = .returned (.slice (some ⟨B, 0, none⟩) g.nodes.length g.nodes.length) ∧ W.heap.size ≤ B ∧ MetAt w' B g.nodes.length out ∧ (∀ x, x ∈ out ↔ ∃ m, m ∈ Mn ∧ G.Way g.fa m x) ∧ Below W.heap.size W w' := fun W hW => by
      rw [hlen]
      exact reached_r W S S2 g A cN Mn mA mc hok (fun k hk => Nat.lt_of_lt_of_le (HZ1.out k hk) hW.size) (NdsO.keep (fun k hk => ⟨hk, hW.block k (HZ1.out k hk)⟩) _ _ HA1.out) hcN hcN9 hMl (fun k hk => Nat.lt_of_lt_of_le (HZ2.out k hk) hW.size) (by rw [← hMe]; exact IntsO.keep (fun k hk => ⟨hk, hW.block k (HZ2.out k hk)⟩) _ _ HI1.out) (by omega) hmm
    have hHel : ∀ out : List Nat, (∀ x, x ∈ out ↔ ∃ m, m ∈ Mn ∧ G.Way g.fa m x) → ∀ x, decide (x ∈ out) = g.isHeld Mn x := fun out h x => by
      unfold RGr.isHeld
      rw [decide_eq_decide, h, held_way hok hMl]
    have HRe := Lib.hid hre
    have HHel := Lib.hid hHel
    have HOk := Lib.hid hok
    have hgl := fixL_len (g := g) (M := Mn)
    obtain ⟨i0, hi, hz0, hz1, hz2⟩ := info_parts infoInt
    unfold maxLen at hcN9 hmm
    clear hre hHel hok hmo hMl hMe hMn hU hcd hlen
    go_enter Try.func9, Try.ntmps9
    go_wp2_with fail
    rw [← hw1]
    clear hw1
    with_reducible refine HCk.out.mono ?_
    rintro e w2 ⟨rfl, hb2⟩
    have c2 := HC.out w2 hb2
    have hre2 := HRe.out w2 hb2
    have HRe2 := Lib.hid hre2
    have HB2 := Lib.hid hb2
    have hz12 := hb2.size
    clear hb2 hre2 c00 c01 HRe HCk
    go_wp2_with fail
    with_reducible refine HRe2.out.mono ?_
    rintro e w3 ⟨B, out, rfl, g1, g2, g3, g4⟩
    have hHL := HHel.out out g3
    have HHL := Lib.hid hHL
    have HM3 := Lib.hid g2
    have hz23 := g4.size
    have hb13 := HB2.out.trans (g4.mono hz12)
    have HB13 := Lib.hid hb13
    have hBz : B < w3.heap.size := (Array.getElem?_eq_some_iff.1 g2).1
    clear g2 g3 g4 hHL HHel HRe2 hb13
    go_wp2_with fail
    go_loopw [7, 21] (fun s i wr => ∃ (k : Nat) (es : List Nat), i = .int .i64 k ∧ k ≤ g.nodes.length ∧ es ++ ((List.range g.nodes.length).drop k).filter (fun x => g.isHeld Mn x && g.fr x) = g.fixL Mn ∧ RowG srtI 3 w3.heap.size wr (fun _ => False) s (es.map Int.ofNat) ∧ Below w3.heap.size w3 wr) (fun _ i _ => g.nodes.length - (intOf i).toNat)
    case atStart => exact ⟨0, [], rfl, Nat.zero_le _, by rw [List.drop_zero, List.nil_append]; rfl, RowG.nil _ _ _, Below.refl _ _⟩
    case round =>
      obtain ⟨k, es, rfl, hk, hq, hrw, hb⟩ := hrel
      have HQ := Lib.hid hq
      have HR := Lib.hid hrw
      have HB := Lib.hid hb
      have hb1 := HB13.out.trans (hb.mono HB13.out.size)
      have HBa := Lib.hid hb1
      have cw := HC.out wr hb1
      have hzw := hb.size
      have hm3 : MetAt wr B g.nodes.length out := (hb.block _ hBz).trans HM3.out
      have HMw := Lib.hid hm3
      clear hq hrw hb hb1
      by_cases hlt : k < g.nodes.length
      · obtain ⟨m1, m2⟩ := hm3.cell k hlt
        rw [HHL.out k] at m1
        have hd : ((List.range g.nodes.length).drop k).filter (fun x => g.isHeld Mn x && g.fr x) = (if (g.isHeld Mn k && g.fr k) = true then [k] else []) ++ ((List.range g.nodes.length).drop (k + 1)).filter (fun x => g.isHeld Mn x && g.fr x) := by
          rw [range_drop hlt, List.filter_cons]
          split <;> rfl
        have hfr := g.fr_eq k hlt
        have hdf := RNd.dfree_eq (ok_node HOk.out k hlt)
        obtain ⟨b, o, hAe, hnp⟩ := NdsO.get _ _ (NdsO.keep (S' := S) (fun k hk => ⟨hk, HBa.out.block k (HZ1.out k hk)⟩) _ _ HA1.out) k hlt
        obtain ⟨x, hx⟩ : ∃ x, x = g.nodes[k] := ⟨_, rfl⟩
        rw [← hx] at hnp hfr hdf
        have HNP := Lib.hid hnp
        have hq := HQ.out
        rw [hd, hfr] at hq
        subst hAe
        rw [← hfr] at hq hdf
        unfold RNd.dfree at hdf
        clear hd hx hnp hm3
        obtain ⟨hh, hhe⟩ : ∃ hh, hh = g.isHeld Mn k := ⟨_, rfl⟩
        obtain ⟨ff, hfe⟩ : ∃ ff, ff = g.fr k := ⟨_, rfl⟩
        rw [← hhe] at m1
        rw [← hhe, ← hfe] at hq
        rw [← hfe] at hdf
        clear hhe hfe hfr
        rcases hh with _ | _
        · have HQ' := Lib.hid (by simpa using hq : es ++ ((List.range g.nodes.length).drop (k + 1)).filter (fun x => g.isHeld Mn x && g.fr x) = g.fixL Mn)
          clear hq hdf
          go_wp2
          go_roundw
          case rel => exact ⟨k + 1, es, by go_num, by omega, HQ'.out, HR.out, HB.out⟩
          case measure => simp [intOf]; omega
        · have HDF := Lib.hid hdf
          clear hdf
          rcases ff with _ | _
          · have HQ' := Lib.hid (by simpa using hq : es ++ ((List.range g.nodes.length).drop (k + 1)).filter (fun x => g.isHeld Mn x && g.fr x) = g.fixL Mn)
            clear hq
            go_wp2_with (go_at_call 25; refine (nisFree_r _ S x _ _ HNP.out).mono ?_; rw [HDF.out]; rintro e w5 ⟨rfl, rfl⟩)
            go_roundw
            case rel => exact ⟨k + 1, es, by go_num, by omega, HQ'.out, HR.out, HB.out⟩
            case measure => simp [intOf]; omega
          · have hq' : (es ++ [k]) ++ ((List.range g.nodes.length).drop (k + 1)).filter (fun x => g.isHeld Mn x && g.fr x) = g.fixL Mn := by rw [← hq]; simp
            have hel : (es.map Int.ofNat).length + [(k : Int)].length ≤ 2000000 := by
              have h1 := congrArg List.length hq'
              simp only [List.length_append, List.length_singleton] at h1
              simp only [List.length_map, List.length_singleton]
              omega
            have HEl := Lib.hid hel
            have HQ' := Lib.hid hq'
            clear hq hq' hel
            have HRow5 := Lib.hid (HR.out.keep (F := fun _ => False) ((Keeps.refl _ wr).alloc (.cells #[.int .i64 k] 3)) (fun _ e _ => e.elim))
            go_wp2_with (first | (go_at_call 25; refine (nisFree_r _ S x _ _ HNP.out).mono ?_; rw [HDF.out]; rintro e w5 ⟨rfl, rfl⟩) | (at_builtin; (refine wpList_growB (T := srtI) (ms := [(k : Int)]) rfl (.tmp 34) (.tmp 36) 25 3 rfl i0 _ 8 Try.underlying25 hi hz0 hz1 hz2 rfl rfl HRow5.out ⟨wr.heap.size, 0, none⟩ 1 [.int .i64 k] rfl (fun j u hj => gcell_new _ _ _ _ rfl j u hj) (Items.one srtI rfl) ?_ ?_ ?_ (by simp) ?_; (· have := HEl.out; simp [maxLen] at this ⊢; omega); (· have := HEl.out; simp at this ⊢; omega); (· simp; omega)); intro v6 w6 hrow6 hk6 hb6; have HRow6 := Lib.hid hrow6; have HB6 := Lib.hid ((HB.out.alloc hzw (.cells #[.int .i64 k] 3)).trans (hk6.below (by simp; omega) (fun i hi e => by have := (HRow5.out.block e).1; omega))); clear hrow6 hk6 hb6))
            go_roundw
            case rel => exact ⟨k + 1, es ++ [k], by go_num, by omega, HQ'.out, by have h := HRow6.out; rw [List.map_append]; exact h, HB6.out⟩
            case measure => simp [intOf]; omega
      · have hk' : k = g.nodes.length := by omega
        have hes : es = g.fixL Mn := by have h := HQ.out; rw [hk', List.drop_of_length_le (by simp)] at h; simpa using h
        clear hk' hm3
        obtain ⟨A9, c9, rfl, h1, h2, h3⟩ := HR.out.ints (S' := fun k => w.heap.size ≤ k ∧ k < wr.heap.size) (fun _ e => e.elim) (fun k h1 h2 => ⟨by omega, h2⟩)
        rw [List.length_map, hes] at h1
        rw [hes] at h3
        rw [List.length_map, hes]
        have H3 := Lib.hid h3
        clear h3
        go_wp2
        go_ret2
        exact ⟨A9, c9, rfl, h1, h2, H3.out, HB1.out.trans (HBa.out.mono (by omega))⟩
  · have hU : g.fixU M = [] := by unfold RGr.fixU; rw [if_neg hcd]
    rw [hU]
    obtain ⟨cd, hcde⟩ : ∃ cd, cd = g.mcode M := ⟨_, rfl⟩
    rw [← hcde] at hcd HCk ⊢
    unfold maxLen at hcN9 hmm
    clear hcde hU
    go_enter Try.func9, Try.ntmps9
    go_wp2_with fail
    rw [← hw1]
    clear hw1
    with_reducible refine HCk.out.mono ?_
    rintro e w2 ⟨rfl, hb2⟩
    have HB2 := Lib.hid hb2
    clear hb2
    go_wp2
    go_ret2
    exact ⟨none, 0, rfl, Nat.le_refl _, Nat.zero_le _, trivial, HB1.out.trans (HB2.out.mono (by omega))⟩
end Go.Proofs.Ytnhdgndjpkdhdaa

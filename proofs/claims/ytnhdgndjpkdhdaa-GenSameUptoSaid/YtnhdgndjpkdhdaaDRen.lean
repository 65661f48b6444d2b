/-
  gen.renumbered (the same code as graph.renumbered).
-/
import Derived.Test.YtnhdgndjpkdhdaaDFree
import Derived.Test.YtnhdgndjpkdhdaaGCat2
import Derived.Test.YtnhdgndjpkdhdaaGThaw
namespace Go.Proofs.Ytnhdgndjpkdhdaa
open Go.RowKit

set_option maxRecDepth 100000 in
set_option maxHeartbeats 2000000 in
theorem dfree_r (w : World) (S : Nat → Prop) (g : RGr) (gv : Value) (hS : ∀ k, S k → k < w.heap.size) (he : GrV w S g gv) :
    Calls Try.prog 19 #[gv] w fun e w' => ∃ A c, e = .returned (.slice A (g.reachU.filter g.fr).length c) ∧ (g.reachU.filter g.fr).length ≤ c ∧ c ≤ maxLen ∧
      IntsO w' (fun k => w.heap.size ≤ k ∧ k < w'.heap.size) ((g.reachU.filter g.fr).map Int.ofNat) A ∧ Below w.heap.size w w' := by
  obtain ⟨A, cN, hgv, hcN, hcN9, oN⟩ := he
  subst hgv
  have HON := Lib.hid oN
  have HS := Lib.hid hS
  obtain ⟨i0, hi, hz0, hz1, hz2⟩ := info_parts infoInt
  obtain ⟨w1, hw1⟩ : ∃ w1, w1 = w.alloc (.cells #[.slice A g.nodes.length cN, .int .i64 g.root] 24) := ⟨_, rfl⟩
  have hsz1 : w1.heap.size = w.heap.size + 1 := by rw [hw1]; simp
  have hb1 : Below w.heap.size w w1 := by rw [hw1]; exact (Below.refl _ _).alloc (Nat.le_refl _) _
  have hbw : ∀ W, Below w1.heap.size w1 W → Below w.heap.size w W := fun W hW => hb1.trans (hW.mono (by omega))
  have hrow : ∀ W, Below w1.heap.size w1 W → ∀ j, W.cell? ⟨w.heap.size, j, none⟩ = (#[.slice A g.nodes.length cN, .int .i64 g.root] : Array Value)[j]? := fun W hW j =>
    cell_of_row W w.heap.size j _ _ _ ((hW.block w.heap.size (by omega)).trans (by rw [hw1]; exact heap_alloc_new w _))
  have hlt : ∀ W, Below w1.heap.size w1 W → ∀ k, S k → k < W.heap.size := fun W hW k hk => Nat.lt_of_lt_of_le (HS.out k hk) (hbw W hW).size
  have hgr : GrV w1 S g (.agg #[.slice A g.nodes.length cN, .int .i64 g.root]) := ⟨A, cN, rfl, hcN, hcN9, NdsO.keep (fun k hk => ⟨hk, hb1.block k (HS.out k hk)⟩) _ _ HON.out⟩
  obtain ⟨L, hL⟩ : ∃ L, L = g.reachU := ⟨_, rfl⟩
  have hreach := dreach_u w1 S g _ (hlt w1 (Below.refl _ _)) hgr
  rw [← hL] at hreach ⊢
  have hLl : (∀ x, x ∈ L → x < g.nodes.length) ∧ L.length ≤ 1048576 := by
    rw [hL]
    exact ⟨(reachU_lt g).1, reachU_len g⟩
  have HLl := Lib.hid hLl.1
  have hLo : ∀ x, x ∈ L → g.ok = true := fun x hx => reachU_ok (by rw [← hL]; exact hx)
  have HLo := Lib.hid hLo
  have hLn := hLl.2
  have HReach := Lib.hid hreach
  have HRow := Lib.hid hrow
  have HBw := Lib.hid hbw
  clear hS oN hrow hbw hlt hb1 hgr hreach hLl hL hLo
  unfold maxLen at hcN9
  go_enter Try.func19, Try.ntmps19
  go_wp2_with fail
  rw [← hw1]
  clear hw1
  refine HReach.out.mono ?_
  rintro e w2 ⟨A2, c2, rfl, hc2, hc29, hI2, hb2⟩
  have HI2 := Lib.hid hI2
  have HB2 := Lib.hid hb2
  have hz2' := hb2.size
  unfold maxLen at hc29
  clear hI2 hb2 HReach
  go_wp2_with fail
  go_loopw [3, 5, 9] (fun s _ i wr => ∃ (k : Nat) (es : List Nat), i = .int .i64 k ∧ k ≤ L.length ∧ es ++ (L.drop k).filter g.fr = L.filter g.fr ∧ RowG srtI 3 w2.heap.size wr (fun _ => False) s (es.map Int.ofNat) ∧ Below w2.heap.size w2 wr) (fun _ _ i _ => L.length - (intOf i).toNat)
  case atStart => exact ⟨0, [], rfl, Nat.zero_le _, by rw [List.drop_zero, List.nil_append], RowG.nil _ _ _, Below.refl _ _⟩
  case round =>
    obtain ⟨k, es, rfl, hk, hq, hrw, hb⟩ := hrel
    have HQ := Lib.hid hq
    have HR := Lib.hid hrw
    have HB := Lib.hid hb
    have hb1 := HB2.out.trans (hb.mono HB2.out.size)
    have HBa := Lib.hid hb1
    clear hq hrw hb hb1
    by_cases hlt : k < L.length
    · obtain ⟨b2, o2, rfl, _, hcell⟩ := IntsO.get _ _ (IntsO.keep (S' := fun k => k < w2.heap.size) (fun k hk => ⟨hk.2, HB.out.block k hk.2⟩) _ _ HI2.out) k (by simpa using hlt)
      rw [List.getElem_map] at hcell
      obtain ⟨y, hy⟩ : ∃ y, y = L[k] := ⟨_, rfl⟩
      have hyN : y < g.nodes.length := HLl.out y (by rw [hy]; exact List.getElem_mem hlt)
      have hd : (L.drop k).filter g.fr = (if g.fr y = true then [y] else []) ++ (L.drop (k + 1)).filter g.fr := by
        rw [List.drop_eq_getElem_cons hlt, ← hy, List.filter_cons]
        split <;> rfl
      rw [← hy] at hcell
      have hcell' : wr.cell? ⟨b2, o2 + k, none⟩ = some (.int .i64 y) := hcell
      have hfr := g.fr_eq y hyN
      have hdf := RNd.dfree_eq (ok_node (HLo.out y (by rw [hy]; exact List.getElem_mem hlt)) y hyN)
      obtain ⟨b, o, rfl, hnp⟩ := NdsO.get _ _ (NdsO.keep (S' := S) (fun k hk => ⟨hk, (HBw.out _ HBa.out).block k (HS.out k hk)⟩) _ _ HON.out) y hyN
      obtain ⟨x, hx⟩ : ∃ x, x = g.nodes[y] := ⟨_, rfl⟩
      rw [← hx] at hnp hfr hdf
      have HNP := Lib.hid hnp
      unfold RNd.dfree at hdf
      obtain ⟨xA, yA, xL, yL, f0, f1, f2, f3, f4, hvv⟩ := hnp.val
      have c0 := HRow.out wr HBa.out 0
      have c1 := HRow.out wr HBa.out 1
      have hq := HQ.out
      rw [hd, hfr] at hq
      clear hcell hd hx hnp hvv hy hfr
      rcases hfx : x.free with _ | _ <;> rw [hfx] at hdf <;> have HDF := Lib.hid hdf <;> clear hdf
      · rw [hfx] at hq
        have HQ' := Lib.hid (by simpa using hq : es ++ (L.drop (k + 1)).filter g.fr = L.filter g.fr)
        clear hq hfx
        go_wp2_with (go_at_call 41; refine (disFree_r _ S x _ _ HNP.out).mono ?_; rw [HDF.out]; rintro e w5 ⟨rfl, rfl⟩)
        go_roundw
        case rel => exact ⟨k + 1, es, by go_num, by omega, HQ'.out, HR.out, HB.out⟩
        case measure => simp [intOf]; omega
      · rw [hfx] at hq
        have hq' : (es ++ [y]) ++ (L.drop (k + 1)).filter g.fr = L.filter g.fr := by rw [← hq]; simp
        have hel : (es.map Int.ofNat).length + [(y : Int)].length ≤ 2000000 := by
          have h1 := congrArg List.length hq'
          have h2 := List.length_filter_le g.fr L
          simp only [List.length_append, List.length_singleton] at h1
          simp only [List.length_map, List.length_singleton]
          omega
        have HEl := Lib.hid hel
        have HQ' := Lib.hid hq'
        clear hq hq' hfx hel
        have HRow5 := Lib.hid (HR.out.keep (F := fun _ => False) ((Keeps.refl _ wr).alloc (.cells #[.int .i64 y] 3)) (fun _ e _ => e.elim))
        have hz5 := HB.out.size
        go_wp2_with (first | (go_at_call 41; refine (disFree_r _ S x _ _ HNP.out).mono ?_; rw [HDF.out]; rintro e w5 ⟨rfl, rfl⟩) | (at_builtin; (refine wpList_grow (T := srtI) (ms := [(y : Int)]) rfl (.tmp 18) (.tmp 20) 25 3 rfl i0 _ 8 Try.underlying25 hi hz0 hz1 hz2 rfl rfl HRow5.out ⟨wr.heap.size, 0, none⟩ 1 [.int .i64 y] rfl (fun j u hj => gcell_new _ _ _ _ rfl j u hj) (Items.one srtI rfl) HEl.out (by decide) ?_ (by simp) ?_; (· simp; omega)); intro v6 w6 hrow6 hk6 hb6; have HRow6 := Lib.hid hrow6; have HB6 := Lib.hid ((HB.out.alloc hz5 (.cells #[.int .i64 y] 3)).trans (hk6.below (by simp; omega) (fun i hi e => by have := (HRow5.out.block e).1; omega))); clear hrow6 hk6 hb6))
        go_roundw
        case rel => exact ⟨k + 1, es ++ [y], by go_num, by omega, HQ'.out, by have h := HRow6.out; rw [List.map_append]; exact h, HB6.out⟩
        case measure => simp [intOf]; omega
    · have hk' : k = L.length := by omega
      have hes : es = L.filter g.fr := by have h := HQ.out; rw [hk', List.drop_length] at h; simpa using h
      clear hk'
      obtain ⟨A9, c9, rfl, h1, h2, h3⟩ := HR.out.ints (S' := fun k => w.heap.size ≤ k ∧ k < wr.heap.size) (fun _ e => e.elim) (fun k h1 h2 => ⟨by have := HB2.out.size; omega, h2⟩)
      rw [List.length_map, hes] at h1
      rw [hes] at h3
      rw [List.length_map, hes]
      go_wp2
      go_ret
      exact ⟨A9, c9, rfl, h1, h2, h3, HBw.out _ HBa.out⟩

theorem Cpy.start3 {wB W1 w6 : World} {o c6 : Nat} {x : RNd} {A6 : Option Addr} (hb : BelC wB W1) (hq : Blk W1 o (.cells #[.int .i64 x.kind, .string x.name, .slice none 0 0, .slice none 0 0, .bool x.op] 37 (0, 0))) (ho : wB.heap.size ≤ o)
    (hr : RowG srtS 9 wB.heap.size w6 (fun _ => False) (.slice A6 x.labels.length c6) x.labels) (hk : Keeps (fun k => (Value.slice none 0 0).ownBlock = some k) W1 w6) (hv : (Value.slice A6 x.labels.length c6).ownBlock = (Value.slice none 0 0).ownBlock ∨ (Value.slice A6 x.labels.length c6).ownBlock = some W1.heap.size) :
    Cpy wB (w6.setCell ⟨o, 3, none⟩ (.slice A6 x.labels.length c6)) o x A6 c6 (.slice none 0 0) [] := by
  have zo := hq.lt
  have hb6 : BelC wB w6 := Below.trans hb (hk.below (Below.size hb) (fun i _ e => by simp [Value.ownBlock] at e))
  have hq6 : Blk w6 o (.cells #[.int .i64 x.kind, .string x.name, .slice none 0 0, .slice none 0 0, .bool x.op] 37 (0, 0)) := (hk.block o zo (fun e => by simp [Value.ownBlock] at e)).trans hq
  have hn : (Value.slice A6 x.labels.length c6).ownBlock ≠ some o := by
    rcases hv with e | e
    · rw [e]; simp [Value.ownBlock]
    · rw [e]; intro e'; injection e' with e'; omega
  refine ⟨hb6.setCell ho _, hq6.set 3 _, ho, ?_, RowG.nil _ _ _, by simp [Value.ownBlock], hn, by simp [Value.ownBlock]⟩
  exact hr.keep (F := fun k => k = o) ((Keeps.refl (fun k => k = o) _).setCell (p := ⟨o, 3, none⟩) (fun _ => rfl) _) (fun k e _ => ⟨by subst e; exact hn, id⟩)

set_option maxRecDepth 100000 in
set_option maxHeartbeats 2000000 in
theorem renumbered_r (w : World) (S S2 : Nat → Prop) (x : RNd) (b o : Nat) (to : List Int) (tA : Option Addr) (tc : Nat) (ys : List Int) (hS : ∀ k, S k → k < w.heap.size) (hS2 : ∀ k, S2 k → k < w.heap.size) (hx : NdP w S b o x) (ht : IntsO w S2 to tA) (_htc : to.length ≤ tc) (_htm : tc ≤ maxLen)
    (hA : x.args.length * 8 ≤ 140737488355328) (hL : x.labels.length * 16 ≤ 140737488355328) (hy : ys.length = x.args.length) (hin : ∀ k (hk : k < x.args.length), ∃ n : Nat, x.args[k] = n ∧ ∃ hn : n < to.length, ys[k]? = some to[n]) :
    Calls Try.prog 51 #[.pointer (some ⟨b, o, none⟩), .slice tA to.length tc] w fun e w' => ∃ v', e = .returned v' ∧ NdV w' (New w.heap.size w') ⟨x.kind, x.name, ys, x.labels, x.op⟩ v' ∧ Below w.heap.size w w' := by
  obtain ⟨xA, cA, xL, cL, f0, f1, f2, f3, f4, hx1, hx2, hx3, hx4, hx5, hx6, hx7, hb⟩ := hx.val
  have hblt := hS b hb
  have H6 := Lib.hid hx6
  have H7 := Lib.hid hx7
  have HT := Lib.hid ht
  have HS := Lib.hid hS
  have HS2 := Lib.hid hS2
  have HIn := Lib.hid hin
  clear hx6 hx7 ht hS hS2 hin
  unfold maxLen at hx3 hx5 _htm
  obtain ⟨i0, hi, hz0, hz1, hz2⟩ := info_parts infoStr
  obtain ⟨j0, hj, hy0, hy1, hy2⟩ := info_parts infoInt
  go_enter Try.func51, Try.ntmps51
  go_wp2_with fail
  go_region
  go_wp2_with fail
  obtain ⟨w1, hw1⟩ : ∃ w1, w1 = w.alloc (.cells #[.int .i64 0, .string ⟨#[]⟩, .slice none 0 0, .slice none 0 0, .bool false] 37) := ⟨_, rfl⟩
  have hz1' : w1.heap.size = w.heap.size + 1 := by rw [hw1]; simp
  have hbw1 : BelC w w1 := by rw [hw1]; exact (BelC.refl w).alloc _
  have hres0 : Blk w1 w.heap.size (.cells #[.int .i64 0, .string ⟨#[]⟩, .slice none 0 0, .slice none 0 0, .bool false] 37 (0, 0)) := by rw [hw1]; exact Blk.new' _ _ _ rfl
  rw [← hw1]
  clear hw1
  obtain ⟨w2, hw2⟩ : ∃ w2, w2 = (w1.alloc (.cells #[.int .i64 x.kind, .string x.name, .slice none 0 0, .slice none 0 0, .bool x.op] 37)).drew := ⟨_, rfl⟩
  have hb12 : BelC w1 w2 := by rw [hw2]; exact ((BelC.refl w1).alloc _).drew
  have hq2 : Blk w2 (w.heap.size + 1) (.cells #[.int .i64 x.kind, .string x.name, .slice none 0 0, .slice none 0 0, .bool x.op] 37 (0, 0)) := by rw [hw2]; exact (Blk.new' _ _ _ hz1'.symm).drew
  rw [← hw2]
  clear hw2
  have hbo : ∀ W, BelC w1 W → BelC w W := fun W hW => Below.trans hbw1 (Below.mono hW (Below.size hbw1))
  have HBo := Lib.hid hbo
  have hlies : ∀ W, BelC w1 W → LiesAt srtS W (fun _ => False) x.labels xL := fun W hW => LiesAt.strs_any (lies_strs (StrsO.keep (S' := S) (fun k hk => ⟨hk, (hbo W hW).block k (HS.out k hk)⟩) _ _ H7.out))
  have HLies := Lib.hid hlies
  have hres : ∀ W, BelC w1 W → Blk W w.heap.size (.cells #[.int .i64 0, .string ⟨#[]⟩, .slice none 0 0, .slice none 0 0, .bool false] 37 (0, 0)) := fun W hW => (Below.block hW _ (by omega)).trans hres0
  have HRes := Lib.hid hres
  have hfo : ∀ W, BelC w1 W → W.cell? ⟨b, o + 2, none⟩ = some (.slice xA x.args.length cA) ∧ W.cell? ⟨b, o + 3, none⟩ = some (.slice xL x.labels.length cL) := fun W hW => ⟨(hbo W hW).old f2, (hbo W hW).old f3⟩
  have HFo := Lib.hid hfo
  have HB12 := Lib.hid hb12
  have HQ2 := Lib.hid hq2
  obtain ⟨q1, q2⟩ := hq2.cells
  have q13 := q1 3
  have q23 := q2 3
  obtain ⟨g2, g3⟩ := hfo w2 hb12
  have hlb : x.labels.length ≤ maxLen := by unfold maxLen; omega
  have HLb := Lib.hid hlb
  clear hbo hlies hres hfo hres0 hbw1 hb12 hq2 q1 q2 f0 f1 f2 f3 f4 hlb hx
  go_region_law (refine step_catA (T := srtS) (v := .slice none 0 0) (base := w1.heap.size) (S := fun _ => False) (es := []) (ms := x.labels) rfl (.tmp 22) (.tmp 26) 35 9 rfl i0 _ 16 Try.underlying35 hi hz0 hz1 hz2 rfl rfl (RowG.nil _ _ _) xL cL rfl (HLies.out _ ?_) ?_ ?_ ?_ ?_; (· repeat (first | with_reducible exact HB12.out | with_reducible refine BelC.drew ?_)); (· simpa using HLb.out); (· simpa using hL); (· have := Below.size HB12.out; simpa using this); intro v6 w6 hrow6 hk6 hb6; rw [List.nil_append] at hrow6; obtain ⟨A6, c6, hv6, hn6, hm6⟩ := hrow6.form; subst hv6; refine cut_ (P := Blk w6 (w.heap.size + 1) _) ((hk6.block (w.heap.size + 1) (Blk.lt HQ2.out) (fun e => by simp [Value.ownBlock] at e)).trans HQ2.out) (fun hq6 => ?_); obtain ⟨hcq, hfq⟩ := hq6.cells; have hcq3 := hcq 3; have hfq3 := hfq 3; have HCp0 := Lib.hid (Cpy.start3 (HB12.out.drew) HQ2.out (by omega) hrow6 hk6 hb6); clear hrow6 hk6 hb6 hq6 hcq hfq)
  all_goals
    have c2 := (HFo.out _ HCp0.out.bel).1
    clear q13 q23 g2 g3 hcq3 hfq3
    go_wp2
    go_loopw [7, 34] (fun _ i wr => ∃ (k : Nat) (s : Value), i = .int .i64 k ∧ k ≤ x.args.length ∧ Cpy w1 wr (w.heap.size + 1) x A6 c6 s (ys.take k)) (fun _ i _ => x.args.length - (intOf i).toNat)
    case atStart => exact ⟨0, _, rfl, Nat.zero_le _, by rw [List.take_zero]; exact HCp0.out⟩
    case round =>
      obtain ⟨k, s, rfl, hk, hcp⟩ := hrel
      have hlk : (ys.take k).length = k := by rw [List.length_take]; omega
      obtain ⟨sA, sc, hs0, hs1, hs2⟩ := hcp.row.form
      rw [hlk] at hs0 hs1
      subst hs0
      have HCp := Lib.hid hcp
      have hbw := HBo.out _ hcp.bel
      have HB0 := Lib.hid hbw
      clear hcp hbw
      by_cases hlt : k < x.args.length
      · obtain ⟨b1, o1, rfl, _, d1⟩ := IntsO.get _ _ (IntsO.keep (S' := S) (fun k hk => ⟨hk, HB0.out.block k (HS.out k hk)⟩) _ _ H6.out) k hlt
        obtain ⟨n, hn, hnl, hyk⟩ := HIn.out k hlt
        rw [hn] at d1
        obtain ⟨b2, o2, rfl, _, d2⟩ := IntsO.get _ _ (IntsO.keep (S' := S2) (fun k hk => ⟨hk, HB0.out.block k (HS2.out k hk)⟩) _ _ HT.out) n hnl
        obtain ⟨y, hy0⟩ : ∃ y, y = to[n] := ⟨_, rfl⟩
        rw [← hy0] at d2 hyk
        have hty : ys.take (k + 1) = ys.take k ++ [y] := by
          rw [List.take_add_one, hyk]; rfl
        have HTy := Lib.hid hty
        obtain ⟨f1, f2⟩ := HCp.out.blk.cells
        have f2' := f1 2
        clear hn hy0 hyk hty c2
        go_wp2
        have HRowK := Lib.hid (fun W (hW : BelC wr W) => (HCp.out.row.keep (F := fun _ => False) (Keeps.of_below0 hW) (fun _ e _ => e.elim) : RowG srtI 3 w1.heap.size W (fun _ => False) (.slice sA k sc) (ys.take k)))
        have hzB := Below.size HCp.out.bel
        have f3 : (wr.alloc (.cells #[.int .i64 y] 3)).cell? ⟨w.heap.size + 1, 2, none⟩ = some (.slice sA k sc) := ((BelC.refl wr).alloc _).old f2'
        go_region_law (refine step_growB (T := srtI) (ms := [y]) rfl (.tmp 39) (.tmp 44) 25 3 rfl j0 _ 8 Try.underlying25 hj hy0 hy1 hy2 rfl rfl (HRowK.out _ ?_) ⟨wr.heap.size, 0, none⟩ 1 [.int .i64 y] rfl (fun j u hj => gcell_new _ _ _ _ rfl j u hj) (Items.one srtI rfl) ?_ ?_ ?_ (by simp) ?_; (· repeat (first | with_reducible assumption | with_reducible exact BelC.refl _ | with_reducible refine BelC.alloc ?_ _ | with_reducible refine BelC.drew ?_)); (· rw [hlk]; simp [maxLen]; omega); (· rw [hlk]; simp; omega); (· simp; omega); intro v6 w6 hrow6 hk6 hb6; obtain ⟨A7, c7, h70, hn7, hm7⟩ := hrow6.form; rw [List.length_append, hlk, List.length_singleton] at h70 hn7; subst h70; refine cut_ (HCp.out.step ?_ hrow6 hk6 hb6) (fun hst => ?_); (· show BelC _ _; repeat (first | with_reducible assumption | with_reducible exact BelC.refl _ | with_reducible refine BelC.alloc ?_ _ | with_reducible refine BelC.drew ?_)); refine cut_ (P := Blk w6 (w.heap.size + 1) _) ((hk6.block (w.heap.size + 1) ?_ (fun e => HCp.out.n1 e)).trans (Eq.trans ?_ HCp.out.blk)) (fun hbq => ?_); (· have := HCp.out.blk.lt; simp; omega); (· refine Below.heap_alloc _ _ _ HCp.out.blk.lt); obtain ⟨hcq, hfq⟩ := Blk.cells hbq; have hcq2 := hcq 2; have hfq2 := hfq 2; have HSt := Lib.hid hst; clear hst hbq hrow6 hk6 hb6 hcq hfq)
        all_goals go_wp2
        all_goals go_roundw
        all_goals first
          | exact ⟨k + 1, _, by go_num, by omega, by rw [HTy.out]; exact HSt.out⟩
          | (simp [intOf]; omega)
      · have hk' : k = x.args.length := by omega
        have hcp : Cpy w1 wr (w.heap.size + 1) x A6 c6 (.slice sA k sc) ys := by
          have h := HCp.out
          rwa [List.take_of_length_le (by omega)] at h
        obtain ⟨f1, f2⟩ := HCp.out.blk.cells
        have hbR := HRes.out wr HCp.out.bel
        obtain ⟨g1, g2⟩ := hbR.cells
        have hbS := ((((hbR.set 0 (.int .i64 x.kind)).set 1 (.string x.name)).set 2 (.slice sA k sc)).set 3 (.slice A6 x.labels.length c6)).set 4 (.bool x.op)
        have hkS : Keeps (fun k => k < w1.heap.size) wr (((((wr.setCell ⟨w.heap.size, 0, none⟩ (.int .i64 x.kind)).setCell ⟨w.heap.size, 1, none⟩ (.string x.name)).setCell ⟨w.heap.size, 2, none⟩ (.slice sA k sc)).setCell ⟨w.heap.size, 3, none⟩ (.slice A6 x.labels.length c6)).setCell ⟨w.heap.size, 4, none⟩ (.bool x.op)) := by
          repeat (first | with_reducible exact Keeps.refl _ _ | refine Keeps.setCell ?_ (fun _ => by simp; omega) _)
        have hbW : Below w.heap.size w (((((wr.setCell ⟨w.heap.size, 0, none⟩ (.int .i64 x.kind)).setCell ⟨w.heap.size, 1, none⟩ (.string x.name)).setCell ⟨w.heap.size, 2, none⟩ (.slice sA k sc)).setCell ⟨w.heap.size, 3, none⟩ (.slice A6 x.labels.length c6)).setCell ⟨w.heap.size, 4, none⟩ (.bool x.op)) := by
          repeat (first | exact HB0.out | refine Below.setCell ?_ (by simp) _)
        have HbS := Lib.hid hbS
        have HkS := Lib.hid hkS
        have HbW := Lib.hid hbW
        clear hbS hkS hbW hbR c2
        have HCf := Lib.hid hcp
        clear hk' hcp
        go_wp2
        generalize (((((wr.setCell ⟨w.heap.size, 0, none⟩ (.int .i64 x.kind)).setCell ⟨w.heap.size, 1, none⟩ (.string x.name)).setCell ⟨w.heap.size, 2, none⟩ (.slice sA k sc)).setCell ⟨w.heap.size, 3, none⟩ (.slice A6 x.labels.length c6)).setCell ⟨w.heap.size, 4, none⟩ (.bool x.op)) = W9 at HbS HkS HbW ⊢
        obtain ⟨p1, p2⟩ := HbS.out.cells
        have p10 : W9.cell? ⟨w.heap.size, 0, none⟩ = some (.int .i64 x.kind) := p1 0
        have p11 : W9.cell? ⟨w.heap.size, 1, none⟩ = some (.string x.name) := p1 1
        have p12 : W9.cell? ⟨w.heap.size, 2, none⟩ = some (.slice sA k sc) := p1 2
        have p13 : W9.cell? ⟨w.heap.size, 3, none⟩ = some (.slice A6 x.labels.length c6) := p1 3
        have p14 : W9.cell? ⟨w.heap.size, 4, none⟩ = some (.bool x.op) := p1 4
        refine bodyPost_ret (v := .agg #[.int .i64 x.kind, .string x.name, .slice sA k sc, .slice A6 x.labels.length c6, .bool x.op]) (by simp [results, Try.results51, go_sem, p10, p11, p12, p13, p14]) rfl ?_
        exact ⟨_, rfl, HCf.out.doneT (B := w.heap.size) HkS.out (by omega) hx1, HbW.out⟩
end Go.Proofs.Ytnhdgndjpkdhdaa

/-
  trefoilref06.Free.
-/
import Derived.Test.YtipehahfbcbigaaGReach
namespace Go.Proofs.Ytipehahfbcbigaa
open Go.RowKit

/-- What Reach answers: none, if the graph may not be. -/
def RGr.reachU (g : RGr) : List Nat := if g.ok = true then g.reach else []
theorem reachU_lt (g : RGr) : (∀ x, x ∈ g.reachU → x < g.nodes.length) ∧ g.reachU.Nodup := by
  unfold RGr.reachU
  by_cases h : g.ok = true
  · rw [if_pos h]
    have h1 := (RGr.ok_fit h).reach_went.1
    have hN : g.gr.nodes.length = g.nodes.length := by simp [RGr.gr]
    rw [hN] at h1
    exact ⟨h1.lt, h1.nodup⟩
  · rw [if_neg h]; exact ⟨fun x hx => (by cases hx), (by simp)⟩
theorem reachU_len (g : RGr) : g.reachU.length ≤ 1048576 := by
  unfold RGr.reachU
  by_cases h : g.ok = true
  · rw [if_pos h]
    have h1 := (RGr.ok_fit h).reach_went.1
    have hN : g.gr.nodes.length = g.nodes.length := by simp [RGr.gr]
    rw [hN] at h1
    exact Nat.le_trans (G.nodup_len _ h1.nodup h1.lt) (RGr.ok_len h)
  · rw [if_neg h]; simp
theorem greach_u (w : World) (S : Nat → Prop) (g : RGr) (gv : Value) (hS : ∀ k, S k → k < w.heap.size) (he : GrV w S g gv) :
    Calls Try.prog 17 #[gv] w fun e w' => ∃ A c, e = .returned (.slice A g.reachU.length c) ∧ g.reachU.length ≤ c ∧ c ≤ maxLen ∧ IntsO w' (fun k => w.heap.size ≤ k ∧ k < w'.heap.size) (g.reachU.map Int.ofNat) A ∧ Below w.heap.size w w' := by
  unfold RGr.reachU
  cases hok : g.ok with
  | true => simp only [if_true]; exact greach_r w S g gv hok hS he
  | false =>
    simp only [Bool.false_eq_true, if_false]
    refine (greach_no w S g gv hok hS he).mono ?_
    rintro e w' ⟨rfl, hb⟩
    exact ⟨none, 0, rfl, Nat.le_refl _, Nat.zero_le _, trivial, hb⟩

def RGr.fr (g : RGr) (a : Nat) : Bool := (g.nodes.getD a ⟨0, ⟨#[]⟩, [], [], false⟩).free
theorem RGr.fr_eq (g : RGr) (a : Nat) (h : a < g.nodes.length) : g.fr a = g.nodes[a].free := by
  unfold RGr.fr
  rw [List.getD_eq_getElem?_getD, List.getElem?_eq_getElem h]
  rfl

set_option maxRecDepth 100000 in
set_option maxHeartbeats 2000000 in
theorem gfree_r (w : World) (S : Nat → Prop) (g : RGr) (gv : Value) (hS : ∀ k, S k → k < w.heap.size) (he : GrV w S g gv) :
    Calls Try.prog 19 #[gv] w fun e w' => ∃ A c, e = .returned (.slice A (g.reachU.filter g.fr).length c) ∧ (g.reachU.filter g.fr).length ≤ c ∧ c ≤ maxLen ∧
      IntsO w' (fun k => w.heap.size ≤ k ∧ k < w'.heap.size) ((g.reachU.filter g.fr).map Int.ofNat) A ∧ Below w.heap.size w w' := by
  obtain ⟨A, cN, hgv, hcN, hcN9, oN⟩ := he
  subst hgv
  have HON := Lib.hid oN
  have HS := Lib.hid hS
  obtain ⟨i0, hi, hz0, hz1, hz2⟩ := info_parts infoInt
  obtain ⟨w1, hw1⟩ : ∃ w1, w1 = w.alloc (.cells #[.slice A g.nodes.length cN, .int .i64 g.root] 24) := ⟨_, rfl⟩
  have hsz1 : w1.heap.size = w.heap.size + 1 := by rw [hw1]; simp
  have hb1 : Below w.heap.size w w1 := by rw [hw1]; exact (Below.refl _ _).alloc (Nat.le_refl _) _
  have hbw : ∀ W, Below w1.heap.size w1 W → Below w.heap.size w W := fun W hW => hb1.trans (hW.mono (by omega))
  have hrow : ∀ W, Below w1.heap.size w1 W → ∀ j, W.cell? ⟨w.heap.size, j, none⟩ = (#[.slice A g.nodes.length cN, .int .i64 g.root] : Array Value)[j]? := fun W hW j =>
    cell_of_row W w.heap.size j _ _ _ ((hW.block w.heap.size (by omega)).trans (by rw [hw1]; exact heap_alloc_new w _))
  have hlt : ∀ W, Below w1.heap.size w1 W → ∀ k, S k → k < W.heap.size := fun W hW k hk => Nat.lt_of_lt_of_le (HS.out k hk) (hbw W hW).size
  have hgr : GrV w1 S g (.agg #[.slice A g.nodes.length cN, .int .i64 g.root]) := ⟨A, cN, rfl, hcN, hcN9, NdsO.keep (fun k hk => ⟨hk, hb1.block k (HS.out k hk)⟩) _ _ HON.out⟩
  obtain ⟨L, hL⟩ : ∃ L, L = g.reachU := ⟨_, rfl⟩
  have hreach := greach_u w1 S g _ (hlt w1 (Below.refl _ _)) hgr
  rw [← hL] at hreach ⊢
  have hLl : (∀ x, x ∈ L → x < g.nodes.length) ∧ L.length ≤ 1048576 := by
    rw [hL]
    exact ⟨(reachU_lt g).1, reachU_len g⟩
  have HLl := Lib.hid hLl.1
  have hLn := hLl.2
  have HReach := Lib.hid hreach
  have HRow := Lib.hid hrow
  have HBw := Lib.hid hbw
  clear hS oN hrow hbw hlt hb1 hgr hreach hLl hL
  unfold maxLen at hcN9
  go_enter Try.func19, Try.ntmps19
  go_wp2_with fail
  rw [← hw1]
  clear hw1
  refine HReach.out.mono ?_
  rintro e w2 ⟨A2, c2, rfl, hc2, hc29, hI2, hb2⟩
  have HI2 := Lib.hid hI2
  have HB2 := Lib.hid hb2
  have hz2' := hb2.size
  unfold maxLen at hc29
  clear hI2 hb2 HReach
  go_wp2_with fail
  go_loopw [3, 5, 9] (fun s _ i wr => ∃ (k : Nat) (es : List Nat), i = .int .i64 k ∧ k ≤ L.length ∧ es ++ (L.drop k).filter g.fr = L.filter g.fr ∧ RowG srtI 3 w2.heap.size wr (fun _ => False) s (es.map Int.ofNat) ∧ Below w2.heap.size w2 wr) (fun _ _ i _ => L.length - (intOf i).toNat)
  case atStart => exact ⟨0, [], rfl, Nat.zero_le _, by rw [List.drop_zero, List.nil_append], RowG.nil _ _ _, Below.refl _ _⟩
  case round =>
    obtain ⟨k, es, rfl, hk, hq, hrw, hb⟩ := hrel
    have HQ := Lib.hid hq
    have HR := Lib.hid hrw
    have HB := Lib.hid hb
    have hb1 := HB2.out.trans (hb.mono HB2.out.size)
    have HBa := Lib.hid hb1
    clear hq hrw hb hb1
    by_cases hlt : k < L.length
    · obtain ⟨b2, o2, rfl, _, hcell⟩ := IntsO.get _ _ (IntsO.keep (S' := fun k => k < w2.heap.size) (fun k hk => ⟨hk.2, HB.out.block k hk.2⟩) _ _ HI2.out) k (by simpa using hlt)
      rw [List.getElem_map] at hcell
      obtain ⟨y, hy⟩ : ∃ y, y = L[k] := ⟨_, rfl⟩
      have hyN : y < g.nodes.length := HLl.out y (by rw [hy]; exact List.getElem_mem hlt)
      have hd : (L.drop k).filter g.fr = (if g.fr y = true then [y] else []) ++ (L.drop (k + 1)).filter g.fr := by
        rw [List.drop_eq_getElem_cons hlt, ← hy, List.filter_cons]
        split <;> rfl
      rw [← hy] at hcell
      have hcell' : wr.cell? ⟨b2, o2 + k, none⟩ = some (.int .i64 y) := hcell
      have hfr := g.fr_eq y hyN
      obtain ⟨b, o, rfl, hnp⟩ := NdsO.get _ _ (NdsO.keep (S' := S) (fun k hk => ⟨hk, (HBw.out _ HBa.out).block k (HS.out k hk)⟩) _ _ HON.out) y hyN
      obtain ⟨x, hx⟩ : ∃ x, x = g.nodes[y] := ⟨_, rfl⟩
      rw [← hx] at hnp hfr
      obtain ⟨xA, yA, xL, yL, f0, f1, f2, f3, f4, hvv⟩ := hnp.val
      have c0 := HRow.out wr HBa.out 0
      have c1 := HRow.out wr HBa.out 1
      have hq := HQ.out
      rw [hd, hfr] at hq
      clear hcell hd hx hnp hvv hy hfr
      rcases hfx : x.free with _ | _
      · rw [hfx] at hq
        have HQ' := Lib.hid (by simpa using hq : es ++ (L.drop (k + 1)).filter g.fr = L.filter g.fr)
        have HFX := Lib.hid hfx
        clear hq hfx
        go_wp2_with (go_at_call 31; refine (isFree_r _ x xA xL _ _ _ _).mono ?_; rw [HFX.out]; rintro e w5 ⟨rfl, hb5⟩; have HB5 := Lib.hid hb5; clear hb5)
        go_roundw
        case rel => exact ⟨k + 1, es, by go_num, by omega, HQ'.out, HR.out.keep (F := fun _ => False) (Keeps.of_below0 HB5.out) (fun _ e _ => e.elim), HB.out.trans (HB5.out.mono HB.out.size)⟩
        case measure => simp [intOf]; omega
      · rw [hfx] at hq
        have hq' : (es ++ [y]) ++ (L.drop (k + 1)).filter g.fr = L.filter g.fr := by rw [← hq]; simp
        have hel : (es.map Int.ofNat).length + [(y : Int)].length ≤ 2000000 := by
          have h1 := congrArg List.length hq'
          have h2 := List.length_filter_le g.fr L
          simp only [List.length_append, List.length_singleton] at h1
          simp only [List.length_map, List.length_singleton]
          omega
        have HEl := Lib.hid hel
        have HQ' := Lib.hid hq'
        have HFX := Lib.hid hfx
        clear hq hq' hfx hel
        go_wp2_with (first | (go_at_call 31; refine (isFree_r _ x xA xL _ _ _ _).mono ?_; rw [HFX.out]; rintro e w5 ⟨rfl, hb5⟩; have HB5 := Lib.hid hb5; have HRow5 := Lib.hid (HR.out.keep (F := fun _ => False) ((Keeps.of_below0 hb5).alloc (.cells #[.int .i64 y] 3)) (fun _ e _ => e.elim)); have HIt5 := Lib.hid (Items.one srtI (w := w5.alloc (.cells #[.int .i64 y] 3)) (S := fun _ => False) (a := (y : Int)) (v := .int .i64 y) rfl); have hz5 : w2.heap.size ≤ w5.heap.size := Nat.le_trans HB.out.size hb5.size; clear hb5) | (at_builtin; go_loud (refine wpList_grow (T := srtI) (ms := [(y : Int)]) rfl (.tmp 19) (.tmp 21) 31 3 rfl i0 _ 8 Try.underlying31 hi hz0 hz1 hz2 rfl rfl HRow5.out ⟨w5.heap.size, 0, none⟩ 1 [.int .i64 y] rfl (fun j u hj => gcell_new _ _ _ _ rfl j u hj) HIt5.out HEl.out (by decide) ?_ (by simp) ?_; (· simp; omega)); intro v6 w6 hrow6 hk6 hb6; have HRow6 := Lib.hid hrow6; have HB6 := Lib.hid ((HB.out.trans ((HB5.out.alloc (Nat.le_trans (Nat.le_refl _) HB5.out.size) (.cells #[.int .i64 y] 3)).mono HB.out.size)).trans (hk6.below (by simp; omega) (fun i hi e => by have := (HRow5.out.block e).1; omega))); clear hrow6 hk6 hb6))
        go_roundw
        case rel => exact ⟨k + 1, es ++ [y], by go_num, by omega, HQ'.out, by have h := HRow6.out; rw [List.map_append]; exact h, HB6.out⟩
        case measure => simp [intOf]; omega
    · have hk' : k = L.length := by omega
      have hes : es = L.filter g.fr := by have h := HQ.out; rw [hk', List.drop_length] at h; simpa using h
      clear hk'
      obtain ⟨A9, c9, rfl, h1, h2, h3⟩ := HR.out.ints (S' := fun k => w.heap.size ≤ k ∧ k < wr.heap.size) (fun _ e => e.elim) (fun k h1 h2 => ⟨by have := HB2.out.size; omega, h2⟩)
      rw [List.length_map, hes] at h1
      rw [hes] at h3
      rw [List.length_map, hes]
      go_wp2
      go_ret
      exact ⟨A9, c9, rfl, h1, h2, h3, HBw.out _ HBa.out⟩
end Go.Proofs.Ytipehahfbcbigaa

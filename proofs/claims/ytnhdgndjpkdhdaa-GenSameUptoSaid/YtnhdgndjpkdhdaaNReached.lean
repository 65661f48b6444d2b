/-
  gen.reached, gen.leading.
-/
import Derived.Test.YtnhdgndjpkdhdaaNCheck
namespace Go.Proofs.Ytnhdgndjpkdhdaa
open Go.RowKit Go.Shelf

set_option maxRecDepth 100000 in
set_option maxHeartbeats 1000000 in
theorem reached1_r (W : World) (S : Nat → Prop) (g : RGr) (A : Option Addr) (c Bx x : Nat) (hok : g.ok = true) (hb : W.cell? ⟨Bx, 0, none⟩ = some (.slice A g.nodes.length c)) (hA : NdsO W S g.nodes A) (hx : x < g.nodes.length) :
    Calls Try.prog 43 #[.int .i64 (x : Nat), .pointer (some ⟨Bx, 0, none⟩)] W fun e w' => ∃ A' c', e = .returned (.slice A' (g.fa x).length c') ∧ (g.fa x).length ≤ c' ∧ c' ≤ maxLen ∧ IntsO w' S ((g.fa x).map Int.ofNat) A' ∧ Below W.heap.size W w' := by
  obtain ⟨b1, o1, rfl, p1⟩ := NdsO.get _ _ hA x hx
  have hfa := fa_args hok x hx
  obtain ⟨X, hX⟩ : ∃ X, X = g.nodes[x] := ⟨_, rfl⟩
  rw [← hX] at p1 hfa
  obtain ⟨xA, xB, xL, xM, f0, f1, f2, f3, f4, h1, h2, h3, h4, h5, h6, h7, h8⟩ := p1.val
  obtain ⟨l, hl⟩ : ∃ l, l = g.fa x := ⟨_, rfl⟩
  rw [← hl] at hfa ⊢
  rw [hfa] at f2 h2 h6
  rw [List.length_map] at f2 h2
  have H6 := Lib.hid h6
  have H3 := Lib.hid h3
  unfold maxLen at h3
  clear hX p1 f0 f1 f3 f4 h1 h4 h5 h6 h7 h8 hfa hl hA
  go_enter Try.func43, Try.ntmps43
  go_wp2
  go_ret
  exact ⟨xA, xB, rfl, h2, H3.out, H6.out, Below.refl _ _⟩

set_option maxRecDepth 100000 in
set_option maxHeartbeats 1000000 in
theorem reached_r (w : World) (S S2 : Nat → Prop) (g : RGr) (A : Option Addr) (c : Nat) (M : List Nat) (mA : Option Addr) (mc : Nat) (hok : g.ok = true) (hS : ∀ k, S k → k < w.heap.size) (hA : NdsO w S g.nodes A) (_hc : g.nodes.length ≤ c) (_hcm : c ≤ maxLen)
    (hM : ∀ m, m ∈ M → m < g.nodes.length) (hS2 : ∀ k, S2 k → k < w.heap.size) (hI : IntsO w S2 (M.map Int.ofNat) mA) (hmc : M.length ≤ mc) (hmm : mc ≤ maxLen) :
    Calls Try.prog 24 #[.slice A g.nodes.length c, .slice mA M.length mc] w fun e w' => ∃ B out, e = .returned (.slice (some ⟨B, 0, none⟩) g.nodes.length g.nodes.length) ∧ w.heap.size ≤ B ∧ MetAt w' B g.nodes.length out ∧ (∀ x, x ∈ out ↔ ∃ m, m ∈ M ∧ G.Way g.fa m x) ∧ Below w.heap.size w w' := by
  have hN := RGr.ok_len hok
  have eg : ∀ args w, (callFunc 43 args).run Try.prog w = .ok (.enter 43 args) w := enters_of Try.func43 (by kernel_rfl) rfl
  obtain ⟨w1, hw1⟩ : ∃ w1, w1 = w.alloc (.cells #[.slice A g.nodes.length c] 22) := ⟨_, rfl⟩
  have hsz1 : w1.heap.size = w.heap.size + 1 := by rw [hw1]; simp
  have hb1 : Below w.heap.size w w1 := by rw [hw1]; exact (Below.refl _ _).alloc (Nat.le_refl _) _
  have hq1 : Blk w1 w.heap.size (.cells #[.slice A g.nodes.length c] 22 (0, 0)) := by rw [hw1]; exact Blk.new' _ _ _ rfl
  have hz1 : ∀ k, S k → k < w1.heap.size := fun k hk => by have := hS k hk; omega
  have hz2 : ∀ k, S2 k → k < w1.heap.size := fun k hk => by have := hS2 k hk; omega
  have hA1 := NdsO.keep (fun k hk => ⟨hk, hb1.block k (hS k hk)⟩) _ _ hA
  have hsp := spread_r w1 43 #[.pointer (some ⟨w.heap.size, 0, none⟩)] g.fa g.nodes.length S S2 M mA mc eg (by omega) hM (IntsO.keep (fun k hk => ⟨hk, hb1.block k (hS2 k hk)⟩) _ _ hI) hmc hmm hz2 (fa_lt hok) hz1 (fun W hW x hx => by
    show Calls Try.prog 43 #[.int .i64 (x : Nat), .pointer (some ⟨w.heap.size, 0, none⟩)] W _
    exact reached1_r W S g A c w.heap.size x hok ((hW.cell (p := ⟨w.heap.size, 0, none⟩) (by simp only; omega)).trans (hq1.cells.1 0)) (NdsO.keep (fun k hk => ⟨hk, hW.block k (hz1 k hk)⟩) _ _ hA1) hx)
  have HSp := Lib.hid hsp
  have HB1 := Lib.hid hb1
  have c0 := hq1.cells.1 0
  unfold maxLen at _hcm hmm
  clear hM hI hS hS2 hA hA1 hz1 hz2 hsp hb1 hq1 eg
  go_enter Try.func24, Try.ntmps24
  go_wp2_with fail
  rw [← hw1]
  clear hw1
  go_wp2_with (go_at_call 42; refine HSp.out.mono ?_; rintro e w2 ⟨B, out, rfl, g1, g2, g3, g4⟩; have G2 := Lib.hid g2; have G3 := Lib.hid g3; have G4 := Lib.hid g4; clear g2 g3 g4)
  go_ret
  exact ⟨B, out, rfl, by omega, G2.out, G3.out, HB1.out.trans (G4.out.mono (by omega))⟩

theorem NumAt.part {w : World} {b N y n : Nat} {f : Nat → Nat} (h : NumAt w b N f) (hn : y + n ≤ N) : IntsO w (fun k => k = b) (((List.range n).map fun r => f (y + r)).map Int.ofNat) (some ⟨b, y, none⟩) := by
  refine intsO_cells (S := fun k => k = b) rfl _ _ fun j u hu => ?_
  rw [List.getElem?_map, List.getElem?_map] at hu
  rcases Nat.lt_or_ge j n with hj | hj
  · rw [List.getElem?_range hj] at hu
    simp only [Option.map_some, Option.some.injEq] at hu
    subst hu
    exact (h.cell (y + j) (by omega)).1
  · rw [List.getElem?_eq_none (by simpa using hj)] at hu
    cases hu

set_option maxRecDepth 100000 in
set_option maxHeartbeats 1000000 in
theorem leading1_r (W : World) (b1 b2 P1 P2 N E x : Nat) (f gm : Nat → Nat) (hf : NumAt W b1 (N + 2) f) (hg : NumAt W b2 E gm) (h1 : W.cell? ⟨P1, 0, none⟩ = some (.slice (some ⟨b1, 0, none⟩) (N + 1) (N + 2))) (h2 : W.cell? ⟨P2, 0, none⟩ = some (.slice (some ⟨b2, 0, none⟩) E E))
    (hx : x < N) (hN : N ≤ 2000000) (hE : E ≤ 4000000) (h3 : f x ≤ f (x + 1)) (h4 : f (x + 1) ≤ E) :
    Calls Try.prog 48 #[.int .i64 (x : Nat), .pointer (some ⟨P2, 0, none⟩), .pointer (some ⟨P1, 0, none⟩)] W fun e w' => ∃ A' c', e = .returned (.slice A' ((List.range (f (x + 1) - f x)).map fun r => gm (f x + r)).length c') ∧ ((List.range (f (x + 1) - f x)).map fun r => gm (f x + r)).length ≤ c' ∧ c' ≤ maxLen ∧ IntsO w' (fun k => k = b2) (((List.range (f (x + 1) - f x)).map fun r => gm (f x + r)).map Int.ofNat) A' ∧ Below W.heap.size W w' := by
  obtain ⟨m1, m2⟩ := hf.cell x (by omega)
  obtain ⟨m3, m4⟩ := hf.cell (x + 1) (by omega)
  have HG := Lib.hid hg
  obtain ⟨y1, hy1⟩ : ∃ y, y = f x := ⟨_, rfl⟩
  obtain ⟨y2, hy2⟩ : ∃ y, y = f (x + 1) := ⟨_, rfl⟩
  rw [← hy1] at m1 h3 ⊢
  rw [← hy2] at m3 h3 h4 ⊢
  obtain ⟨l, hl⟩ : ∃ l, l = (List.range (y2 - y1)).map fun r => gm (y1 + r) := ⟨_, rfl⟩
  have hll : l.length = y2 - y1 := by rw [hl]; simp
  rw [← hl]
  have HLL := Lib.hid hll
  have HLe := Lib.hid hl
  clear hf hg hy1 hy2 hll hl
  go_enter Try.func48, Try.ntmps48
  go_wp2
  go_region
  all_goals go_wp2
  all_goals go_ret
  · have he : y2 - y1 = 0 := by omega
    refine ⟨some ⟨b2, 0, none⟩, 0, by rw [HLL.out]; rfl, by rw [HLL.out]; omega, by decide, ?_, (Below.refl _ _).drew⟩
    have : l = [] := by rw [HLe.out, he]; rfl
    rw [this]
    exact trivial
  · refine ⟨some ⟨b2, y1, none⟩, E - y1, by rw [HLL.out]; rfl, by rw [HLL.out]; omega, by unfold maxLen; omega, ?_, (Below.refl _ _).drew⟩
    rw [HLe.out]
    have hg : NumAt W.drew b2 E gm := HG.out
    exact NumAt.part (y := y1) (n := y2 - y1) hg (by omega)

set_option maxRecDepth 100000 in
set_option maxHeartbeats 1000000 in
theorem leading_r (w : World) (S S2 : Nat → Prop) (g : RGr) (A : Option Addr) (c : Nat) (M : List Nat) (mA : Option Addr) (mc : Nat) (hok : g.ok = true) (hE : g.es.length ≤ 4000000) (hS : ∀ k, S k → k < w.heap.size) (hA : NdsO w S g.nodes A) (hc : g.nodes.length ≤ c) (hcm : c ≤ maxLen)
    (hM : ∀ m, m ∈ M → m < g.nodes.length) (hS2 : ∀ k, S2 k → k < w.heap.size) (hI : IntsO w S2 (M.map Int.ofNat) mA) (hmc : M.length ≤ mc) (hmm : mc ≤ maxLen) :
    Calls Try.prog 30 #[.slice A g.nodes.length c, .slice mA M.length mc] w fun e w' => ∃ B out, e = .returned (.slice (some ⟨B, 0, none⟩) g.nodes.length g.nodes.length) ∧ w.heap.size ≤ B ∧ MetAt w' B g.nodes.length out ∧ (∀ x, x < g.nodes.length → (x ∈ out ↔ ∃ m, m ∈ M ∧ G.Way g.fa x m)) ∧ Below w.heap.size w w' := by
  have hN := RGr.ok_len hok
  have eg : ∀ args w, (callFunc 48 args).run Try.prog w = .ok (.enter 48 args) w := enters_of Try.func48 (by kernel_rfl) rfl
  have hback := back_r w S g A c hok hE hS hA hc hcm
  have HBack := Lib.hid hback
  have HI := Lib.hid hI
  have HM := Lib.hid hM
  have HS2 := Lib.hid hS2
  have HOk := Lib.hid hok
  have HEg := Lib.hid eg
  have hcm' := hcm
  have hmm' := hmm
  unfold maxLen at hcm' hmm'
  clear hback hI hS2 hS hA hok eg hM
  go_enter Try.func30, Try.ntmps30
  go_wp2_with fail
  refine HBack.out.mono ?_
  rintro e w2 ⟨b2, gm, hb2, rfl, g1, g2, g3, g4⟩
  obtain ⟨w4, hw4⟩ : ∃ w4, w4 = (w2.alloc (.cells #[.slice (some ⟨w.heap.size, 0, none⟩) (g.nodes.length + 1) (g.nodes.length + 2)] 25)).alloc (.cells #[.slice (some ⟨b2, 0, none⟩) g.es.length g.es.length] 25) := ⟨_, rfl⟩
  have hb24 : Below w2.heap.size w2 w4 := by rw [hw4]; exact ((Below.refl _ w2).alloc (Nat.le_refl _) _).alloc (by simp) _
  have hz24 : w4.heap.size = w2.heap.size + 2 := by rw [hw4]; simp
  have q1 : Blk w4 w2.heap.size (.cells #[.slice (some ⟨w.heap.size, 0, none⟩) (g.nodes.length + 1) (g.nodes.length + 2)] 25 (0, 0)) := by rw [hw4]; exact (Blk.new' _ _ _ rfl).alloc _
  have q2 : Blk w4 (w2.heap.size + 1) (.cells #[.slice (some ⟨b2, 0, none⟩) g.es.length g.es.length] 25 (0, 0)) := by rw [hw4]; exact Blk.new' _ _ _ (by simp)
  have hb4 : Below w.heap.size w w4 := g4.trans (hb24.mono g4.size)
  have n1 : NumAt w4 w.heap.size (g.nodes.length + 2) (G.fst1 g.es g.es) := (hb24.block _ g1.lt).trans g1
  have n2 : NumAt w4 b2 g.es.length gm := (hb24.block _ g2.lt).trans g2
  have hz2 : ∀ k, S2 k → k < w4.heap.size := fun k hk => Nat.lt_of_lt_of_le (HS2.out k hk) hb4.size
  obtain ⟨bk, hbk⟩ : ∃ bk : Nat → List Nat, bk = fun x => (List.range (G.fst1 g.es g.es (x + 1) - G.fst1 g.es g.es x)).map fun r => gm (G.fst1 g.es g.es x + r) := ⟨_, rfl⟩
  have hbm : ∀ x y, y ∈ bk x ↔ (x, y) ∈ g.es := fun x y => by
    rw [hbk]
    simp only [G.fst1_all]
    exact G.put_mem g3 x y
  have hbe : ∀ x y, y < g.nodes.length → (y ∈ bk x ↔ x ∈ g.fa y) := fun x y hy => by
    rw [hbm]
    unfold RGr.es
    rw [G.mem_edges]
    exact ⟨fun h => h.2, fun h => ⟨hy, h⟩⟩
  have hbl : ∀ a, a < g.nodes.length → ∀ y, y ∈ bk a → y < g.nodes.length := fun a _ y hy => by
    rw [hbm] at hy
    exact (G.mem_edges.1 hy).1
  have hsp := spread_r w4 48 #[.pointer (some ⟨w2.heap.size + 1, 0, none⟩), .pointer (some ⟨w2.heap.size, 0, none⟩)] bk g.nodes.length (fun k => k = b2) S2 M mA mc HEg.out (by omega) HM.out (IntsO.keep (fun k hk => ⟨hk, hb4.block k (HS2.out k hk)⟩) _ _ HI.out) hmc hmm hz2 hbl (fun k hk => by rw [hk]; exact n2.lt) (fun W hW x hx => by
    show Calls Try.prog 48 #[.int .i64 (x : Nat), .pointer (some ⟨w2.heap.size + 1, 0, none⟩), .pointer (some ⟨w2.heap.size, 0, none⟩)] W _
    have h := leading1_r W w.heap.size b2 w2.heap.size (w2.heap.size + 1) g.nodes.length g.es.length x (G.fst1 g.es g.es) gm ((hW.block _ n1.lt).trans n1) ((hW.block _ n2.lt).trans n2) ((hW.cell (p := ⟨w2.heap.size, 0, none⟩) (by simp only; omega)).trans (q1.cells.1 0)) ((hW.cell (p := ⟨w2.heap.size + 1, 0, none⟩) (by simp only; omega)).trans (q2.cells.1 0)) hx (by omega) hE (by rw [G.fst1_all, G.fst1_all]; exact G.under_le (by omega)) (by rw [G.fst1_all]; exact G.under_len)
    rw [hbk]
    exact h)
  have hway : ∀ out : List Nat, (∀ x, x ∈ out ↔ ∃ m, m ∈ M ∧ G.Way bk m x) → ∀ x, x < g.nodes.length → (x ∈ out ↔ ∃ m, m ∈ M ∧ G.Way g.fa x m) := fun out ho x hx => by
    rw [ho]
    constructor
    · rintro ⟨m, hm, h⟩
      exact ⟨m, hm, G.Way.back (f := bk) (g := g.fa) hbl (fun a b ha hb => (hbe a b hb).symm) (HM.out m hm) h⟩
    · rintro ⟨m, hm, h⟩
      exact ⟨m, hm, G.Way.back (f := g.fa) (g := bk) (fa_lt HOk.out) (fun a b ha hb => hbe b a ha) hx h⟩
  have HSp := Lib.hid hsp
  have HWay := Lib.hid hway
  have HB4 := Lib.hid hb4
  clear g1 g2 g3 g4 hb24 q1 q2 hb4 n1 n2 hz2 hbk hbm hbe hbl hsp hway
  go_wp2_with fail
  rw [← hw4]
  clear hw4
  refine HSp.out.mono ?_
  rintro e w5 ⟨B, out, rfl, g1, g2, g3, g4⟩
  have G2 := Lib.hid g2
  have G3 := Lib.hid g3
  have G4 := Lib.hid g4
  have hBz := HB4.out.size
  clear g2 g3 g4
  go_wp2
  go_ret
  exact ⟨B, out, rfl, by omega, G2.out, HWay.out out G3.out, HB4.out.trans (G4.out.mono HB4.out.size)⟩
end Go.Proofs.Ytnhdgndjpkdhdaa

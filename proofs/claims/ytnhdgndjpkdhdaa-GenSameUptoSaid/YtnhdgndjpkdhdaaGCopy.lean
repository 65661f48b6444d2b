/-
  trefoilref06.Copy.
-/
import Derived.Test.YtnhdgndjpkdhdaaGEqual
import Derived.Test.YtnhdgndjpkdhdaaGCat
import Derived.Deep.RegionLaw
namespace Go.Proofs.Ytnhdgndjpkdhdaa
open Go.RowKit

theorem infoStr : (Try.prog.info? 9).map (fun i => (i.zero, i.size, i.bytes)) = some (some (.string ⟨#[]⟩), 1, 16) := by kernel_rfl

theorem RowG.empty {α : Type} {T : Srt α} {t : TypeId} {base g : Nat} {W : World} (hg : W.heap[g]? = some (.cells #[] t (0, 0))) (hb : base ≤ g) : RowG T t base W (fun _ => False) (.slice (some ⟨g, 0, none⟩) 0 0) [] :=
  ⟨⟨[], ⟨by simp, .inr ⟨g, 0, #[], rfl, hb, hg, Nat.le_refl _, Nat.zero_le _, by simp, by simp⟩⟩, rfl⟩, fun _ h => h.elim, fun _ h => h.elim⟩
theorem items_strs_any {w w' : World} {S S' : Nat → Prop} : ∀ (l : List ByteArray) (xs : List Value), Items srtS w S l xs → Items srtS w' S' l xs
  | [], _, h => h
  | _ :: r, _, ⟨v, ys, h1, h2, h3⟩ => ⟨v, ys, h1, h2, items_strs_any r ys h3⟩
theorem LiesAt.strs_any {w : World} {S S' : Nat → Prop} {l : List ByteArray} {A : Option Addr} (h : LiesAt srtS w S l A) : LiesAt srtS w S' l A := by
  rcases h with h | ⟨ad, h1, news, h2, h3⟩
  · exact .inl h
  · exact .inr ⟨ad, h1, news, h2, items_strs_any _ _ h3⟩

theorem BelC.setCell {w W : World} (h : BelC w W) {p : Addr} (hp : w.heap.size ≤ p.block) (u : Value) : BelC w (W.setCell p u) := Below.setCell h hp u
theorem cut_ {P Q : Prop} (hp : P) (h : P → Q) : Q := h hp
/-- A block, and what it is. -/
def Blk (w : World) (g : Nat) (o : Obj) : Prop := w.heap[g]? = some o
theorem Blk.new' (w : World) (o : Obj) (g : Nat) (h : g = w.heap.size) : Blk (w.alloc o) g o := by subst h; exact heap_alloc_new w o
theorem Blk.alloc {w : World} {g : Nat} {o : Obj} (h : Blk w g o) (o2 : Obj) : Blk (w.alloc o2) g o := by
  have hl : g < w.heap.size := by
    rcases Nat.lt_or_ge g w.heap.size with e | e
    · exact e
    · unfold Blk at h; rw [Array.getElem?_eq_none e] at h; cases h
  exact (Below.heap_alloc _ _ _ hl).trans h
theorem Blk.cells {w : World} {g : Nat} {cs : Array Value} {t : TypeId} (h : Blk w g (.cells cs t (0, 0))) : (∀ j, w.cell? ⟨g, j, none⟩ = cs[j]?) ∧ (∀ j, w.frozen? ⟨g, j, none⟩ = false) :=
  ⟨fun j => cell_of_row w g j _ _ _ h, fun j => by unfold Blk at h; unfold World.frozen?; rw [h]; simp⟩
theorem Blk.drew {w : World} {g : Nat} {o : Obj} (h : Blk w g o) : Blk w.drew g o := h

theorem Blk.lt {w : World} {g : Nat} {o : Obj} (h : Blk w g o) : g < w.heap.size := by
  rcases Nat.lt_or_ge g w.heap.size with e | e
  · exact e
  · unfold Blk at h; rw [Array.getElem?_eq_none e] at h; cases h
theorem Blk.set {w : World} {g : Nat} {cs : Array Value} {t : TypeId} (h : Blk w g (.cells cs t (0, 0))) (j : Nat) (u : Value) : Blk (w.setCell ⟨g, j, none⟩ u) g (.cells (cs.setIfInBounds j u) t (0, 0)) := by
  unfold Blk at h ⊢
  simp [World.setCell, Array.getElem?_modify, h]

/-- The copy under way. -/
structure Cpy (wB W : World) (o : Nat) (x : RNd) (A6 : Option Addr) (c6 : Nat) (s : Value) (es : List Int) : Prop where
  bel : BelC wB W
  blk : Blk W o (.cells #[.int .i64 x.kind, .string x.name, s, .slice A6 x.labels.length c6, .bool x.op] 37 (0, 0))
  ho : wB.heap.size ≤ o
  lab : RowG srtS 9 wB.heap.size W (fun _ => False) (.slice A6 x.labels.length c6) x.labels
  row : RowG srtI 3 wB.heap.size W (fun _ => False) s es
  n1 : s.ownBlock ≠ some o
  n2 : (Value.slice A6 x.labels.length c6).ownBlock ≠ some o
  n3 : ∀ k, s.ownBlock = some k → (Value.slice A6 x.labels.length c6).ownBlock ≠ some k
section
variable {wB W W1 w' : World} {o : Nat} {x : RNd} {A6 : Option Addr} {c6 : Nat} {s v' : Value} {es : List Int} {y : Int}
theorem Cpy.drew (h : Cpy wB W o x A6 c6 s es) : Cpy wB W.drew o x A6 c6 s es :=
  ⟨h.bel.drew, h.blk, h.ho, h.lab.keep (F := fun _ => False) (Keeps.of_below0 ((Below.refl W.heap.size W).drew)) (fun _ e _ => e.elim), h.row.keep (F := fun _ => False) (Keeps.of_below0 ((Below.refl W.heap.size W).drew)) (fun _ e _ => e.elim), h.n1, h.n2, h.n3⟩
theorem Cpy.start1 {w6 : World} (hb : BelC wB w6) (hr : RowG srtS 9 wB.heap.size w6 (fun _ => False) (.slice A6 x.labels.length c6) x.labels) :
    Cpy wB (w6.alloc (.cells #[.int .i64 x.kind, .string x.name, .slice none 0 0, .slice A6 x.labels.length c6, .bool x.op] 37)) w6.heap.size x A6 c6 (.slice none 0 0) [] :=
  ⟨hb.alloc _, Blk.new' _ _ _ rfl, Below.size hb, hr.keep (F := fun _ => False) ((Keeps.refl _ _).alloc _) (fun _ e _ => e.elim), RowG.nil _ _ _, by simp [Value.ownBlock], fun e => by have := (hr.block e).2; omega, by simp [Value.ownBlock]⟩
theorem Cpy.start2 {w6 : World} (hb : BelC wB w6) (hq : Blk w6 o (.cells #[.int .i64 0, .string ⟨#[]⟩, .slice none 0 0, .slice none 0 0, .bool false] 37 (0, 0))) (hr : RowG srtS 9 wB.heap.size w6 (fun _ => False) (.slice A6 x.labels.length c6) x.labels) (ho : wB.heap.size ≤ o) (hn : (Value.slice A6 x.labels.length c6).ownBlock ≠ some o) :
    Cpy wB (((((w6.setCell ⟨o, 0, none⟩ (.int .i64 x.kind)).setCell ⟨o, 1, none⟩ (.string x.name)).setCell ⟨o, 2, none⟩ (.slice none 0 0)).setCell ⟨o, 3, none⟩ (.slice A6 x.labels.length c6)).setCell ⟨o, 4, none⟩ (.bool x.op)) o x A6 c6 (.slice none 0 0) [] := by
  refine ⟨?_, ((((hq.set 0 _).set 1 _).set 2 _).set 3 _).set 4 _, ho, ?_, RowG.nil _ _ _, by simp [Value.ownBlock], hn, by simp [Value.ownBlock]⟩
  · exact ((((hb.setCell ho _).setCell ho _).setCell ho _).setCell ho _).setCell ho _
  · refine hr.keep (F := fun k => o = k) ?_ (fun k e _ => ⟨by subst e; exact hn, id⟩)
    repeat (first | with_reducible exact Keeps.refl _ _ | refine Keeps.setCell ?_ (fun _ => by rfl) _)
theorem Cpy.step (h : Cpy wB W o x A6 c6 s es) (hb : Below W.heap.size W W1) (hr : RowG srtI 3 wB.heap.size w' (fun _ => False) v' (es ++ [y])) (hk : Keeps (fun k => s.ownBlock = some k) W1 w') (hv : v'.ownBlock = s.ownBlock ∨ v'.ownBlock = some W1.heap.size) :
    Cpy wB (w'.setCell ⟨o, 2, none⟩ v') o x A6 c6 v' (es ++ [y]) := by
  have z1 := hb.size
  have z2 := hk.size
  have zo := h.blk.lt
  have zB := Below.size h.bel
  have n1' : v'.ownBlock ≠ some o := by
    rcases hv with e | e
    · rw [e]; exact h.n1
    · rw [e]; intro e'; injection e' with e'; omega
  have n3' : ∀ k, v'.ownBlock = some k → (Value.slice A6 x.labels.length c6).ownBlock ≠ some k := by
    intro k hk' e
    rcases hv with e2 | e2
    · exact h.n3 k (e2 ▸ hk') e
    · have h1 := (h.lab.block e).2
      rw [e2] at hk'
      injection hk' with hk'
      omega
  have b1 : Blk w' o (.cells #[.int .i64 x.kind, .string x.name, s, .slice A6 x.labels.length c6, .bool x.op] 37 (0, 0)) :=
    (hk.block o (by omega) (fun e => h.n1 e)).trans ((hb.block o zo).trans h.blk)
  refine ⟨?_, b1.set 2 v', h.ho, ?_, ?_, n1', h.n2, n3'⟩
  · refine BelC.setCell (Below.trans h.bel ((hb.mono zB).trans (hk.below (by omega) (fun i hi e => ?_)))) h.ho _
    have := (h.row.block e).1
    omega
  · have k1 : Keeps (fun k => s.ownBlock = some k ∨ k = o) W (w'.setCell ⟨o, 2, none⟩ v') := ((Keeps.of_below0 hb).trans (hk.mono (fun i _ e => .inl e))).setCell (p := ⟨o, 2, none⟩) (fun _ => .inr rfl) _
    refine h.lab.keep k1 (fun k e _ => ⟨?_, id⟩)
    rcases e with e | rfl
    · exact h.n3 k e
    · exact h.n2
  · exact hr.keep (F := fun k => o = k) ((Keeps.refl _ w').setCell (p := ⟨o, 2, none⟩) (fun _ => rfl) _) (fun k e _ => ⟨by subst e; exact n1', id⟩)
theorem Cpy.done {W' : World} {B k sc : Nat} {sA : Option Addr} {ys : List Int} (h : Cpy wB W o x A6 c6 (.slice sA k sc) ys) (hk : Keeps (fun k => k < wB.heap.size) W W') (hB : B ≤ wB.heap.size) (hn : x.name.size ≤ maxLen) :
    NdV W' (fun k => B ≤ k ∧ k < W'.heap.size) ⟨x.kind, x.name, ys, x.labels, x.op⟩ (.agg #[.int .i64 x.kind, .string x.name, .slice sA k sc, .slice A6 x.labels.length c6, .bool x.op]) := by
  have h1 := h.row.keep hk (fun i e _ => ⟨fun e' => by have := (h.row.block e').1; omega, id⟩)
  have h2 := h.lab.keep hk (fun i e _ => ⟨fun e' => by have := (h.lab.block e').1; omega, id⟩)
  obtain ⟨a, c, e1, q1, q2, q3⟩ := h1.ints (S' := fun k => B ≤ k ∧ k < W'.heap.size) (fun _ e => e.elim) (fun i hi hj => ⟨by omega, hj⟩)
  obtain ⟨a', c', e2, r1, r2, r3⟩ := h2.strs (S' := fun k => B ≤ k ∧ k < W'.heap.size) (fun _ e => e.elim) (fun i hi hj => ⟨by omega, hj⟩)
  simp only [Value.slice.injEq] at e1 e2
  obtain ⟨rfl, rfl, rfl⟩ := e1
  obtain ⟨rfl, _, rfl⟩ := e2
  exact ⟨_, _, _, _, rfl, hn, q1, q2, r1, r2, q3, r3⟩
end

set_option maxRecDepth 100000 in
set_option maxHeartbeats 2000000 in
theorem gcopy_r (w : World) (S S2 : Nat → Prop) (x : RNd) (xv : Value) (to : List Int) (tA : Option Addr) (tc : Nat) (ys : List Int) (hS : ∀ k, S k → k < w.heap.size) (hS2 : ∀ k, S2 k → k < w.heap.size) (hx : NdV w S x xv) (ht : IntsO w S2 to tA) (_htc : to.length ≤ tc) (_htm : tc ≤ maxLen)
    (hA : x.args.length * 8 ≤ 140737488355328) (hL : x.labels.length * 16 ≤ 140737488355328) (hy : ys.length = x.args.length) (hin : ∀ k (hk : k < x.args.length), ∃ n : Nat, x.args[k] = n ∧ ∃ hn : n < to.length, ys[k]? = some to[n]) :
    Calls Try.prog 36 #[xv, .slice tA to.length tc] w fun e w' => ∃ v', e = .returned v' ∧ NdV w' (fun k => w.heap.size ≤ k ∧ k < w'.heap.size) ⟨x.kind, x.name, ys, x.labels, x.op⟩ v' ∧ Below w.heap.size w w' := by
  obtain ⟨xA, cA, xL, cL, rfl, hx1, hx2, hx3, hx4, hx5, hx6, hx7⟩ := hx
  have H6 := Lib.hid hx6
  have H7 := Lib.hid hx7
  have HT := Lib.hid ht
  have HS := Lib.hid hS
  have HS2 := Lib.hid hS2
  have HIn := Lib.hid hin
  clear hx6 hx7 ht hS hS2 hin
  unfold maxLen at hx3 hx5
  obtain ⟨i0, hi, hz0, hz1, hz2⟩ := info_parts infoStr
  obtain ⟨j0, hj, hy0, hy1, hy2⟩ := info_parts infoInt
  obtain ⟨wB, hwB⟩ : ∃ wB, wB = (w.alloc (.cells #[.int .i64 x.kind, .string x.name, .slice xA x.args.length cA, .slice xL x.labels.length cL, .bool x.op] 37)).alloc (.cells #[.int .i64 0, .string ⟨#[]⟩, .slice none 0 0, .slice none 0 0, .bool false] 37) := ⟨_, rfl⟩
  have hBz : wB.heap.size = w.heap.size + 2 := by rw [hwB]; simp
  have hb0 : wB.heap[w.heap.size]? = some (.cells #[.int .i64 x.kind, .string x.name, .slice xA x.args.length cA, .slice xL x.labels.length cL, .bool x.op] 37 (0, 0)) := by
    rw [hwB]; exact (Below.heap_alloc _ _ _ (by simp)).trans (heap_alloc_new w _)
  have hcell : ∀ W, BelC wB W → ∀ j, W.cell? ⟨w.heap.size, j, none⟩ = (#[.int .i64 x.kind, .string x.name, .slice xA x.args.length cA, .slice xL x.labels.length cL, .bool x.op] : Array Value)[j]? := fun W hW j => cell_of_row W _ j _ _ _ ((Below.block hW _ (by omega)).trans hb0)
  have HC := Lib.hid hcell
  have hres : ∀ W, BelC wB W → Blk W (w.heap.size + 1) (.cells #[.int .i64 0, .string ⟨#[]⟩, .slice none 0 0, .slice none 0 0, .bool false] 37 (0, 0)) := fun W hW => (Below.block hW _ (by omega)).trans (by rw [hwB]; exact gheap_at _ _ _ (by simp))
  have HRes := Lib.hid hres
  clear hres
  have HBw := Lib.hid (by rw [hwB]; exact ((Below.refl _ w).alloc (Nat.le_refl _) _).alloc (by simp) _ : Below w.heap.size w wB)
  have hx0 := HC.out wB (BelC.refl _)
  go_enter Try.func36, Try.ntmps36
  go_wp2_with fail
  rw [← hwB]
  clear hb0 hcell hwB
  have hlies : ∀ W, BelC wB W → LiesAt srtS W (fun _ => False) x.labels xL := fun W hW => LiesAt.strs_any (lies_strs (StrsO.keep (S' := S) (fun k hk => ⟨hk, (HBw.out.trans (Below.mono hW HBw.out.size)).block k (HS.out k hk)⟩) _ _ H7.out))
  have HLies := Lib.hid hlies
  have hlb : x.labels.length ≤ maxLen := by unfold maxLen; omega
  clear hlies
  rename_i Q' K hKi
  have hK : ∀ (o gg : Nat) (A6 : Option Addr) (c6 : Nat) (W : World), Cpy wB W o x A6 c6 (.slice none 0 0) [] → Exit.then K Q' Exit.normal { tmps := #[.agg #[.int .i64 x.kind, .string x.name, .slice xA x.args.length cA, .slice xL x.labels.length cL, .bool x.op], .slice tA to.length tc, .pointer (some ⟨w.heap.size, 0, none⟩), undef, .pointer (some ⟨w.heap.size + 1, 0, none⟩), .pointer (some ⟨o, 0, none⟩), undef, undef,
        .pointer (some ⟨w.heap.size, 0, none⟩), .int .i64 x.kind, .pointer (some ⟨w.heap.size, 1, none⟩), .string x.name, .pointer (some ⟨w.heap.size, 4, none⟩), .bool x.op, .slice (some ⟨gg, 0, none⟩) 0 0, .pointer (some ⟨w.heap.size, 3, none⟩), .slice xL x.labels.length cL, .slice A6 x.labels.length c6,
        .agg #[.int .i64 x.kind, .string x.name, .slice none 0 0, .slice A6 x.labels.length c6, .bool x.op], undef, undef, undef, undef, undef, undef, undef, undef, undef, undef, undef, undef, undef, undef, undef, undef, undef, undef], defers := [] } W := by
    intro o gg A6 c6 W hcp
    have HCp0 := Lib.hid hcp
    have c2 := HC.out W hcp.bel 2
    clear hcp hx0
    go_wp2
    go_loopw [7, 22] (fun _ i wr => ∃ (k : Nat) (s : Value), i = .int .i64 k ∧ k ≤ x.args.length ∧ Cpy wB wr o x A6 c6 s (ys.take k)) (fun _ i _ => x.args.length - (intOf i).toNat)
    case atStart => exact ⟨0, _, rfl, Nat.zero_le _, by rw [List.take_zero]; exact HCp0.out⟩
    case round =>
      obtain ⟨k, s, rfl, hk, hcp⟩ := hrel
      have hlk : (ys.take k).length = k := by rw [List.length_take]; omega
      obtain ⟨sA, sc, hs0, hs1, hs2⟩ := hcp.row.form
      rw [hlk] at hs0 hs1
      subst hs0
      have HCp := Lib.hid hcp
      have hbw := HBw.out.trans (Below.mono hcp.bel HBw.out.size)
      have HB0 := Lib.hid hbw
      clear hcp hbw
      by_cases hlt : k < x.args.length
      · obtain ⟨b1, o1, rfl, _, d1⟩ := IntsO.get _ _ (IntsO.keep (S' := S) (fun k hk => ⟨hk, HB0.out.block k (HS.out k hk)⟩) _ _ H6.out) k hlt
        obtain ⟨n, hn, hnl, hyk⟩ := HIn.out k hlt
        rw [hn] at d1
        obtain ⟨b2, o2, rfl, _, d2⟩ := IntsO.get _ _ (IntsO.keep (S' := S2) (fun k hk => ⟨hk, HB0.out.block k (HS2.out k hk)⟩) _ _ HT.out) n hnl
        obtain ⟨y, hy0⟩ : ∃ y, y = to[n] := ⟨_, rfl⟩
        rw [← hy0] at d2 hyk
        have hty : ys.take (k + 1) = ys.take k ++ [y] := by
          rw [List.take_add_one, hyk]; rfl
        have HTy := Lib.hid hty
        obtain ⟨f1, f2⟩ := HCp.out.blk.cells
        have f2' := f1 2
        clear hn hy0 hyk hty
        go_wp2
        have HRowK := Lib.hid (fun W (hW : BelC wr W) => (HCp.out.row.keep (F := fun _ => False) (Keeps.of_below0 hW) (fun _ e _ => e.elim) : RowG srtI 3 wB.heap.size W (fun _ => False) (.slice sA k sc) (ys.take k)))
        have hzB := Below.size HCp.out.bel
        have f3 : (wr.alloc (.cells #[.int .i64 y] 3)).cell? ⟨o, 2, none⟩ = some (.slice sA k sc) := ((BelC.refl wr).alloc _).old f2'
        go_region_law (refine step_growB (T := srtI) (ms := [y]) rfl (.tmp 27) (.tmp 32) 25 3 rfl j0 _ 8 Try.underlying25 hj hy0 hy1 hy2 rfl rfl (HRowK.out _ ?_) ⟨wr.heap.size, 0, none⟩ 1 [.int .i64 y] rfl (fun j u hj => gcell_new _ _ _ _ rfl j u hj) (Items.one srtI rfl) ?_ ?_ ?_ (by simp) ?_; (· repeat (first | with_reducible assumption | with_reducible exact BelC.refl _ | with_reducible refine BelC.alloc ?_ _ | with_reducible refine BelC.drew ?_)); (· rw [hlk]; simp [maxLen]; omega); (· rw [hlk]; simp; omega); (· simp; omega); intro v6 w6 hrow6 hk6 hb6; obtain ⟨A7, c7, h70, hn7, hm7⟩ := hrow6.form; rw [List.length_append, hlk, List.length_singleton] at h70 hn7; subst h70; refine cut_ (HCp.out.step ?_ hrow6 hk6 hb6) (fun hst => ?_); (· show BelC _ _; repeat (first | with_reducible assumption | with_reducible exact BelC.refl _ | with_reducible refine BelC.alloc ?_ _ | with_reducible refine BelC.drew ?_)); refine cut_ (P := Blk w6 o _) ((hk6.block o ?_ (fun e => HCp.out.n1 e)).trans (Eq.trans ?_ HCp.out.blk)) (fun hbq => ?_); (· have := HCp.out.blk.lt; simp; omega); (· refine Below.heap_alloc _ _ _ HCp.out.blk.lt); obtain ⟨hcq, hfq⟩ := Blk.cells hbq; have hcq2 := hcq 2; have hfq2 := hfq 2; have HSt := Lib.hid hst; clear hst hbq hrow6 hk6 hb6 hcq hfq)
        all_goals go_wp2
        all_goals go_roundw
        all_goals first
          | exact ⟨k + 1, _, by go_num, by omega, by rw [HTy.out]; exact HSt.out⟩
          | (simp [intOf]; omega)
      · have hk' : k = x.args.length := by omega
        have hcp : Cpy wB wr o x A6 c6 (.slice sA k sc) ys := by
          have h := HCp.out
          rwa [List.take_of_length_le (by omega)] at h
        obtain ⟨f1, f2⟩ := HCp.out.blk.cells
        have hbR := HRes.out wr HCp.out.bel
        obtain ⟨g1, g2⟩ := hbR.cells
        have hbS := ((((hbR.set 0 (.int .i64 x.kind)).set 1 (.string x.name)).set 2 (.slice sA k sc)).set 3 (.slice A6 x.labels.length c6)).set 4 (.bool x.op)
        have hkS : Keeps (fun k => k < wB.heap.size) wr (((((wr.setCell ⟨w.heap.size + 1, 0, none⟩ (.int .i64 x.kind)).setCell ⟨w.heap.size + 1, 1, none⟩ (.string x.name)).setCell ⟨w.heap.size + 1, 2, none⟩ (.slice sA k sc)).setCell ⟨w.heap.size + 1, 3, none⟩ (.slice A6 x.labels.length c6)).setCell ⟨w.heap.size + 1, 4, none⟩ (.bool x.op)) := by
          repeat (first | with_reducible exact Keeps.refl _ _ | refine Keeps.setCell ?_ (fun _ => by simp; omega) _)
        have hbW : Below w.heap.size w (((((wr.setCell ⟨w.heap.size + 1, 0, none⟩ (.int .i64 x.kind)).setCell ⟨w.heap.size + 1, 1, none⟩ (.string x.name)).setCell ⟨w.heap.size + 1, 2, none⟩ (.slice sA k sc)).setCell ⟨w.heap.size + 1, 3, none⟩ (.slice A6 x.labels.length c6)).setCell ⟨w.heap.size + 1, 4, none⟩ (.bool x.op)) := by
          repeat (first | exact HB0.out | refine Below.setCell ?_ (by simp) _)
        have HbS := Lib.hid hbS
        have HkS := Lib.hid hkS
        have HbW := Lib.hid hbW
        clear hbS hkS hbW hbR
        have HCf := Lib.hid hcp
        clear hk' hcp
        go_wp2
        generalize (((((wr.setCell ⟨w.heap.size + 1, 0, none⟩ (.int .i64 x.kind)).setCell ⟨w.heap.size + 1, 1, none⟩ (.string x.name)).setCell ⟨w.heap.size + 1, 2, none⟩ (.slice sA k sc)).setCell ⟨w.heap.size + 1, 3, none⟩ (.slice A6 x.labels.length c6)).setCell ⟨w.heap.size + 1, 4, none⟩ (.bool x.op)) = W9 at HbS HkS HbW ⊢
        obtain ⟨p1, p2⟩ := HbS.out.cells
        have p10 : W9.cell? ⟨w.heap.size + 1, 0, none⟩ = some (.int .i64 x.kind) := p1 0
        have p11 : W9.cell? ⟨w.heap.size + 1, 1, none⟩ = some (.string x.name) := p1 1
        have p12 : W9.cell? ⟨w.heap.size + 1, 2, none⟩ = some (.slice sA k sc) := p1 2
        have p13 : W9.cell? ⟨w.heap.size + 1, 3, none⟩ = some (.slice A6 x.labels.length c6) := p1 3
        have p14 : W9.cell? ⟨w.heap.size + 1, 4, none⟩ = some (.bool x.op) := p1 4
        refine bodyPost_ret (v := .agg #[.int .i64 x.kind, .string x.name, .slice sA k sc, .slice A6 x.labels.length c6, .bool x.op]) (by simp [results, Try.results36, go_sem, p10, p11, p12, p13, p14]) rfl ?_
        exact ⟨_, rfl, HCf.out.done (B := w.heap.size) HkS.out (by omega) hx1, HbW.out⟩
  have HK := Lib.hid hK
  clear hK hKi
  go_region_held3 (fun W => ∀ j, W.cell? ⟨w.heap.size, j, none⟩ = (#[.int .i64 x.kind, .string x.name, .slice xA x.args.length cA, .slice xL x.labels.length cL, .bool x.op] : Array Value)[j]?)
    (first | with_reducible exact hx0 | (with_reducible refine HC.out _ ?_; (· repeat (first | with_reducible assumption | with_reducible exact BelC.refl _ | with_reducible refine BelC.alloc ?_ _ | with_reducible refine BelC.drew ?_ | (with_reducible refine BelC.setCell ?_ ?_ _; rotate_left; (· first | omega | (simp <;> omega)))))))
    (first | (refine step_cat2 (T := srtS) (base := wB.heap.size) (v := .slice (some ⟨_, 0, none⟩) 0 0) (S := fun _ => False) (es := []) (ms := x.labels) rfl (.tmp 14) (.tmp 16) 35 9 rfl i0 _ 16 Try.underlying35 hi hz0 hz1 hz2 rfl rfl (by simp) (RowG.empty ?_ ?_) xL cL rfl (HLies.out _ ?_) ?_ ?_ ?_ ?_; (· show Blk _ _ _; (· repeat (first | (with_reducible refine Blk.new' _ _ _ ?_; (· first | omega | (simp <;> omega))) | with_reducible refine Blk.alloc ?_ _ | with_reducible refine Blk.drew ?_))); (· omega); (· repeat (first | with_reducible assumption | with_reducible exact BelC.refl _ | with_reducible refine BelC.alloc ?_ _ | with_reducible refine BelC.drew ?_)); (· simpa using hlb); (· simpa using hL); (· first | omega | (simp <;> omega)); intro v6 w6 hrow6 hk6 hb6; rw [List.nil_append] at hrow6; obtain ⟨A6, c6, rfl, hn6, hm6⟩ := hrow6.form; refine cut_ (P := BelC wB w6) ?_ (fun hbc6 => ?_); (· refine Below.trans ?_ (hk6.below ?_ ?_); (· show BelC _ _; (· repeat (first | with_reducible assumption | with_reducible exact BelC.refl _ | with_reducible refine BelC.alloc ?_ _ | with_reducible refine BelC.drew ?_))); (· first | omega | (simp <;> omega)); (· intro i hi e; simp [Value.ownBlock] at e <;> omega)); (first | (refine cut_ (P := Blk w6 (w.heap.size + 3) (.cells #[.int .i64 0, .string ⟨#[]⟩, .slice none 0 0, .slice none 0 0, .bool false] 37)) ?_ (fun hq6 => ?_); (· refine (hk6.block (w.heap.size + 3) ?_ ?_).trans ?_; (· first | omega | (simp <;> omega)); (· intro e; simp [Value.ownBlock] at e <;> omega); (· show Blk _ _ _; (· repeat (first | (with_reducible refine Blk.new' _ _ _ ?_; (· first | omega | (simp <;> omega))) | with_reducible refine Blk.alloc ?_ _ | with_reducible refine Blk.drew ?_)))); obtain ⟨hcq, hfq⟩ := hq6.cells) | (refine cut_ (P := Blk w6 (w.heap.size + 2) (.cells #[.int .i64 0, .string ⟨#[]⟩, .slice none 0 0, .slice none 0 0, .bool false] 37)) ?_ (fun hq6 => ?_); (· refine (hk6.block (w.heap.size + 2) ?_ ?_).trans ?_; (· first | omega | (simp <;> omega)); (· intro e; simp [Value.ownBlock] at e <;> omega); (· show Blk _ _ _; (· repeat (first | (with_reducible refine Blk.new' _ _ _ ?_; (· first | omega | (simp <;> omega))) | with_reducible refine Blk.alloc ?_ _ | with_reducible refine Blk.drew ?_)))); obtain ⟨hcq, hfq⟩ := hq6.cells) | skip)))
  all_goals with_reducible refine HK.out _ _ _ _ _ ?_
  all_goals first
    | with_reducible exact Cpy.start1 hbc6 hrow6
    | ((with_reducible refine Cpy.start2 hbc6 ?_ hrow6 ?_ ?_); (· exact hq6); (· omega); (· intro e; rcases hb6 with h | h <;> (rw [e] at h; simp [Value.ownBlock] at h <;> omega)))
end Go.Proofs.Ytnhdgndjpkdhdaa

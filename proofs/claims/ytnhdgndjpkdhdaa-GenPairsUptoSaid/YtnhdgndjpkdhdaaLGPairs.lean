/-
  trefoillaw13.GenPairs: in a type beside its fresh copy the generic nodes stand twice and the fixed ones once: so it returns true, and does not panic, for every graph and every list of monos that it is handed, as long as what it reads is of no more than the bulk that the second form names.
-/
import Derived.Test.YtnhdgndjpkdhdaaNPair
import Derived.Test.YtnhdgndjpkdhdaaNCpf
import Derived.Deep.CondSized
namespace Go.Proofs.Ytnhdgndjpkdhdaa
open Go.ChangeShapes Go.WideShapes Go.ChangeAt Go.RowKit Go.Deep

section
variable {wC W : World} {S S2 : Nat → Prop} {g : RGr} {gv : Value} {M : List Int} {mA : Option Addr} {mc : Nat}
theorem fresh_e (hF : g.fits) (hE : g.es.length ≤ 4000000) (hS : ∀ k, S k → k < wC.heap.size) (hg : GrV wC S g gv) (hW : BelC wC W) (hS2 : ∀ k, S2 k → k < W.heap.size) (hI : IntsO W S2 M mA) (hmc : M.length ≤ mc) (hmm : mc ≤ maxLen) :
    Calls Try.prog 13 #[gv, .slice mA M.length mc] W fun e w' => ∃ A c, e = .returned (.tuple #[.agg #[.slice A (g.freshU M).nodes.length c, .int .i64 (g.freshU M).root], .int .i64 (g.fcode M)]) ∧ c ≤ maxLen ∧ GrV w' (New W.heap.size w') (g.freshU M) (.agg #[.slice A (g.freshU M).nodes.length c, .int .i64 (g.freshU M).root]) ∧ BelC W w' :=
  (dFresh_r W S S2 g gv M mA mc hF (fun _ => hE) (fun k hk => Nat.lt_of_lt_of_le (hS k hk) (Below.size hW)) (hg.keep (fun k hk => ⟨hk, Below.block hW k (hS k hk)⟩)) hS2 hI hmc hmm).mono fun _ _ ⟨v, h1, h2, h3⟩ => by
    have h2' := h2
    obtain ⟨A, c, rfl, _, hm, _⟩ := h2
    exact ⟨A, c, h1, hm, h2', h3⟩
theorem free_e (hS : ∀ k, S k → k < wC.heap.size) (hg : GrV wC S g gv) (hW : BelC wC W) : Calls Try.prog 19 #[gv] W fun e w' => ∃ A c, e = .returned (.slice A (g.reachU.filter g.fr).length c) ∧ BelC W w' :=
  (dfree_r W S g gv (fun k hk => Nat.lt_of_lt_of_le (hS k hk) (Below.size hW)) (hg.keep (fun k hk => ⟨hk, Below.block hW k (hS k hk)⟩))).mono fun _ _ ⟨A, c, h1, _, _, _, h5⟩ => ⟨A, c, h1, h5⟩
end

theorem blk_at {F : Nat → Prop} {w w' : World} {k : Nat} {o : Obj} (hk : Keeps F w w') (hlt : k < w.heap.size) (hF : ¬ F k) (h : Blk w k o) : Blk w' k o := (hk.block k hlt hF).trans h
theorem share9 {α β γ δ ε ζ η θ ι : Type} {R : Prop} (P : α → β → γ → δ → ε → ζ → η → θ → ι → Prop) {G : α → β → γ → δ → ε → ζ → η → θ → ι → Prop} (h1 : (∀ a b c d e f g h i, P a b c d e f g h i → G a b c d e f g h i) → R) (h2 : ∀ a b c d e f g h i, P a b c d e f g h i → G a b c d e f g h i) : R := h1 h2
/-- A pair is appended. -/
theorem step_star {base b c : Nat} {w : World} {S : Nat → Prop} {v : Value} {es : List RNd} {p q : Int} {ops : Array Oper} {o : Oper} {a : Act} {K : Act → World → Prop} {Q : Exit → Act → World → Prop} {E : Prop} (hgd : o.guard = none) (s x y : Operand)
    (ho : o.op = .call { callee := .builtin .append, args := #[s, x], argTypes := #[22, 22] })
    (hs : a.eval s = v) (hx : a.eval x = .slice (some ⟨c, 0, none⟩) 1 1) (_hy : a.eval y = .agg #[.int .i64 2, .string ⟨#[42]⟩, .slice (some ⟨b, 0, none⟩) 2 2, .slice none 0 0, .bool false])
    (h : RowG srtN 37 base w S v es) (hc : Blk w c (.cells #[.int .i64 2, .string ⟨#[42]⟩, .slice (some ⟨b, 0, none⟩) 2 2, .slice none 0 0, .bool false] 37 (0, 0))) (hb : Blk w b (.cells #[.int .i64 p, .int .i64 q] 3 (0, 0))) (hne : v.ownBlock ≠ some b)
    (hes : es.length ≤ 500000) (hbase : base ≤ w.heap.size)
    (hK : ∀ v' w', RowG srtN 37 base w' (fun k => S k ∨ k = b) v' (es ++ [starR p q]) → Keeps (fun k => v.ownBlock = some k) w w' → (v'.ownBlock = v.ownBlock ∨ v'.ownBlock = some w.heap.size) → K (a.put o.dst v') w') : if Region.wanted o (yielded ops a.tmps) = true then Oper.wp Try.prog o a w K Q else E := by
  obtain ⟨i0, hi, hz0, hz1, hz2⟩ := info_parts infoNode
  refine step_growB (T := srtN) (ms := [starR p q]) hgd s x 22 37 ho i0 _ 80 Try.underlying22 hi hz0 hz1 hz2 rfl hs (h.wide (S' := fun k => S k ∨ k = b) (fun k hk => .inl hk) (fun k hk => ?_)) ⟨c, 0, none⟩ 1 [.int .i64 2, .string ⟨#[42]⟩, .slice (some ⟨b, 0, none⟩) 2 2, .slice none 0 0, .bool false] hx (fun j u hj => ?_) ?_ ?_ ?_ hbase (by simp) hK
  · rcases hk with hk | rfl
    · exact ⟨h.old k hk, h.apart k hk⟩
    · exact ⟨hb.lt, hne⟩
  · rw [add_plain', hc.cells.1]
    simpa using hj
  · exact ⟨_, [], rfl, ⟨_, 2, none, 0, rfl, (show (1 : Nat) ≤ maxLen by decide), Nat.le_refl _, by decide, Nat.le_refl _, by decide, ⟨b, 0, rfl, .inr rfl, hb.cells.1 0, b, 1, rfl, .inr rfl, hb.cells.1 1, trivial⟩, trivial⟩, rfl⟩
  · simp [maxLen]; omega
  · simp; omega
/-- A graph that was made. -/
structure Made (w5 W : World) (h : RGr) (d : Nat) (A : Option Addr) (c : Nat) : Prop where
  bel : BelC w5 W
  blk : Blk W d (.cells #[.slice A h.nodes.length c, .int .i64 h.root] 24 (0, 0))
  val : GrV W (fun k => k < W.heap.size) h (.agg #[.slice A h.nodes.length c, .int .i64 h.root])
theorem Made.late {w5 w7 : World} {S : Nat → Prop} {h : RGr} {A : Option Addr} {c base : Nat} (hb : BelC w5 w7) (hr : RowG srtN 37 base w7 S (.slice A h.nodes.length c) h.nodes) :
    Made w5 (w7.alloc (.cells #[.slice A h.nodes.length c, .int .i64 h.root] 24)) h w7.heap.size A c := by
  refine ⟨hb.alloc _, Blk.new' _ _ _ rfl, ?_⟩
  obtain ⟨A', c', e', r1, r2, r3⟩ := hr.nds (S' := fun k => k < w7.heap.size) (fun k hk => hr.old k hk) (fun k _ hk => hk)
  simp only [Value.slice.injEq, true_and] at e'
  obtain ⟨rfl, rfl⟩ := e'
  exact ⟨_, _, rfl, r1, r2, NdsO.keep (fun k hk => ⟨by simp <;> omega, Below.heap_alloc _ _ _ hk⟩) _ _ r3⟩
theorem Made.early {w5 w7 : World} {S : Nat → Prop} {h : RGr} {A : Option Addr} {c base d : Nat} (hb : BelC w5 w7) (hr : RowG srtN 37 base w7 S (.slice A h.nodes.length c) h.nodes) (hq : Blk w7 d (.cells #[.slice none 0 0, .int .i64 0] 24 (0, 0))) (hd : w5.heap.size ≤ d) (hn : (Value.slice A h.nodes.length c).ownBlock ≠ some d) (hS : ¬ S d) :
    Made w5 ((w7.setCell ⟨d, 0, none⟩ (.slice A h.nodes.length c)).setCell ⟨d, 1, none⟩ (.int .i64 h.root)) h d A c := by
  refine ⟨(hb.setCell hd _).setCell hd _, (hq.set 0 _).set 1 _, ?_⟩
  have hr2 := hr.keep (F := fun k => k = d) (((Keeps.refl (fun k => k = d) w7).setCell (p := ⟨d, 0, none⟩) (fun _ => rfl) (.slice A h.nodes.length c)).setCell (p := ⟨d, 1, none⟩) (fun _ => rfl) (.int .i64 h.root)) (fun k e _ => by subst e; exact ⟨hn, hS⟩)
  obtain ⟨A', c', e', r1, r2, r3⟩ := hr2.nds (S' := fun k => k < ((w7.setCell ⟨d, 0, none⟩ (.slice A h.nodes.length c)).setCell ⟨d, 1, none⟩ (.int .i64 h.root)).heap.size) (fun k hk => hr2.old k hk) (fun k _ hk => hk)
  simp only [Value.slice.injEq, true_and] at e'
  obtain ⟨rfl, rfl⟩ := e'
  exact ⟨_, _, rfl, r1, r2, r3⟩

set_option maxRecDepth 100000 in
set_option maxHeartbeats 4000000 in
theorem lawpairs_any (w : World) (S1 S2 : Nat → Prop) (g : RGr) (gv : Value) (M : List Int) (mA : Option Addr) (mc : Nat) (hF : g.fits) (hb8 : g.nodes.length ≤ 200000) (hE : g.es.length ≤ 2000000) (hS1 : ∀ k, S1 k → k < w.heap.size) (hg : GrV w S1 g gv) (hS2 : ∀ k, S2 k → k < w.heap.size) (hI : IntsO w S2 M mA) (hmc : M.length ≤ mc) (hmm : mc ≤ maxLen) :
    Calls Try.prog 5 #[gv, .slice mA M.length mc] w fun e w' => e = .returned (.bool true) ∧ Below w.heap.size w w' := by
  have hgK := hg
  obtain ⟨gA, gc, rfl, hgc, hgm, oG⟩ := hg
  obtain ⟨w1, hw1⟩ : ∃ w1, w1 = w.alloc (.cells #[.slice gA g.nodes.length gc, .int .i64 g.root] 24) := ⟨_, rfl⟩
  have hb1 : BelC w w1 := by rw [hw1]; exact (BelC.refl w).alloc _
  have hq0 : Blk w1 w.heap.size (.cells #[.slice gA g.nodes.length gc, .int .i64 g.root] 24 (0, 0)) := by rw [hw1]; exact Blk.new' _ _ _ rfl
  have hcell : ∀ W, BelC w1 W → (W.cell? ⟨w.heap.size, 0, none⟩ = some (.slice gA g.nodes.length gc) ∧ W.cell? ⟨w.heap.size, 1, none⟩ = some (.int .i64 g.root)) := fun W hW => ⟨BelC.old hW (hq0.cells.1 0), BelC.old hW (hq0.cells.1 1)⟩
  have HGo := Lib.hid (fun W (hW : BelC w1 W) => good_e (A := mA) (l := M.length) (c := mc) (m := 300) hS1 hgK (hb1.trans hW))
  have hIW : ∀ W, BelC w1 W → IntsO W S2 M mA := fun W hW => IntsO.keep (fun k hk => ⟨hk, Below.block (BelC.trans hb1 hW) k (hS2 k hk)⟩) _ _ hI
  have hSW : ∀ W, BelC w1 W → ∀ k, S2 k → k < W.heap.size := fun W hW k hk => Nat.lt_of_lt_of_le (hS2 k hk) (Below.size (BelC.trans hb1 hW))
  have hfr := fun W (hW : BelC w1 W) => fresh_e (M := M) (mA := mA) (mc := mc) hF (by omega : g.es.length ≤ 4000000) hS1 hgK (hb1.trans hW) (hSW W hW) (hIW W hW) hmc hmm
  have hge := fun W (hW : BelC w1 W) => generic_e (M := M) (mA := mA) (mc := mc) hS1 hgK (hb1.trans hW) (hSW W hW) (hIW W hW) hmc hmm
  have hfe := fun W (hW : BelC w1 W) => free_e hS1 hgK (hb1.trans hW)
  obtain ⟨cf, hcf⟩ : ∃ c, c = g.fcode M := ⟨_, rfl⟩
  obtain ⟨T, hT⟩ : ∃ T, T = g.freshU M := ⟨_, rfl⟩
  rw [← hT, ← hcf] at hfr
  have HT := Lib.hid hT
  have HCf := Lib.hid hcf
  have HFr := Lib.hid hfr
  have HGe := Lib.hid hge
  have HFe := Lib.hid hfe
  have HC := Lib.hid hcell
  have HB1 := Lib.hid hb1
  obtain ⟨i0, hi, hz0, hz1, hz2⟩ := info_parts infoNode
  unfold maxLen at hgm
  clear hgK hS1 hS2 hI hb1 hq0 hcell oG hIW hSW hfr hge hfe hT hcf
  go_enter Try.func5, Try.ntmps5
  go_wp2_with fail
  rw [← hw1]
  clear hw1
  refine (alive13_r w1).mono ?_
  rintro e w2 ⟨rfl, hb2'⟩
  have hb2 : BelC w1 w2 := hb2'
  have HB2 := Lib.hid hb2
  obtain ⟨k0, k1⟩ := HC.out w2 hb2
  clear hb2 hb2'
  go_wp2_with (first
    | (go_at_call 8; (with_reducible refine (HGo.out w2 HB2.out).mono ?_); rintro e w3 ⟨⟨bb, rfl, h60⟩, hb3⟩; have HB3 := Lib.hid (BelC.trans HB2.out hb3); obtain ⟨j0, j1⟩ := HC.out w3 HB3.out; clear hb3; rcases bb with _ | _)
    | (go_at_call 13; (with_reducible refine (HFr.out w3 HB3.out).mono ?_); rintro e w4 ⟨xA, xc, rfl, xm, xv, hb4⟩; have HV4 := Lib.hid xv; have HB4 := Lib.hid hb4; have HB14 := Lib.hid (BelC.trans HB3.out hb4); obtain ⟨i0', i1'⟩ := HC.out w4 HB14.out; clear xv hb4; by_cases hc0 : cf = 0))
  · go_ret
    exact ⟨rfl, BelC.trans HB1.out HB3.out⟩
  · have hv5 : GrV (w4.alloc (.cells #[.slice xA T.nodes.length xc, .int .i64 T.root] 24)) (fun k => k < w4.heap.size + 1) T (.agg #[.slice xA T.nodes.length xc, .int .i64 T.root]) := HV4.out.keep (fun k hk => ⟨by have := hk.2.1; omega, Below.heap_alloc _ _ _ hk.2.1⟩)
    have hq5 : Blk (w4.alloc (.cells #[.slice xA T.nodes.length xc, .int .i64 T.root] 24)) w4.heap.size (.cells #[.slice xA T.nodes.length xc, .int .i64 T.root] 24 (0, 0)) := Blk.new' _ _ _ rfl
    have hb15 : BelC w1 (w4.alloc (.cells #[.slice xA T.nodes.length xc, .int .i64 T.root] 24)) := HB14.out.alloc _
    have hz5 : (w4.alloc (.cells #[.slice xA T.nodes.length xc, .int .i64 T.root] 24)).heap.size = w4.heap.size + 1 := by simp
    obtain ⟨w5, hw5⟩ : ∃ x, x = w4.alloc (.cells #[.slice xA T.nodes.length xc, .int .i64 T.root] 24) := ⟨_, rfl⟩
    rw [← hw5] at hv5 hq5 hb15 hz5 ⊢
    rw [← hz5] at hv5
    obtain ⟨xb, hxb⟩ : ∃ x, x = w4.heap.size := ⟨_, rfl⟩
    rw [← hxb] at hq5 ⊢
    have hfc : g.fcode M = 0 := by rw [← HCf.out, hc0]
    have hTe : T = g.freshOf (g.copL (M.map Int.toNat)) := by rw [HT.out]; unfold RGr.freshU; rw [if_pos hfc]
    have hmc0 : g.mcode M = 0 := by
      by_cases h : g.mcode M = 0
      · exact h
      · unfold RGr.fcode at hfc
        rw [if_neg h] at hfc
        exact hfc
    obtain ⟨hok, hmo⟩ := mcode_ok hmc0
    obtain ⟨hMe, hMl⟩ := mono_nat hmo
    have hCl := copL_len hok (M.map Int.toNat)
    have hTn : T.nodes.length ≤ 400000 := by rw [hTe, fresh_len]; omega
    have hlies : ∀ W, BelC w5 W → LiesAt srtN W (fun k => k < w5.heap.size) T.nodes xA := fun W hW => by
      obtain ⟨A, c, e, _, _, h3⟩ := hv5
      simp only [Value.agg.injEq, List.cons.injEq, Array.mk.injEq, Value.slice.injEq, true_and, and_true] at e
      obtain ⟨rfl, _⟩ := e
      refine lies_nds (NdsO.keep (fun k hk => ⟨hk, Below.block hW k hk⟩) _ _ h3) (fun e => ?_)
      subst e
      cases h : T.nodes with
      | nil => rfl
      | cons x r => rw [h] at h3; obtain ⟨_, _, e, _⟩ := h3; cases e
    have hc5 : ∀ W, BelC w5 W → ((W.cell? ⟨w.heap.size, 0, none⟩ = some (.slice gA g.nodes.length gc) ∧ W.cell? ⟨w.heap.size, 1, none⟩ = some (.int .i64 g.root)) ∧ (W.cell? ⟨xb, 0, none⟩ = some (.slice xA T.nodes.length xc) ∧ W.cell? ⟨xb, 1, none⟩ = some (.int .i64 T.root))) := fun W hW =>
      ⟨HC.out W (BelC.trans hb15 hW), BelC.old hW (hq5.cells.1 0), BelC.old hW (hq5.cells.1 1)⟩
    obtain ⟨BL, hBL⟩ : ∃ l, l = T.nodes ++ [starR g.root T.root] := ⟨_, rfl⟩
    have HBL := Lib.hid hBL
    have HL5 := Lib.hid hlies
    have HC5 := Lib.hid hc5
    have HB15 := Lib.hid hb15
    have hx5 := hc5 w5 (BelC.refl _)
    have hbr := BelC.refl w5
    have HOk := Lib.hid hok
    have HMl := Lib.hid hMl
    have HTe := Lib.hid hTe
    have HMc := Lib.hid hmc0
    rename_i K hKi
    clear hv5 hq5 hb15 hz5 hw5 hxb hfc hTe hmc0 hok hmo hMe hMl hCl hlies hc5 hBL k0 k1 j0 j1 i0' i1'
    apply share9 (P := fun (a b c d : Nat) (A6 : Option Addr) (c6 : Nat) (A7 : Option Addr) (c7 : Nat) (W : World) => Made w5 W ⟨BL, (T.nodes.length : Nat)⟩ d A7 c7)
    · intro hK
      have HK := Lib.hid hK
      clear hK
      go_region_held3 (fun W => (W.cell? ⟨w.heap.size, 0, none⟩ = some (.slice gA g.nodes.length gc) ∧ W.cell? ⟨w.heap.size, 1, none⟩ = some (.int .i64 g.root)) ∧ (W.cell? ⟨xb, 0, none⟩ = some (.slice xA T.nodes.length xc) ∧ W.cell? ⟨xb, 1, none⟩ = some (.int .i64 T.root)))
        (first | with_reducible exact hx5 | (with_reducible refine HC5.out _ ?_; (· repeat (first | with_reducible assumption | with_reducible exact BelC.refl _ | with_reducible refine BelC.alloc ?_ _ | with_reducible refine BelC.drew ?_ | (with_reducible refine BelC.setCell ?_ ?_ _; rotate_left; (· first | omega | (simp <;> omega)))))))
        (first | (refine step_catA (T := srtN) (base := w5.heap.size) (v := .slice (some ⟨_, 0, none⟩) 0 0) (S := fun k => k < w5.heap.size) (es := []) (ms := T.nodes) rfl (.tmp 29) (.tmp 31) 22 37 rfl i0 _ 80 Try.underlying22 hi hz0 hz1 hz2 rfl rfl (RowG.emptyS ?_ ?_ (fun k hk => hk)) xA xc rfl (HL5.out _ ?_) ?_ ?_ ?_ ?_; (· show Blk _ _ _; (· repeat (first | with_reducible assumption | (with_reducible refine Blk.new' _ _ _ ?_; (· first | omega | (simp <;> omega))) | with_reducible refine Blk.alloc ?_ _ | with_reducible refine Blk.drew ?_))); (· first | omega | (simp <;> omega)); (· repeat (first | with_reducible assumption | with_reducible exact BelC.refl _ | with_reducible refine BelC.alloc ?_ _ | with_reducible refine BelC.drew ?_)); (· simp [maxLen]; omega); (· simp; omega); (· first | omega | (simp <;> omega)); intro v6 w6 hrow6 hk6 hb6; rw [List.nil_append] at hrow6; obtain ⟨A6, c6, rfl, hn6, hm6⟩ := hrow6.form; refine cut_ (P := BelC w5 w6) ?_ (fun hbc6 => ?_); (· refine Below.trans ?_ (hk6.below ?_ ?_); (· show BelC _ _; (· repeat (first | with_reducible assumption | with_reducible exact BelC.refl _ | with_reducible refine BelC.alloc ?_ _ | with_reducible refine BelC.drew ?_))); (· first | omega | (simp <;> omega)); (· intro i hi e; simp [Value.ownBlock] at e <;> omega)); have hz56 := Below.size hbc6; have hk6z := hk6.size; (try simp at hk6z)) | (refine step_star (v := .slice A6 T.nodes.length c6) (base := w5.heap.size) (S := fun k => k < w5.heap.size) (es := T.nodes) (p := g.root) (q := T.root) rfl (.tmp 32) (.tmp 39) (.tmp 38) rfl rfl rfl rfl ?_ ?_ ?_ ?_ ?_ ?_ ?_; (· refine hrow6.keep (F := fun _ => False) ?_ (fun _ e _ => e.elim); (· repeat (first | with_reducible exact Keeps.refl _ _ | with_reducible refine Keeps.alloc ?_ _))); (· show Blk _ _ _; (· repeat (first | with_reducible assumption | (with_reducible refine Blk.new' _ _ _ ?_; (· first | omega | (simp <;> omega))) | with_reducible refine Blk.alloc ?_ _ | with_reducible refine Blk.drew ?_ | ((with_reducible refine blk_at hk6 ?_ ?_ ?_); (· first | omega | (simp <;> omega)); (· intro e; simp [Value.ownBlock] at e <;> omega))))); (· show Blk _ _ _; (· repeat (first | with_reducible assumption | (with_reducible refine Blk.new' _ _ _ ?_; (· first | omega | (simp <;> omega))) | with_reducible refine Blk.alloc ?_ _ | with_reducible refine Blk.drew ?_ | ((with_reducible refine blk_at hk6 ?_ ?_ ?_); (· first | omega | (simp <;> omega)); (· intro e; simp [Value.ownBlock] at e <;> omega))))); (· intro e; first | (have := (hrow6.block e).2; omega) | (rcases hb6 with h | h <;> (rw [h] at e; simp [Value.ownBlock] at e <;> omega))); (· omega); (· first | omega | (simp <;> omega)); intro v7 w7 hrow7 hk7 hb7; rw [← HBL.out] at hrow7; obtain ⟨A7, c7, rfl, hn7, hm7⟩ := hrow7.form; refine cut_ (P := BelC w5 w7) ?_ (fun hbc7 => ?_); (· refine Below.trans ?_ (hk7.below ?_ ?_); (· show BelC _ _; (· repeat (first | with_reducible assumption | with_reducible exact BelC.refl _ | with_reducible refine BelC.alloc ?_ _ | with_reducible refine BelC.drew ?_))); (· first | omega | (simp <;> omega)); (· intro i hi e; have := (hrow6.block e).1; omega)); have hz57 := Below.size hbc7; have hk7z := hk7.size; (try simp at hk7z); (first | (refine cut_ (P := Blk w7 w5.heap.size (.cells #[.slice none 0 0, .int .i64 0] 24)) ?_ (fun hq7 => ?_); (· show Blk _ _ _; (· repeat (first | with_reducible assumption | (with_reducible refine Blk.new' _ _ _ ?_; (· first | omega | (simp <;> omega))) | with_reducible refine Blk.alloc ?_ _ | with_reducible refine Blk.drew ?_ | ((with_reducible refine blk_at hk7 ?_ ?_ ?_); (· first | omega | (simp <;> omega)); (· intro e; first | (have := (hrow6.block e).1; omega) | (have := (hrow6.block e).2; omega) | (simp [Value.ownBlock] at e <;> omega) | (rcases hb6 with h | h <;> (rw [h] at e; simp [Value.ownBlock] at e <;> omega)))) | ((with_reducible refine blk_at hk6 ?_ ?_ ?_); (· first | omega | (simp <;> omega)); (· intro e; first | (have := (hrow6.block e).1; omega) | (have := (hrow6.block e).2; omega) | (simp [Value.ownBlock] at e <;> omega) | (rcases hb6 with h | h <;> (rw [h] at e; simp [Value.ownBlock] at e <;> omega))))))); obtain ⟨hcq, hfq⟩ := hq7.cells) | (refine cut_ (P := Blk w7 (w5.heap.size + 1) (.cells #[.slice none 0 0, .int .i64 0] 24)) ?_ (fun hq7 => ?_); (· show Blk _ _ _; (· repeat (first | with_reducible assumption | (with_reducible refine Blk.new' _ _ _ ?_; (· first | omega | (simp <;> omega))) | with_reducible refine Blk.alloc ?_ _ | with_reducible refine Blk.drew ?_ | ((with_reducible refine blk_at hk7 ?_ ?_ ?_); (· first | omega | (simp <;> omega)); (· intro e; first | (have := (hrow6.block e).1; omega) | (have := (hrow6.block e).2; omega) | (simp [Value.ownBlock] at e <;> omega) | (rcases hb6 with h | h <;> (rw [h] at e; simp [Value.ownBlock] at e <;> omega)))) | ((with_reducible refine blk_at hk6 ?_ ?_ ?_); (· first | omega | (simp <;> omega)); (· intro e; first | (have := (hrow6.block e).1; omega) | (have := (hrow6.block e).2; omega) | (simp [Value.ownBlock] at e <;> omega) | (rcases hb6 with h | h <;> (rw [h] at e; simp [Value.ownBlock] at e <;> omega))))))); obtain ⟨hcq, hfq⟩ := hq7.cells) | (refine cut_ (P := Blk w7 (w5.heap.size + 2) (.cells #[.slice none 0 0, .int .i64 0] 24)) ?_ (fun hq7 => ?_); (· show Blk _ _ _; (· repeat (first | with_reducible assumption | (with_reducible refine Blk.new' _ _ _ ?_; (· first | omega | (simp <;> omega))) | with_reducible refine Blk.alloc ?_ _ | with_reducible refine Blk.drew ?_ | ((with_reducible refine blk_at hk7 ?_ ?_ ?_); (· first | omega | (simp <;> omega)); (· intro e; first | (have := (hrow6.block e).1; omega) | (have := (hrow6.block e).2; omega) | (simp [Value.ownBlock] at e <;> omega) | (rcases hb6 with h | h <;> (rw [h] at e; simp [Value.ownBlock] at e <;> omega)))) | ((with_reducible refine blk_at hk6 ?_ ?_ ?_); (· first | omega | (simp <;> omega)); (· intro e; first | (have := (hrow6.block e).1; omega) | (have := (hrow6.block e).2; omega) | (simp [Value.ownBlock] at e <;> omega) | (rcases hb6 with h | h <;> (rw [h] at e; simp [Value.ownBlock] at e <;> omega))))))); obtain ⟨hcq, hfq⟩ := hq7.cells) | (refine cut_ (P := Blk w7 (w5.heap.size + 3) (.cells #[.slice none 0 0, .int .i64 0] 24)) ?_ (fun hq7 => ?_); (· show Blk _ _ _; (· repeat (first | with_reducible assumption | (with_reducible refine Blk.new' _ _ _ ?_; (· first | omega | (simp <;> omega))) | with_reducible refine Blk.alloc ?_ _ | with_reducible refine Blk.drew ?_ | ((with_reducible refine blk_at hk7 ?_ ?_ ?_); (· first | omega | (simp <;> omega)); (· intro e; first | (have := (hrow6.block e).1; omega) | (have := (hrow6.block e).2; omega) | (simp [Value.ownBlock] at e <;> omega) | (rcases hb6 with h | h <;> (rw [h] at e; simp [Value.ownBlock] at e <;> omega)))) | ((with_reducible refine blk_at hk6 ?_ ?_ ?_); (· first | omega | (simp <;> omega)); (· intro e; first | (have := (hrow6.block e).1; omega) | (have := (hrow6.block e).2; omega) | (simp [Value.ownBlock] at e <;> omega) | (rcases hb6 with h | h <;> (rw [h] at e; simp [Value.ownBlock] at e <;> omega))))))); obtain ⟨hcq, hfq⟩ := hq7.cells) | (refine cut_ (P := Blk w7 w6.heap.size (.cells #[.slice none 0 0, .int .i64 0] 24)) ?_ (fun hq7 => ?_); (· show Blk _ _ _; (· repeat (first | with_reducible assumption | (with_reducible refine Blk.new' _ _ _ ?_; (· first | omega | (simp <;> omega))) | with_reducible refine Blk.alloc ?_ _ | with_reducible refine Blk.drew ?_ | ((with_reducible refine blk_at hk7 ?_ ?_ ?_); (· first | omega | (simp <;> omega)); (· intro e; first | (have := (hrow6.block e).1; omega) | (have := (hrow6.block e).2; omega) | (simp [Value.ownBlock] at e <;> omega) | (rcases hb6 with h | h <;> (rw [h] at e; simp [Value.ownBlock] at e <;> omega)))) | ((with_reducible refine blk_at hk6 ?_ ?_ ?_); (· first | omega | (simp <;> omega)); (· intro e; first | (have := (hrow6.block e).1; omega) | (have := (hrow6.block e).2; omega) | (simp [Value.ownBlock] at e <;> omega) | (rcases hb6 with h | h <;> (rw [h] at e; simp [Value.ownBlock] at e <;> omega))))))); obtain ⟨hcq, hfq⟩ := hq7.cells) | (refine cut_ (P := Blk w7 (w6.heap.size + 1) (.cells #[.slice none 0 0, .int .i64 0] 24)) ?_ (fun hq7 => ?_); (· show Blk _ _ _; (· repeat (first | with_reducible assumption | (with_reducible refine Blk.new' _ _ _ ?_; (· first | omega | (simp <;> omega))) | with_reducible refine Blk.alloc ?_ _ | with_reducible refine Blk.drew ?_ | ((with_reducible refine blk_at hk7 ?_ ?_ ?_); (· first | omega | (simp <;> omega)); (· intro e; first | (have := (hrow6.block e).1; omega) | (have := (hrow6.block e).2; omega) | (simp [Value.ownBlock] at e <;> omega) | (rcases hb6 with h | h <;> (rw [h] at e; simp [Value.ownBlock] at e <;> omega)))) | ((with_reducible refine blk_at hk6 ?_ ?_ ?_); (· first | omega | (simp <;> omega)); (· intro e; first | (have := (hrow6.block e).1; omega) | (have := (hrow6.block e).2; omega) | (simp [Value.ownBlock] at e <;> omega) | (rcases hb6 with h | h <;> (rw [h] at e; simp [Value.ownBlock] at e <;> omega))))))); obtain ⟨hcq, hfq⟩ := hq7.cells) | (refine cut_ (P := Blk w7 (w6.heap.size + 2) (.cells #[.slice none 0 0, .int .i64 0] 24)) ?_ (fun hq7 => ?_); (· show Blk _ _ _; (· repeat (first | with_reducible assumption | (with_reducible refine Blk.new' _ _ _ ?_; (· first | omega | (simp <;> omega))) | with_reducible refine Blk.alloc ?_ _ | with_reducible refine Blk.drew ?_ | ((with_reducible refine blk_at hk7 ?_ ?_ ?_); (· first | omega | (simp <;> omega)); (· intro e; first | (have := (hrow6.block e).1; omega) | (have := (hrow6.block e).2; omega) | (simp [Value.ownBlock] at e <;> omega) | (rcases hb6 with h | h <;> (rw [h] at e; simp [Value.ownBlock] at e <;> omega)))) | ((with_reducible refine blk_at hk6 ?_ ?_ ?_); (· first | omega | (simp <;> omega)); (· intro e; first | (have := (hrow6.block e).1; omega) | (have := (hrow6.block e).2; omega) | (simp [Value.ownBlock] at e <;> omega) | (rcases hb6 with h | h <;> (rw [h] at e; simp [Value.ownBlock] at e <;> omega))))))); obtain ⟨hcq, hfq⟩ := hq7.cells) | skip)))
      · refine at_world (G := fun W => Exit.then _ _ _ _ W) (fun W => Made w5 W ⟨BL, (T.nodes.length : Nat)⟩ w7.heap.size A7 c7) (Made.late (h := ⟨BL, (T.nodes.length : Nat)⟩) hbc7 hrow7) ?_
        generalize w7.heap.size = d
        generalize w6.heap.size + 1 = c
        generalize w6.heap.size = b
        generalize w5.heap.size = a
        intro W hW
        exact HK.out a b c d A6 c6 A7 c7 W hW
      all_goals with_reducible refine HK.out _ _ _ _ _ _ _ _ _ ?_
      all_goals first
        | with_reducible exact Made.late (h := ⟨BL, (T.nodes.length : Nat)⟩) hbc7 hrow7
        | ((with_reducible refine Made.early (h := ⟨BL, (T.nodes.length : Nat)⟩) hbc7 hrow7 hq7 ?_ ?_ ?_); (· omega); (· intro e; rcases hb7 with h | h <;> rw [h] at e <;> first | (have := (hrow6.block e).2; omega) | (simp [Value.ownBlock] at e <;> omega) | (rcases hb6 with h' | h' <;> (rw [h'] at e; simp [Value.ownBlock] at e <;> omega))); (· omega))
    · intro a b c d A6 c6 A7 c7 w6 hmd
      have hCl := copL_len HOk.out (M.map Int.toNat)
      have hBe : (⟨BL, (T.nodes.length : Nat)⟩ : RGr) = g.bothOf (g.copL (M.map Int.toNat)) := by rw [HBL.out, HTe.out]; rfl
      have hgu : g.genU M = g.genL (M.map Int.toNat) := by unfold RGr.genU; rw [if_pos HMc.out]
      have hN := both_free HOk.out HMl.out (by omega)
      rw [← hBe, ← hgu] at hN
      have hn1 : (g.reachU.filter g.fr).length ≤ 200000 := Nat.le_trans (List.length_filter_le _ _) (by rw [reachU_eq HOk.out]; have := (reach_facts HOk.out).2.2.1; omega)
      have hn2 : (g.genU M).length ≤ 200000 := by rw [hgu]; exact Nat.le_trans genL_len hb8
      have hb16 : BelC w1 w6 := BelC.trans HB15.out hmd.bel
      have hfb := fun W (hW : BelC w6 W) => free_e (S := fun k => k < w6.heap.size) (fun k hk => hk) hmd.val hW
      have hfg := fun W (hW : BelC w6 W) => HFe.out W (BelC.trans hb16 hW)
      have hgn := HGe.out w6 hb16
      obtain ⟨nb, hnb⟩ : ∃ n, n = ((⟨BL, (T.nodes.length : Nat)⟩ : RGr).reachU.filter (⟨BL, (T.nodes.length : Nat)⟩ : RGr).fr).length := ⟨_, rfl⟩
      obtain ⟨ng, hng⟩ : ∃ n, n = (g.reachU.filter g.fr).length := ⟨_, rfl⟩
      obtain ⟨gl, hgl⟩ : ∃ n, n = (g.genU M).length := ⟨_, rfl⟩
      rw [← hnb, ← hng, ← hgl] at hN
      rw [← hnb] at hfb
      rw [← hng] at hfg hn1
      rw [← hgl] at hn2 hgn
      have hsum : IntKind.i64.wrap ((ng : Int) + (gl : Int)) = (nb : Int) := by
        rw [IntWalk.i64_in _ (by omega)]; omega
      have hc6 : ∀ W, BelC w6 W → ((W.cell? ⟨w.heap.size, 0, none⟩ = some (.slice gA g.nodes.length gc) ∧ W.cell? ⟨w.heap.size, 1, none⟩ = some (.int .i64 g.root)) ∧ (W.cell? ⟨d, 0, none⟩ = some (.slice A7 BL.length c7) ∧ W.cell? ⟨d, 1, none⟩ = some (.int .i64 (T.nodes.length : Nat)))) := fun W hW =>
        ⟨HC.out W (BelC.trans hb16 hW), BelC.old hW (hmd.blk.cells.1 0), BelC.old hW (hmd.blk.cells.1 1)⟩
      have HC6 := Lib.hid hc6
      have HFb := Lib.hid hfb
      have HFg := Lib.hid hfg
      have HGn := Lib.hid hgn
      have HB16 := Lib.hid hb16
      obtain ⟨⟨k0, k1⟩, k2, k3⟩ := hc6 w6 (BelC.refl _)
      clear hmd hb16 hfb hfg hgn hnb hng hgl hN hc6 hBe hgu hCl hx5 hbr
      refine hKi _ _ ?_
      clear hKi
      go_wp2_with (go_at_call 11; (with_reducible refine HGn.out.mono ?_); rintro e w7 ⟨A8, c8, rfl, n8, m8, _, hb7⟩; have HB7 := Lib.hid hb7; have hx7 := HC6.out w7 hb7; clear hb7)
      have hc7' : ∀ W, BelC w7 W → ((W.cell? ⟨w.heap.size, 0, none⟩ = some (.slice gA g.nodes.length gc) ∧ W.cell? ⟨w.heap.size, 1, none⟩ = some (.int .i64 g.root)) ∧ (W.cell? ⟨d, 0, none⟩ = some (.slice A7 BL.length c7) ∧ W.cell? ⟨d, 1, none⟩ = some (.int .i64 (T.nodes.length : Nat)))) := fun W hW => HC6.out W (BelC.trans HB7.out hW)
      have HC7 := Lib.hid hc7'
      clear hc7' k0 k1 k2 k3
      go_region_held3 (fun W => (W.cell? ⟨w.heap.size, 0, none⟩ = some (.slice gA g.nodes.length gc) ∧ W.cell? ⟨w.heap.size, 1, none⟩ = some (.int .i64 g.root)) ∧ (W.cell? ⟨d, 0, none⟩ = some (.slice A7 BL.length c7) ∧ W.cell? ⟨d, 1, none⟩ = some (.int .i64 (T.nodes.length : Nat))))
        (first | with_reducible exact hx7 | (with_reducible refine HC7.out _ ?_; (· repeat (first | with_reducible assumption | with_reducible exact BelC.refl _ | with_reducible refine BelC.alloc ?_ _ | with_reducible refine BelC.drew ?_))))
        (first
          | (go_at_call 19; (with_reducible refine (HFb.out _ (BelC.trans HB7.out ?_)).mono ?_); (· repeat (first | with_reducible assumption | with_reducible exact BelC.refl _ | with_reducible refine BelC.drew ?_)); rintro e w8 ⟨A9, c9, rfl, hb8'⟩; refine cut_ (P := BelC w7 w8) (BelC.trans ?_ hb8') (fun hbc8 => ?_); (· repeat (first | with_reducible assumption | with_reducible exact BelC.refl _ | with_reducible refine BelC.drew ?_)))
          | (go_at_call 19; (with_reducible refine (HFg.out _ (BelC.trans HB7.out ?_)).mono ?_); (· repeat (first | with_reducible assumption | with_reducible exact BelC.refl _ | with_reducible refine BelC.drew ?_)); rintro e w9 ⟨A10, c10, rfl, hb9⟩; refine cut_ (P := BelC w7 w9) (BelC.trans ?_ hb9) (fun hbc9 => ?_); (· repeat (first | with_reducible assumption | with_reducible exact BelC.refl _ | with_reducible refine BelC.drew ?_))))
      go_wp2_with fail
      go_ret
      exact ⟨rfl, BelC.trans HB1.out (BelC.trans HB16.out (BelC.trans HB7.out hbc9))⟩
  · go_ret
    exact ⟨rfl, BelC.trans HB1.out ((HB14.out).alloc _)⟩
theorem es_sum (g : RGr) : g.es.length + 6 * g.nodes.length = (g.nodes.map fun x => x.args.length + 6).sum := by
  have h1 : (List.range g.nodes.length).map (fun i => (g.fa i).length) = g.nodes.map fun x => x.args.length := by
    apply List.ext_getElem
    · simp
    · intro i h1 h2
      simp only [List.length_map] at h2
      simp [RGr.fa, G.Gr.f, RGr.gr, RNd.nd, h2]
  have h2 : g.es.length = (g.nodes.map fun x => x.args.length).sum := by
    unfold RGr.es G.edges
    rw [List.length_flatMap, ← h1]
    simp
  rw [h2]
  generalize g.nodes = l
  induction l with
  | nil => rfl
  | cons x r ih => simp only [List.map_cons, List.sum_cons, List.length_cons] at ih ⊢; omega
theorem bulkGen {H : Type} {g : RGr} {dn dr : DataW H} {ds : List (DataW H)} (h : g.nodes = [] ∨ ∃ elems sp, dn = .slice elems sp ∧ elems.length = g.nodes.length ∧ (g.nodes.map fun x => x.args.length + 6).sum ≤ Rows.uptoBulkAll elems) (hk : Rows.uptoSmall H (.agg [dn, dr] :: ds) = true) : g.es.length + 6 * g.nodes.length ≤ 1048576 := by
  rw [es_sum]
  have h1 := of_decide_eq_true hk
  rcases h with h | ⟨elems, sp, rfl, _, h3⟩
  · rw [h]; decide
  · simp only [Rows.uptoBulkAll, Rows.uptoBulk] at h1
    omega
set_option maxRecDepth 100000 in
theorem genpairs_lifted (os : Os) (started : os.Started) (H : Type) (enc : TypeId × Value → H) (F : Stop.Interp) :
    ReturnsInHanded {} Try.checked os 5 .any ((Rows.OpenSpec.upto Rows.genPairsSpec).pre6 enc Try.prog Try.f5 Rows.genPairsUptoRow.domain false) (((Rows.OpenSpec.upto Rows.genPairsSpec).at F).post enc Try.prog Try.f5 false true false false) := by
  refine returnsInHanded_of_cond_sized (C := Try.checked) (s := Rows.OpenSpec.upto Rows.genPairsSpec) (k := Rows.uptoSmall) rfl lawOwn started (by kernel_rfl) Try.func5
    (OpenSpec.witness (enc := enc) (C := Try.checked) (s := Rows.OpenSpec.upto Rows.genPairsSpec) (k := Rows.uptoSmall) rfl false ⟨#[], #[.agg #[.slice none 0 0, .int .i64 0], .slice none 0 0], []⟩ 8 (by kernel_rfl) (by kernel_rfl) (by kernel_rfl)
      (x := ([.agg [.nil, .lit (.int .i64 0)], .nil], [], [])) (by kernel_rfl) rfl (by kernel_rfl)) ?_
  intro W base args ds gs before hval0 hW _ hk hsz0 _
  have hsz : (DataW.weightsEach Try.prog (Try.f5.params.toList ++ Rows.genPairsSpec.plain.varTypes Try.prog) (ds ++ gs)).all (· ≤ reachBytes) = true := hsz0
  clear hsz0
  have hval : ∀ (j : Nat) t v, Try.f5.params[j]? = some t → args[j]? = some v → Value.okWide Try.prog W .any base t v := hval0
  have hW' := hW
  obtain ⟨p, q, hA0, hV, rfl, _, _⟩ := hW
  have hA : DataW.TrodAll enc Try.prog W 0 (fun _ => true) true Try.f5.params.toList args.toList ds p := hA0
  rw [Try.params5] at hA hval hsz
  obtain ⟨v0, v1, d0, d1, p0, p1, rfl, rfl, rfl, h0, h1⟩ := trodAll_two hA
  obtain ⟨rfl, rfl⟩ := trodVars_none hV
  have hsz1 : (DataW.weightsEach Try.prog [24, 25] [d0, d1]).all (· ≤ reachBytes) = true := hsz
  have hwt := fun n hn => of_decide_eq_true (List.all_eq_true.1 hsz1 n hn)
  obtain ⟨g, hg, hF, _, dn, dr, rfl, hdn⟩ := open_graph (hval 0 24 v0 rfl rfl) h0 (fun n hn => hwt n (DataW.weights_mem_each (j := 0) (t := 24) (d := d0) rfl rfl n hn))
  have hn := bulkGen hdn hk
  obtain ⟨sA, sl, sc, rfl⟩ := okWide_slice Try.underlying25 (hval 1 25 v1 rfl rfl)
  have h1' := h1
  obtain ⟨f1, hf1⟩ := h1'
  have hf1 : DataW.trod enc Try.prog W 0 (fun _ => true) true f1 25 [.slice sA sl sc] = some (d1, p1) := hf1
  obtain ⟨M, mA, mc, he, hmc, hmm, hI, _⟩ := open_ints hf1 (fun n hn => hwt n (DataW.weights_mem_each (j := 1) (t := 25) (d := d1) rfl rfl n hn))
  simp only [Value.slice.injEq] at he
  obtain ⟨rfl, rfl, rfl⟩ := he
  clear hA0 hval0
  simp only [List.append_nil] at hW'
  have hlt : ∀ x ∈ p0 ++ p1, x.block < W.heap.size := fun x hx => by simpa using hW'.lt x (by simpa using hx)
  refine (lawpairs_any W _ _ g v0 M sA sc hF (by omega) (by omega) (fun _ h => h) hg (fun _ h => h) hI hmc hmm).mono fun e W' ⟨he, hnx⟩ => ?_
  subst he
  refine ⟨_, rfl, _, _, _, [], p0 ++ p1, [], hW', ?_, ?_, rfl, hnx.frame _, fun h => by cases h⟩
  · exact trodAll_mk1 (shut_bool Try.underlying4 true)
  · exact trodAll_mk2 (Below.trod lawLaid (by kernel_rfl) (of_decide_eq_true (by kernel_rfl)) h0 hnx (fun x hx => hlt x (List.mem_append_left _ hx))) (Below.trod lawLaid (by kernel_rfl) (of_decide_eq_true (by kernel_rfl)) h1 hnx (fun x hx => hlt x (List.mem_append_right _ hx)))

theorem genpairs_holds : Rows.GenPairsUptoSaid :=
  OpenClaim.holds_of_cond 5 Try.f5 rfl rfl rfl rfl rfl rfl rfl ⟨rfl, rfl, rfl, rfl, rfl⟩ rfl rfl rfl rfl rfl (by kernel_rfl) Try.func5 (by kernel_rfl)
    (of_decide_eq_true (by kernel_rfl)) (by unfold Func.isWrapper; first | (rw [if_pos (by decide +kernel)]; kernel_rfl) | (rw [if_neg (by decide +kernel)]; exact ⟨rfl, rfl⟩))
    (fun os started H enc _ F => genpairs_lifted os started H enc F)

#print axioms genpairs_holds
end Go.Proofs.Ytnhdgndjpkdhdaa

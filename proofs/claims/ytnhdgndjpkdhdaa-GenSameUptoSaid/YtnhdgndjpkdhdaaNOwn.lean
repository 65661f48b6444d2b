/-
  graph.reach, graph.Reach, graph.Free once more (made by gen_own.py out of layer 6's texts): the answer as a row of the call's own, of which no cell is frozen.
-/
import Derived.Test.YtnhdgndjpkdhdaaDFree
import Derived.Test.YtnhdgndjpkdhdaaGCat2
namespace Go.Proofs.Ytnhdgndjpkdhdaa
open Go.RowKit

theorem RowG.base_le {α : Type} {T : Srt α} {t : TypeId} {base base' : Nat} {w : World} {S : Nat → Prop} {v : Value} {es : List α} (hb : base' ≤ base) (h : RowG T t base w S v es) : RowG T t base' w S v es := by
  obtain ⟨xs, h1, h2⟩ := h.raw
  refine ⟨⟨xs, ⟨h1.1, ?_⟩, h2⟩, h.apart, h.old⟩
  rcases h1.2 with e | ⟨g, cap, cur, e1, e2, e3⟩
  · exact .inl e
  · exact .inr ⟨g, cap, cur, e1, Nat.le_trans hb e2, e3⟩

set_option maxRecDepth 100000 in
set_option maxHeartbeats 2000000 in
theorem reach_o (w : World) (S : Nat → Prop) (g : RGr) (gv : Value) (hok : g.ok = true) (hS : ∀ k, S k → k < w.heap.size) (he : GrV w S g gv) :
    Calls Try.prog 50 #[gv] w fun e w' => ∃ s, e = .returned s ∧ RowG srtI 3 w.heap.size w' (fun _ => False) s (g.reach.map Int.ofNat) ∧ Below w.heap.size w w' := by
  have hN9 : g.nodes.length ≤ 2000000 := Nat.le_trans (RGr.ok_len hok) (by decide)
  obtain ⟨A, cN, hgv, hcN, hcN9, oN⟩ := he
  subst hgv
  have HON := Lib.hid oN
  have HS := Lib.hid hS
  have hroot : 0 ≤ g.root ∧ g.root < g.nodes.length := by
    have h := hok
    simp only [RGr.ok, Bool.and_eq_true, decide_eq_true_eq] at h
    exact h.2.1
  obtain ⟨rt, hrt⟩ : ∃ rt : Nat, g.root = (rt : Int) := ⟨g.root.toNat, by omega⟩
  have hrtN : rt < g.nodes.length := by omega
  have hst := fun W => Rch.start (g := g) (S := S) (A := A) (cN := cN) (w0 := w) (W := W) hrt hS
  have HSt := Lib.hid hst
  have hmk := fun W => makeMet W g.nodes.length hN9
  have hT : G.fin (fun a => (g.gr.f a).args) (g.nodes.length + 1) [] [[rt]] = g.reach := by
    rw [reach_eq, hrt, Int.toNat_natCast]; rfl
  have HT := Lib.hid hT
  have HOk := Lib.hid hok
  have HRt := Lib.hid hrt
  clear hS oN hroot hst hT hok hrt
  unfold maxLen at hcN9
  go_enter Try.func50, Try.ntmps50
  go_wp2
  rw [show w.heap.size + 1 + 1 + 1 + 1 = w.heap.size + 4 from rfl, show w.heap.size + 1 + 1 + 1 = w.heap.size + 3 from rfl, show w.heap.size + 1 + 1 = w.heap.size + 2 from rfl]
  have hs0 := HSt.out _ rfl
  have HS0 := Lib.hid hs0
  clear hs0 HSt hmk
  generalize ((((w.alloc (.cells #[.slice A g.nodes.length cN, .int .i64 g.root] 24)).alloc (.cells (metCells g.nodes.length []) 4)).alloc (.cells #[.int .i64 g.root] 3)).alloc (.cells #[.slice (some ⟨w.heap.size + 2, 0, none⟩) 1 1] 25)).alloc (.cells #[.slice (some ⟨w.heap.size + 3, 0, none⟩) 1 1] 86) = w1 at HS0 ⊢
  have hfit := RGr.ok_fit HOk.out
  have hgN : g.gr.nodes.length = g.nodes.length := by simp [RGr.gr]
  have hfa : ∀ a, a < g.nodes.length → ∀ y, y ∈ (g.gr.f a).args → y < g.nodes.length := fun a h y hy => by
    have := hfit.args a (by rw [hgN]; exact h) y hy
    rwa [hgN] at this
  have HFA := Lib.hid hfa
  obtain ⟨M, hM⟩ : ∃ M, G.togo (fun a => (g.gr.f a).args) g.nodes.length [] [[rt]] = M := ⟨_, rfl⟩
  have hnum : Num g [] [[rt]] M := ⟨by simp, fun x hx => (by cases hx), by simp, by simpa using hrtN, by simp, HT.out, Nat.le_of_eq hM⟩
  have HNum := Lib.hid hnum
  clear hM hnum hfit hgN hfa
  obtain ⟨i0, hi, hz0, hz1, hz2⟩ := info_parts infoInt
  obtain ⟨j0, hj, hy0, hy1, hy2⟩ := info_parts infoSlI
  go_loopg [3, 6, 7] M (fun kk s _ _ wr => ∃ (v : Value) (out : List Nat) (st : List (List Nat)), Rch g S A cN w wr s v out st ∧ Num g out st kk)
  case atStart => exact ⟨_, [], [[rt]], HS0.out, HNum.out⟩
  case round =>
    obtain ⟨v, out, st, hR, hnum⟩ := hrel
    have HR := Lib.hid hR
    have HNm := Lib.hid hnum
    have hc5 := hR.lft.box.cell
    obtain ⟨vA, vc, hv0, hvc, hvm⟩ := hR.lft.row.form
    obtain ⟨vn, hvn⟩ : ∃ vn, vn = (st.map (List.map Int.ofNat)).length := ⟨_, rfl⟩
    rw [← hvn] at hv0 hvc
    subst hv0
    unfold maxLen at hvm
    have hvn9 : vn ≤ 4000000 := by rw [hvn, List.length_map]; have := hnum.ln; have := hnum.lenle; omega
    clear hR hnum
    rcases gsnoc st with rfl | ⟨st, l, rfl⟩
    · have hvn0 : vn = 0 := hvn
      subst hvn0
      have hout : out = g.reach := HNm.out.fin
      obtain ⟨A9, c9, hs9, _, _⟩ := HR.out.ord.form
      rw [List.length_map, hout] at hs9
      subst hs9
      have H3 := Lib.hid (by have h := HR.out.ord; rw [hout] at h; exact RowG.base_le (by omega) h : RowG srtI 3 w.heap.size wr (fun _ => False) (.slice A9 g.reach.length c9) (g.reach.map Int.ofNat))
      clear hout hvn hvn9
      go_wp2
      go_ret
      exact ⟨_, rfl, H3.out, HR.out.bel⟩
    · obtain ⟨x, r, rfl⟩ := List.exists_cons_of_ne_nil (HNm.out.ne l (by simp))
      have hxN : x < g.nodes.length := HNm.out.le (x :: r) (by simp) x (by simp)
      have hlv : LeftAt (w.heap.size + 3) wr (fun k => S k ∨ k = w.heap.size + 2) (w.heap.size + 4) (.slice vA vn vc) (st.map (List.map Int.ofNat) ++ [((x : Nat) : Int) :: r.map Int.ofNat]) := by
        have h := HR.out.lft
        rw [List.map_append] at h
        exact h
      have HLv := Lib.hid hlv
      have hvn1 : vn = st.length + 1 := by rw [hvn]; simp
      have hpos : (0 : Int) < (vn : Int) := by omega
      clear hlv hvn
      by_cases hin : x ∈ out
      · have hnm := HNm.out.seen hin
        have HNm2 := Lib.hid hnm
        have hdi := decide_eq_true hin
        have HDi := Lib.hid hdi
        clear hin hdi hnm
        go_wp2_with (go_at_call 63; refine (take_any _ _ _ _ _ _ _ _ HLv.out).mono ?_; rintro e w2 ⟨rfl, v2, hl2, hk2, hv2⟩; have HR2 := Lib.hid (HR.out.taken (by rw [Rch.pushed]; exact hl2) hk2); obtain ⟨m1, m2⟩ := HR2.out.met.cell x hxN; rw [HDi.out] at m1; clear hl2 hk2 hv2)
        go_roundg (gk - 1)
        case measure => exact HNm2.out.2
        case rel => exact ⟨v2, out, _, HR2.out, HNm2.out.1⟩
      · have hnm := HNm.out.new HFA.out hin
        have HNm2 := Lib.hid hnm
        have hol : out.length < g.nodes.length := by
          have h := hnm.1.lenle
          simp at h
          omega
        have hdi := decide_eq_false hin
        have HDi := Lib.hid hdi
        obtain ⟨X, hX⟩ : ∃ X, X = g.nodes[x] := ⟨_, rfl⟩
        have hfx : X.args = (g.gr.f x).args.map Int.ofNat := by
          rw [gr_f g x hxN, ← hX, ofNat_toNat]
          intro z hz
          rw [hX] at hz
          exact (ok_args HOk.out x hxN z hz).1
        have HFX := Lib.hid hfx
        have hnd : ∀ W, Below w.heap.size w W → ∃ b o, A = some ⟨b, o, none⟩ ∧ NdP W S b (o + x * 5) X := fun W hW => by
          rw [hX]
          exact NdsO.get _ _ (NdsO.keep (fun k hk => ⟨hk, hW.block k (HS.out k hk)⟩) _ _ HON.out) x hxN
        have HX := Lib.hid hnd
        clear hin hdi hnm hX hfx hnd
        obtain ⟨b, o, rfl, _⟩ := HX.out w (Below.refl _ _)
        by_cases hx0 : X.args = []
        · have hl0 : ¬ (0 : Int) < (X.args.length : Int) := by rw [hx0]; simp
          have HX0 := Lib.hid hx0
          clear hx0
          go_wp2_with (first | (go_at_call 63; refine (take_any _ _ _ _ _ _ _ _ HLv.out).mono ?_; rintro e w2 ⟨rfl, v2, hl2, hk2, hv2⟩; have HR2 := Lib.hid (HR.out.taken (by rw [Rch.pushed]; exact hl2) hk2); obtain ⟨m1, m2⟩ := HR2.out.met.cell x hxN; rw [HDi.out] at m1; clear hl2 hk2 hv2) | (at_builtin; (refine wpList_growB (T := srtI) (ms := [(x : Int)]) rfl (.tmp 27) (.tmp 29) 25 3 rfl i0 _ 8 Try.underlying25 hi hz0 hz1 hz2 rfl rfl (HR2.out.ord.keep (F := fun k => k = w.heap.size + 1) (((Keeps.refl (fun k => k = w.heap.size + 1) w2).setCell (p := ⟨w.heap.size + 1, x, none⟩) (fun _ => rfl) _).alloc _) (fun k e _ => ⟨fun e' => by have := (HR2.out.ord.block e').1; omega, id⟩)) ⟨w2.heap.size, 0, none⟩ 1 [.int .i64 x] rfl (fun j u hj => gcell_new _ _ _ _ (by simp [World.setCell]) j u hj) (Items.one srtI rfl) ?_ ?_ ?_ (by simp) ?_; (· simp [maxLen]; omega); (· simp; omega); (· have := HR2.out.size; simp [World.setCell]; omega)); intro v6 w6 hrow6 hk6 hb6; have HR6 := Lib.hid (Rch.marked HR2.out HS.out rfl hrow6 hk6); have g0 : (w6.cell? ⟨w.heap.size, 0, none⟩ = some (.slice (some ⟨b, o, none⟩) g.nodes.length cN)) := HR6.out.gb.cells.1 0; obtain ⟨b', o', e', hnp⟩ := HX.out w6 HR6.out.bel; simp only [Option.some.injEq, Addr.mk.injEq, and_true] at e'; obtain ⟨rfl, rfl⟩ := e'; obtain ⟨xA, yA, xL, yL, f0, f1, f2, f3, f4, hvv⟩ := hnp.val; have HVV := Lib.hid hvv; have hc6 := HR6.out.lft.box.cell; have hxl := hvv.2.1; have hxm := hvv.2.2.1; unfold maxLen at hxm; clear hrow6 hk6 hb6 hnp hvv f0 f1 f3 f4))
          go_roundg (gk - 1)
          case measure => exact HNm2.out.2
          case rel =>
            refine ⟨v2, _, _, HR6.out, ?_⟩
            have h := HNm2.out.1
            rwa [show G.pushR (G.pushR st r) (g.gr.f x).args = G.pushR st r from ?_] at h
            have := HFX.out
            rw [HX0.out] at this
            cases hg : (g.gr.f x).args with
            | nil => rfl
            | cons a b => rw [hg] at this; simp at this
        · have hl0 : 0 < X.args.length := List.length_pos_iff.2 hx0
          have HX0 := Lib.hid hx0
          clear hx0
          go_wp2_with (first | (go_at_call 63; refine (take_any _ _ _ _ _ _ _ _ HLv.out).mono ?_; rintro e w2 ⟨rfl, v2, hl2, hk2, hv2⟩; have HR2 := Lib.hid (HR.out.taken (by rw [Rch.pushed]; exact hl2) hk2); obtain ⟨m1, m2⟩ := HR2.out.met.cell x hxN; rw [HDi.out] at m1; clear hl2 hk2 hv2) | (at_builtin; (refine wpList_growB (T := srtI) (ms := [(x : Int)]) rfl (.tmp 27) (.tmp 29) 25 3 rfl i0 _ 8 Try.underlying25 hi hz0 hz1 hz2 rfl rfl (HR2.out.ord.keep (F := fun k => k = w.heap.size + 1) (((Keeps.refl (fun k => k = w.heap.size + 1) w2).setCell (p := ⟨w.heap.size + 1, x, none⟩) (fun _ => rfl) _).alloc _) (fun k e _ => ⟨fun e' => by have := (HR2.out.ord.block e').1; omega, id⟩)) ⟨w2.heap.size, 0, none⟩ 1 [.int .i64 x] rfl (fun j u hj => gcell_new _ _ _ _ (by simp [World.setCell]) j u hj) (Items.one srtI rfl) ?_ ?_ ?_ (by simp) ?_; (· simp [maxLen]; omega); (· simp; omega); (· have := HR2.out.size; simp [World.setCell]; omega)); intro v6 w6 hrow6 hk6 hb6; have HR6 := Lib.hid (Rch.marked HR2.out HS.out rfl hrow6 hk6); have g0 : (w6.cell? ⟨w.heap.size, 0, none⟩ = some (.slice (some ⟨b, o, none⟩) g.nodes.length cN)) := HR6.out.gb.cells.1 0; obtain ⟨b', o', e', hnp⟩ := HX.out w6 HR6.out.bel; simp only [Option.some.injEq, Addr.mk.injEq, and_true] at e'; obtain ⟨rfl, rfl⟩ := e'; obtain ⟨xA, yA, xL, yL, f0, f1, f2, f3, f4, hvv⟩ := hnp.val; have HVV := Lib.hid hvv; have hc6 := HR6.out.lft.box.cell; have hxl := hvv.2.1; have hxm := hvv.2.2.1; unfold maxLen at hxm; clear hrow6 hk6 hb6 hnp hvv f0 f1 f3 f4) | (at_builtin; (refine wpList_growB (T := srtL) (base := w.heap.size + 3) (S := fun k => S k ∨ k = w.heap.size + 2) (es := (G.pushR st r).map (List.map Int.ofNat)) (ms := [X.args]) rfl (.tmp 40) (.tmp 42) 86 25 rfl j0 _ 24 Try.underlying86 hj hy0 hy1 hy2 rfl rfl (HR6.out.lft.row.keep (F := fun _ => False) ((Keeps.refl _ w6).alloc _) (fun _ e _ => e.elim)) ⟨w6.heap.size, 0, none⟩ 1 [.slice xA X.args.length yA] rfl (fun j u hj => gcell_new _ _ _ _ rfl j u hj) (Items.one srtL (a := X.args) (v := .slice xA X.args.length yA) ⟨HX0.out, xA, yA, rfl, HVV.out.2.1, HVV.out.2.2.1, IntsO.keep (fun k hk => ⟨.inl hk, Below.heap_alloc _ _ _ (Nat.lt_of_lt_of_le (HS.out k hk) HR6.out.bel.size)⟩) _ _ HVV.out.2.2.2.2.2.1⟩) ?_ ?_ ?_ (by simp) ?_; (· rw [List.length_map]; have := G.pushR_len st r; simp [maxLen]; omega); (· rw [List.length_map]; have := G.pushR_len st r; simp; omega); (· have := HR6.out.size; simp; omega)); intro v8 w8 hrow8 hk8 hb8; obtain ⟨A8, c8, hv8, _, _⟩ := hrow8.form; obtain ⟨n8, hn8⟩ : (∃ n8, n8 = ((G.pushR st r).map (List.map Int.ofNat) ++ [X.args]).length) := ⟨_, rfl⟩; rw [← hn8] at hv8; subst hv8; have hbx8 := (HR6.out.lft.box.keep (((Keeps.refl _ w6).alloc _).trans hk8) HR6.out.lft.ne); have hc8 := hbx8.cell; have hf8 := hbx8.frozen; have HR8 := Lib.hid (Rch.pushedL (l := (g.gr.f x).args) HR6.out HS.out (by rw [← HFX.out]; exact hrow8) hk8 hb8); clear hrow8 hk8 hb8 hbx8 hn8))
          go_roundg (gk - 1)
          case measure => exact HNm2.out.2
          case rel =>
            refine ⟨_, _, _, HR8.out, ?_⟩
            have h := HNm2.out.1
            rwa [show G.pushR (G.pushR st r) (g.gr.f x).args = G.pushR st r ++ [(g.gr.f x).args] from ?_] at h
            unfold G.pushR
            rw [if_neg]
            have := HFX.out
            cases hg : (g.gr.f x).args with
            | nil => rw [hg] at this; exact absurd this HX0.out
            | cons a b => simp
set_option maxRecDepth 100000 in
set_option maxHeartbeats 2000000 in
theorem dreach_o (w : World) (S : Nat → Prop) (g : RGr) (gv : Value) (hS : ∀ k, S k → k < w.heap.size) (he : GrV w S g gv) :
    Calls Try.prog 32 #[gv] w fun e w' => ∃ s, e = .returned s ∧ RowG srtI 3 w.heap.size w' (fun _ => False) s (g.reachU.map Int.ofNat) ∧ Below w.heap.size w w' := by
  obtain ⟨A, cN, hgv, hcN, hcN9, oN⟩ := he
  subst hgv
  obtain ⟨L, hL⟩ : ∃ L, L = g.reachU := ⟨_, rfl⟩
  rw [← hL]
  have HL := Lib.hid hL
  clear hL
  have HON := Lib.hid oN
  have HS := Lib.hid hS
  obtain ⟨w1, hw1⟩ : ∃ w1, w1 = w.alloc (.cells #[.slice A g.nodes.length cN, .int .i64 g.root] 24) := ⟨_, rfl⟩
  have hsz1 : w1.heap.size = w.heap.size + 1 := by rw [hw1]; simp
  have hb1 : Below w.heap.size w w1 := by rw [hw1]; exact (Below.refl _ _).alloc (Nat.le_refl _) _
  have hbw : ∀ W, Below w1.heap.size w1 W → Below w.heap.size w W := fun W hW => hb1.trans (hW.mono (by omega))
  have hrow : ∀ W, Below w1.heap.size w1 W → ∀ j, W.cell? ⟨w.heap.size, j, none⟩ = (#[.slice A g.nodes.length cN, .int .i64 g.root] : Array Value)[j]? := fun W hW j =>
    cell_of_row W w.heap.size j _ _ _ ((hW.block w.heap.size (by omega)).trans (by rw [hw1]; exact heap_alloc_new w _))
  have hgr : ∀ W, Below w1.heap.size w1 W → GrV W S g (.agg #[.slice A g.nodes.length cN, .int .i64 g.root]) := fun W hW =>
    ⟨A, cN, rfl, hcN, hcN9, NdsO.keep (fun k hk => ⟨hk, (hbw W hW).block k (HS.out k hk)⟩) _ _ HON.out⟩
  have hlt : ∀ W, Below w1.heap.size w1 W → ∀ k, S k → k < W.heap.size := fun W hW k hk => Nat.lt_of_lt_of_le (HS.out k hk) (hbw W hW).size
  have HRow := Lib.hid hrow
  have HBw := Lib.hid hbw
  have HGr := Lib.hid hgr
  have HLt := Lib.hid hlt
  clear hS oN hrow hbw hgr hlt hb1
  go_enter Try.func32, Try.ntmps32
  go_wp2_with fail
  rw [← hw1]
  clear hw1
  refine (check_r w1 S g _ (HLt.out _ (Below.refl _ _)) (HGr.out _ (Below.refl _ _))).mono ?_
  rcases hok : g.ok with _ | _
  · have hLe : L = [] := by rw [HL.out]; unfold RGr.reachU; rw [hok]; rfl
    subst hLe
    rcases RGr.code_no hok with hcd | hcd <;> rw [hcd] <;> clear hcd
    all_goals
     rintro e w2 ⟨rfl, hb2⟩
     have hr2 := HRow.out w2 hb2
     obtain ⟨c0, c1⟩ := (⟨hr2 0, hr2 1⟩ : _ ∧ _)
     have HB2 := Lib.hid hb2
     clear hb2 hr2
     go_wp2
     go_ret
     exact ⟨_, rfl, RowG.nil _ _ _, HBw.out _ HB2.out⟩
  · have hLe : L = g.reach := by rw [HL.out]; unfold RGr.reachU; rw [hok]; rfl
    subst hLe
    rw [RGr.code_ok hok]
    rintro e w2 ⟨rfl, hb2⟩
    have hr2 := HRow.out w2 hb2
    obtain ⟨c0, c1⟩ := (⟨hr2 0, hr2 1⟩ : _ ∧ _)
    have HB2 := Lib.hid hb2
    have HOk := Lib.hid hok
    clear hb2 hr2 hok
    go_wp2_with (go_at_call 50; refine (reach_o _ S g _ HOk.out (HLt.out _ HB2.out) (HGr.out _ HB2.out)).mono ?_; rintro e w4 ⟨s4, rfl, g3, g4⟩; have G3 := Lib.hid g3; have G4 := Lib.hid g4; clear g3 g4)
    go_ret
    exact ⟨_, rfl, RowG.base_le (by have := HB2.out.size; omega) G3.out, HBw.out _ (HB2.out.trans (G4.out.mono HB2.out.size))⟩

set_option maxRecDepth 100000 in
set_option maxHeartbeats 2000000 in
theorem dfree_o (w : World) (S : Nat → Prop) (g : RGr) (gv : Value) (hS : ∀ k, S k → k < w.heap.size) (he : GrV w S g gv) :
    Calls Try.prog 19 #[gv] w fun e w' => ∃ s, e = .returned s ∧ RowG srtI 3 w.heap.size w' (fun _ => False) s ((g.reachU.filter g.fr).map Int.ofNat) ∧ Below w.heap.size w w' := by
  obtain ⟨A, cN, hgv, hcN, hcN9, oN⟩ := he
  subst hgv
  have HON := Lib.hid oN
  have HS := Lib.hid hS
  obtain ⟨i0, hi, hz0, hz1, hz2⟩ := info_parts infoInt
  obtain ⟨w1, hw1⟩ : ∃ w1, w1 = w.alloc (.cells #[.slice A g.nodes.length cN, .int .i64 g.root] 24) := ⟨_, rfl⟩
  have hsz1 : w1.heap.size = w.heap.size + 1 := by rw [hw1]; simp
  have hb1 : Below w.heap.size w w1 := by rw [hw1]; exact (Below.refl _ _).alloc (Nat.le_refl _) _
  have hbw : ∀ W, Below w1.heap.size w1 W → Below w.heap.size w W := fun W hW => hb1.trans (hW.mono (by omega))
  have hrow : ∀ W, Below w1.heap.size w1 W → ∀ j, W.cell? ⟨w.heap.size, j, none⟩ = (#[.slice A g.nodes.length cN, .int .i64 g.root] : Array Value)[j]? := fun W hW j =>
    cell_of_row W w.heap.size j _ _ _ ((hW.block w.heap.size (by omega)).trans (by rw [hw1]; exact heap_alloc_new w _))
  have hlt : ∀ W, Below w1.heap.size w1 W → ∀ k, S k → k < W.heap.size := fun W hW k hk => Nat.lt_of_lt_of_le (HS.out k hk) (hbw W hW).size
  have hgr : GrV w1 S g (.agg #[.slice A g.nodes.length cN, .int .i64 g.root]) := ⟨A, cN, rfl, hcN, hcN9, NdsO.keep (fun k hk => ⟨hk, hb1.block k (HS.out k hk)⟩) _ _ HON.out⟩
  obtain ⟨L, hL⟩ : ∃ L, L = g.reachU := ⟨_, rfl⟩
  have hreach := dreach_u w1 S g _ (hlt w1 (Below.refl _ _)) hgr
  rw [← hL] at hreach ⊢
  have hLl : (∀ x, x ∈ L → x < g.nodes.length) ∧ L.length ≤ 1048576 := by
    rw [hL]
    exact ⟨(reachU_lt g).1, reachU_len g⟩
  have HLl := Lib.hid hLl.1
  have hLo : ∀ x, x ∈ L → g.ok = true := fun x hx => reachU_ok (by rw [← hL]; exact hx)
  have HLo := Lib.hid hLo
  have hLn := hLl.2
  have HReach := Lib.hid hreach
  have HRow := Lib.hid hrow
  have HBw := Lib.hid hbw
  clear hS oN hrow hbw hlt hb1 hgr hreach hLl hL hLo
  unfold maxLen at hcN9
  go_enter Try.func19, Try.ntmps19
  go_wp2_with fail
  rw [← hw1]
  clear hw1
  refine HReach.out.mono ?_
  rintro e w2 ⟨A2, c2, rfl, hc2, hc29, hI2, hb2⟩
  have HI2 := Lib.hid hI2
  have HB2 := Lib.hid hb2
  have hz2' := hb2.size
  unfold maxLen at hc29
  clear hI2 hb2 HReach
  go_wp2_with fail
  go_loopw [3, 5, 9] (fun s _ i wr => ∃ (k : Nat) (es : List Nat), i = .int .i64 k ∧ k ≤ L.length ∧ es ++ (L.drop k).filter g.fr = L.filter g.fr ∧ RowG srtI 3 w2.heap.size wr (fun _ => False) s (es.map Int.ofNat) ∧ Below w2.heap.size w2 wr) (fun _ _ i _ => L.length - (intOf i).toNat)
  case atStart => exact ⟨0, [], rfl, Nat.zero_le _, by rw [List.drop_zero, List.nil_append], RowG.nil _ _ _, Below.refl _ _⟩
  case round =>
    obtain ⟨k, es, rfl, hk, hq, hrw, hb⟩ := hrel
    have HQ := Lib.hid hq
    have HR := Lib.hid hrw
    have HB := Lib.hid hb
    have hb1 := HB2.out.trans (hb.mono HB2.out.size)
    have HBa := Lib.hid hb1
    clear hq hrw hb hb1
    by_cases hlt : k < L.length
    · obtain ⟨b2, o2, rfl, _, hcell⟩ := IntsO.get _ _ (IntsO.keep (S' := fun k => k < w2.heap.size) (fun k hk => ⟨hk.2, HB.out.block k hk.2⟩) _ _ HI2.out) k (by simpa using hlt)
      rw [List.getElem_map] at hcell
      obtain ⟨y, hy⟩ : ∃ y, y = L[k] := ⟨_, rfl⟩
      have hyN : y < g.nodes.length := HLl.out y (by rw [hy]; exact List.getElem_mem hlt)
      have hd : (L.drop k).filter g.fr = (if g.fr y = true then [y] else []) ++ (L.drop (k + 1)).filter g.fr := by
        rw [List.drop_eq_getElem_cons hlt, ← hy, List.filter_cons]
        split <;> rfl
      rw [← hy] at hcell
      have hcell' : wr.cell? ⟨b2, o2 + k, none⟩ = some (.int .i64 y) := hcell
      have hfr := g.fr_eq y hyN
      have hdf := RNd.dfree_eq (ok_node (HLo.out y (by rw [hy]; exact List.getElem_mem hlt)) y hyN)
      obtain ⟨b, o, rfl, hnp⟩ := NdsO.get _ _ (NdsO.keep (S' := S) (fun k hk => ⟨hk, (HBw.out _ HBa.out).block k (HS.out k hk)⟩) _ _ HON.out) y hyN
      obtain ⟨x, hx⟩ : ∃ x, x = g.nodes[y] := ⟨_, rfl⟩
      rw [← hx] at hnp hfr hdf
      have HNP := Lib.hid hnp
      unfold RNd.dfree at hdf
      obtain ⟨xA, yA, xL, yL, f0, f1, f2, f3, f4, hvv⟩ := hnp.val
      have c0 := HRow.out wr HBa.out 0
      have c1 := HRow.out wr HBa.out 1
      have hq := HQ.out
      rw [hd, hfr] at hq
      clear hcell hd hx hnp hvv hy hfr
      rcases hfx : x.free with _ | _ <;> rw [hfx] at hdf <;> have HDF := Lib.hid hdf <;> clear hdf
      · rw [hfx] at hq
        have HQ' := Lib.hid (by simpa using hq : es ++ (L.drop (k + 1)).filter g.fr = L.filter g.fr)
        clear hq hfx
        go_wp2_with (go_at_call 41; refine (disFree_r _ S x _ _ HNP.out).mono ?_; rw [HDF.out]; rintro e w5 ⟨rfl, rfl⟩)
        go_roundw
        case rel => exact ⟨k + 1, es, by go_num, by omega, HQ'.out, HR.out, HB.out⟩
        case measure => simp [intOf]; omega
      · rw [hfx] at hq
        have hq' : (es ++ [y]) ++ (L.drop (k + 1)).filter g.fr = L.filter g.fr := by rw [← hq]; simp
        have hel : (es.map Int.ofNat).length + [(y : Int)].length ≤ 2000000 := by
          have h1 := congrArg List.length hq'
          have h2 := List.length_filter_le g.fr L
          simp only [List.length_append, List.length_singleton] at h1
          simp only [List.length_map, List.length_singleton]
          omega
        have HEl := Lib.hid hel
        have HQ' := Lib.hid hq'
        clear hq hq' hfx hel
        have HRow5 := Lib.hid (HR.out.keep (F := fun _ => False) ((Keeps.refl _ wr).alloc (.cells #[.int .i64 y] 3)) (fun _ e _ => e.elim))
        have hz5 := HB.out.size
        go_wp2_with (first | (go_at_call 41; refine (disFree_r _ S x _ _ HNP.out).mono ?_; rw [HDF.out]; rintro e w5 ⟨rfl, rfl⟩) | (at_builtin; (refine wpList_grow (T := srtI) (ms := [(y : Int)]) rfl (.tmp 18) (.tmp 20) 25 3 rfl i0 _ 8 Try.underlying25 hi hz0 hz1 hz2 rfl rfl HRow5.out ⟨wr.heap.size, 0, none⟩ 1 [.int .i64 y] rfl (fun j u hj => gcell_new _ _ _ _ rfl j u hj) (Items.one srtI rfl) HEl.out (by decide) ?_ (by simp) ?_; (· simp; omega)); intro v6 w6 hrow6 hk6 hb6; have HRow6 := Lib.hid hrow6; have HB6 := Lib.hid ((HB.out.alloc hz5 (.cells #[.int .i64 y] 3)).trans (hk6.below (by simp; omega) (fun i hi e => by have := (HRow5.out.block e).1; omega))); clear hrow6 hk6 hb6))
        go_roundw
        case rel => exact ⟨k + 1, es ++ [y], by go_num, by omega, HQ'.out, by have h := HRow6.out; rw [List.map_append]; exact h, HB6.out⟩
        case measure => simp [intOf]; omega
    · have hk' : k = L.length := by omega
      have hes : es = L.filter g.fr := by have h := HQ.out; rw [hk', List.drop_length] at h; simpa using h
      clear hk'
      obtain ⟨A9, c9, hs9, _, _⟩ := HR.out.form
      rw [List.length_map, hes] at hs9
      subst hs9
      have H3 := Lib.hid (by have h := HR.out; rw [hes] at h; exact RowG.base_le (by have := HB2.out.size; omega) h : RowG srtI 3 w.heap.size wr (fun _ => False) (.slice A9 (L.filter g.fr).length c9) ((L.filter g.fr).map Int.ofNat))
      clear hes
      go_wp2
      go_ret
      exact ⟨_, rfl, H3.out, HBw.out _ HBa.out⟩

end Go.Proofs.Ytnhdgndjpkdhdaa

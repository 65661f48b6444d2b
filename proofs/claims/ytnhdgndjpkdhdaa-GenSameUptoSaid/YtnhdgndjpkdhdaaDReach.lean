/-
  graph.reach.
-/
import Derived.Test.YtnhdgndjpkdhdaaDRch
namespace Go.Proofs.Ytnhdgndjpkdhdaa
open Go.RowKit

theorem infoSlI : (Try.prog.info? 25).map (fun i => (i.zero, i.size, i.bytes)) = some (some (.slice none 0 0), 1, 24) := by kernel_rfl

theorem gsnoc {α : Type} (l : List α) : l = [] ∨ ∃ r x, l = r ++ [x] := by
  rcases List.eq_nil_or_concat l with h | ⟨r, x, h⟩
  · exact .inl h
  · exact .inr ⟨r, x, by simpa using h⟩
/-- The numbers of reach under way. -/
structure Num (g : RGr) (out : List Nat) (st : List (List Nat)) (k : Nat) : Prop where
  nd : out.Nodup
  lt : ∀ x, x ∈ out → x < g.nodes.length
  ne : ∀ l, l ∈ st → l ≠ []
  le : ∀ l, l ∈ st → ∀ y, y ∈ l → y < g.nodes.length
  ln : st.length ≤ 1 + out.length
  fin : G.fin (fun a => (g.gr.f a).args) (g.nodes.length + 1) out st = g.reach
  go : G.togo (fun a => (g.gr.f a).args) g.nodes.length out st ≤ k
section
variable {g : RGr} {out : List Nat} {st : List (List Nat)} {k x : Nat} {r : List Nat}
theorem Num.lenle (h : Num g out st k) : out.length ≤ g.nodes.length := G.nodup_len _ h.nd h.lt
theorem Num.seen (h : Num g out (st ++ [x :: r]) k) (hx : x ∈ out) : Num g out (G.pushR st r) (k - 1) ∧ k - 1 < k := by
  have h1 := G.togo_seen (f := fun a => (g.gr.f a).args) (N := g.nodes.length) (x := x) (out := out) (l := r) (st := st)
  have h2 := h.go
  have h3 := G.pushR_len st r
  have h4 := h.ln
  simp only [List.length_append, List.length_singleton] at h4
  refine ⟨⟨h.nd, h.lt, G.pushR_ne (fun l hl => h.ne l (List.mem_append_left _ hl)), G.pushR_all (fun l hl => h.le l (List.mem_append_left _ hl)) (fun y hy => h.le (x :: r) (by simp) y (by simp [hy])), by omega, ?_, by omega⟩, by omega⟩
  rw [← G.fin_seen hx]; exact h.fin
theorem Num.new (hf : ∀ a, a < g.nodes.length → ∀ y, y ∈ (g.gr.f a).args → y < g.nodes.length) (h : Num g out (st ++ [x :: r]) k) (hx : x ∉ out) : Num g (out ++ [x]) (G.pushR (G.pushR st r) (g.gr.f x).args) (k - 1) ∧ k - 1 < k := by
  have hxN : x < g.nodes.length := h.le (x :: r) (by simp) x (by simp)
  have h1 := G.togo_new (f := fun a => (g.gr.f a).args) (N := g.nodes.length) (x := x) (out := out) (l := r) (st := st) hxN hx
  have h2 := h.go
  have h3 := G.pushR_len st r
  have h5 := G.pushR_len (G.pushR st r) (g.gr.f x).args
  have h4 := h.ln
  simp only [List.length_append, List.length_singleton] at h4
  refine ⟨⟨?_, ?_, G.pushR_ne (G.pushR_ne (fun l hl => h.ne l (List.mem_append_left _ hl))), G.pushR_all (G.pushR_all (fun l hl => h.le l (List.mem_append_left _ hl)) (fun y hy => h.le (x :: r) (by simp) y (by simp [hy]))) (hf x hxN), by simp only [List.length_append, List.length_singleton]; omega, ?_, by omega⟩, by omega⟩
  · rw [List.nodup_append]
    refine ⟨h.nd, by simp, fun z hz y hy e => ?_⟩
    simp at hy
    subst hy
    exact hx (e ▸ hz)
  · intro z hz
    rcases List.mem_append.1 hz with e | e
    · exact h.lt z e
    · simp at e; subst e; exact hxN
  · rw [← G.fin_new hf hxN hx h.nd h.lt]; exact h.fin
end
theorem ofNat_toNat (l : List Int) (h : ∀ z, z ∈ l → 0 ≤ z) : (l.map Int.toNat).map Int.ofNat = l := by
  rw [List.map_map]
  conv => rhs; rw [← List.map_id l]
  apply List.map_congr_left
  intro z hz
  have := h z hz
  show ((z.toNat : Nat) : Int) = z
  omega

set_option maxRecDepth 100000 in
set_option maxHeartbeats 2000000 in
theorem reach_r (w : World) (S : Nat → Prop) (g : RGr) (gv : Value) (hok : g.ok = true) (hS : ∀ k, S k → k < w.heap.size) (he : GrV w S g gv) :
    Calls Try.prog 50 #[gv] w fun e w' => ∃ A c, e = .returned (.slice A g.reach.length c) ∧ g.reach.length ≤ c ∧ c ≤ maxLen ∧ IntsO w' (fun k => w.heap.size ≤ k ∧ k < w'.heap.size) (g.reach.map Int.ofNat) A ∧ Below w.heap.size w w' := by
  have hN9 : g.nodes.length ≤ 2000000 := Nat.le_trans (RGr.ok_len hok) (by decide)
  obtain ⟨A, cN, hgv, hcN, hcN9, oN⟩ := he
  subst hgv
  have HON := Lib.hid oN
  have HS := Lib.hid hS
  have hroot : 0 ≤ g.root ∧ g.root < g.nodes.length := by
    have h := hok
    simp only [RGr.ok, Bool.and_eq_true, decide_eq_true_eq] at h
    exact h.2.1
  obtain ⟨rt, hrt⟩ : ∃ rt : Nat, g.root = (rt : Int) := ⟨g.root.toNat, by omega⟩
  have hrtN : rt < g.nodes.length := by omega
  have hst := fun W => Rch.start (g := g) (S := S) (A := A) (cN := cN) (w0 := w) (W := W) hrt hS
  have HSt := Lib.hid hst
  have hmk := fun W => makeMet W g.nodes.length hN9
  have hT : G.fin (fun a => (g.gr.f a).args) (g.nodes.length + 1) [] [[rt]] = g.reach := by
    rw [reach_eq, hrt, Int.toNat_natCast]; rfl
  have HT := Lib.hid hT
  have HOk := Lib.hid hok
  have HRt := Lib.hid hrt
  clear hS oN hroot hst hT hok hrt
  unfold maxLen at hcN9
  go_enter Try.func50, Try.ntmps50
  go_wp2
  rw [show w.heap.size + 1 + 1 + 1 + 1 = w.heap.size + 4 from rfl, show w.heap.size + 1 + 1 + 1 = w.heap.size + 3 from rfl, show w.heap.size + 1 + 1 = w.heap.size + 2 from rfl]
  have hs0 := HSt.out _ rfl
  have HS0 := Lib.hid hs0
  clear hs0 HSt hmk
  generalize ((((w.alloc (.cells #[.slice A g.nodes.length cN, .int .i64 g.root] 24)).alloc (.cells (metCells g.nodes.length []) 4)).alloc (.cells #[.int .i64 g.root] 3)).alloc (.cells #[.slice (some ⟨w.heap.size + 2, 0, none⟩) 1 1] 25)).alloc (.cells #[.slice (some ⟨w.heap.size + 3, 0, none⟩) 1 1] 86) = w1 at HS0 ⊢
  have hfit := RGr.ok_fit HOk.out
  have hgN : g.gr.nodes.length = g.nodes.length := by simp [RGr.gr]
  have hfa : ∀ a, a < g.nodes.length → ∀ y, y ∈ (g.gr.f a).args → y < g.nodes.length := fun a h y hy => by
    have := hfit.args a (by rw [hgN]; exact h) y hy
    rwa [hgN] at this
  have HFA := Lib.hid hfa
  obtain ⟨M, hM⟩ : ∃ M, G.togo (fun a => (g.gr.f a).args) g.nodes.length [] [[rt]] = M := ⟨_, rfl⟩
  have hnum : Num g [] [[rt]] M := ⟨by simp, fun x hx => (by cases hx), by simp, by simpa using hrtN, by simp, HT.out, Nat.le_of_eq hM⟩
  have HNum := Lib.hid hnum
  clear hM hnum hfit hgN hfa
  obtain ⟨i0, hi, hz0, hz1, hz2⟩ := info_parts infoInt
  obtain ⟨j0, hj, hy0, hy1, hy2⟩ := info_parts infoSlI
  go_loopg [3, 6, 7] M (fun kk s _ _ wr => ∃ (v : Value) (out : List Nat) (st : List (List Nat)), Rch g S A cN w wr s v out st ∧ Num g out st kk)
  case atStart => exact ⟨_, [], [[rt]], HS0.out, HNum.out⟩
  case round =>
    obtain ⟨v, out, st, hR, hnum⟩ := hrel
    have HR := Lib.hid hR
    have HNm := Lib.hid hnum
    have hc5 := hR.lft.box.cell
    obtain ⟨vA, vc, hv0, hvc, hvm⟩ := hR.lft.row.form
    obtain ⟨vn, hvn⟩ : ∃ vn, vn = (st.map (List.map Int.ofNat)).length := ⟨_, rfl⟩
    rw [← hvn] at hv0 hvc
    subst hv0
    unfold maxLen at hvm
    have hvn9 : vn ≤ 4000000 := by rw [hvn, List.length_map]; have := hnum.ln; have := hnum.lenle; omega
    clear hR hnum
    rcases gsnoc st with rfl | ⟨st, l, rfl⟩
    · have hvn0 : vn = 0 := hvn
      subst hvn0
      have hout : out = g.reach := HNm.out.fin
      obtain ⟨A9, c9, rfl, h1, h2, h3⟩ := HR.out.ord.ints (S' := fun k => w.heap.size ≤ k ∧ k < wr.heap.size) (fun _ e => e.elim) (fun k h1 h2 => ⟨by omega, h2⟩)
      rw [List.length_map, hout] at h1
      rw [hout] at h3
      rw [List.length_map, hout]
      have H3 := Lib.hid h3
      clear hout h3 hvn hvn9
      go_wp2
      go_ret
      exact ⟨A9, c9, rfl, h1, h2, H3.out, HR.out.bel⟩
    · obtain ⟨x, r, rfl⟩ := List.exists_cons_of_ne_nil (HNm.out.ne l (by simp))
      have hxN : x < g.nodes.length := HNm.out.le (x :: r) (by simp) x (by simp)
      have hlv : LeftAt (w.heap.size + 3) wr (fun k => S k ∨ k = w.heap.size + 2) (w.heap.size + 4) (.slice vA vn vc) (st.map (List.map Int.ofNat) ++ [((x : Nat) : Int) :: r.map Int.ofNat]) := by
        have h := HR.out.lft
        rw [List.map_append] at h
        exact h
      have HLv := Lib.hid hlv
      have hvn1 : vn = st.length + 1 := by rw [hvn]; simp
      have hpos : (0 : Int) < (vn : Int) := by omega
      clear hlv hvn
      by_cases hin : x ∈ out
      · have hnm := HNm.out.seen hin
        have HNm2 := Lib.hid hnm
        have hdi := decide_eq_true hin
        have HDi := Lib.hid hdi
        clear hin hdi hnm
        go_wp2_with (go_at_call 63; refine (take_any _ _ _ _ _ _ _ _ HLv.out).mono ?_; rintro e w2 ⟨rfl, v2, hl2, hk2, hv2⟩; have HR2 := Lib.hid (HR.out.taken (by rw [Rch.pushed]; exact hl2) hk2); obtain ⟨m1, m2⟩ := HR2.out.met.cell x hxN; rw [HDi.out] at m1; clear hl2 hk2 hv2)
        go_roundg (gk - 1)
        case measure => exact HNm2.out.2
        case rel => exact ⟨v2, out, _, HR2.out, HNm2.out.1⟩
      · have hnm := HNm.out.new HFA.out hin
        have HNm2 := Lib.hid hnm
        have hol : out.length < g.nodes.length := by
          have h := hnm.1.lenle
          simp at h
          omega
        have hdi := decide_eq_false hin
        have HDi := Lib.hid hdi
        obtain ⟨X, hX⟩ : ∃ X, X = g.nodes[x] := ⟨_, rfl⟩
        have hfx : X.args = (g.gr.f x).args.map Int.ofNat := by
          rw [gr_f g x hxN, ← hX, ofNat_toNat]
          intro z hz
          rw [hX] at hz
          exact (ok_args HOk.out x hxN z hz).1
        have HFX := Lib.hid hfx
        have hnd : ∀ W, Below w.heap.size w W → ∃ b o, A = some ⟨b, o, none⟩ ∧ NdP W S b (o + x * 5) X := fun W hW => by
          rw [hX]
          exact NdsO.get _ _ (NdsO.keep (fun k hk => ⟨hk, hW.block k (HS.out k hk)⟩) _ _ HON.out) x hxN
        have HX := Lib.hid hnd
        clear hin hdi hnm hX hfx hnd
        obtain ⟨b, o, rfl, _⟩ := HX.out w (Below.refl _ _)
        by_cases hx0 : X.args = []
        · have hl0 : ¬ (0 : Int) < (X.args.length : Int) := by rw [hx0]; simp
          have HX0 := Lib.hid hx0
          clear hx0
          go_wp2_with (first | (go_at_call 63; refine (take_any _ _ _ _ _ _ _ _ HLv.out).mono ?_; rintro e w2 ⟨rfl, v2, hl2, hk2, hv2⟩; have HR2 := Lib.hid (HR.out.taken (by rw [Rch.pushed]; exact hl2) hk2); obtain ⟨m1, m2⟩ := HR2.out.met.cell x hxN; rw [HDi.out] at m1; clear hl2 hk2 hv2) | (at_builtin; (refine wpList_growB (T := srtI) (ms := [(x : Int)]) rfl (.tmp 27) (.tmp 29) 25 3 rfl i0 _ 8 Try.underlying25 hi hz0 hz1 hz2 rfl rfl (HR2.out.ord.keep (F := fun k => k = w.heap.size + 1) (((Keeps.refl (fun k => k = w.heap.size + 1) w2).setCell (p := ⟨w.heap.size + 1, x, none⟩) (fun _ => rfl) _).alloc _) (fun k e _ => ⟨fun e' => by have := (HR2.out.ord.block e').1; omega, id⟩)) ⟨w2.heap.size, 0, none⟩ 1 [.int .i64 x] rfl (fun j u hj => gcell_new _ _ _ _ (by simp [World.setCell]) j u hj) (Items.one srtI rfl) ?_ ?_ ?_ (by simp) ?_; (· simp [maxLen]; omega); (· simp; omega); (· have := HR2.out.size; simp [World.setCell]; omega)); intro v6 w6 hrow6 hk6 hb6; have HR6 := Lib.hid (Rch.marked HR2.out HS.out rfl hrow6 hk6); have g0 : (w6.cell? ⟨w.heap.size, 0, none⟩ = some (.slice (some ⟨b, o, none⟩) g.nodes.length cN)) := HR6.out.gb.cells.1 0; obtain ⟨b', o', e', hnp⟩ := HX.out w6 HR6.out.bel; simp only [Option.some.injEq, Addr.mk.injEq, and_true] at e'; obtain ⟨rfl, rfl⟩ := e'; obtain ⟨xA, yA, xL, yL, f0, f1, f2, f3, f4, hvv⟩ := hnp.val; have HVV := Lib.hid hvv; have hc6 := HR6.out.lft.box.cell; have hxl := hvv.2.1; have hxm := hvv.2.2.1; unfold maxLen at hxm; clear hrow6 hk6 hb6 hnp hvv f0 f1 f3 f4))
          go_roundg (gk - 1)
          case measure => exact HNm2.out.2
          case rel =>
            refine ⟨v2, _, _, HR6.out, ?_⟩
            have h := HNm2.out.1
            rwa [show G.pushR (G.pushR st r) (g.gr.f x).args = G.pushR st r from ?_] at h
            have := HFX.out
            rw [HX0.out] at this
            cases hg : (g.gr.f x).args with
            | nil => rfl
            | cons a b => rw [hg] at this; simp at this
        · have hl0 : 0 < X.args.length := List.length_pos_iff.2 hx0
          have HX0 := Lib.hid hx0
          clear hx0
          go_wp2_with (first | (go_at_call 63; refine (take_any _ _ _ _ _ _ _ _ HLv.out).mono ?_; rintro e w2 ⟨rfl, v2, hl2, hk2, hv2⟩; have HR2 := Lib.hid (HR.out.taken (by rw [Rch.pushed]; exact hl2) hk2); obtain ⟨m1, m2⟩ := HR2.out.met.cell x hxN; rw [HDi.out] at m1; clear hl2 hk2 hv2) | (at_builtin; (refine wpList_growB (T := srtI) (ms := [(x : Int)]) rfl (.tmp 27) (.tmp 29) 25 3 rfl i0 _ 8 Try.underlying25 hi hz0 hz1 hz2 rfl rfl (HR2.out.ord.keep (F := fun k => k = w.heap.size + 1) (((Keeps.refl (fun k => k = w.heap.size + 1) w2).setCell (p := ⟨w.heap.size + 1, x, none⟩) (fun _ => rfl) _).alloc _) (fun k e _ => ⟨fun e' => by have := (HR2.out.ord.block e').1; omega, id⟩)) ⟨w2.heap.size, 0, none⟩ 1 [.int .i64 x] rfl (fun j u hj => gcell_new _ _ _ _ (by simp [World.setCell]) j u hj) (Items.one srtI rfl) ?_ ?_ ?_ (by simp) ?_; (· simp [maxLen]; omega); (· simp; omega); (· have := HR2.out.size; simp [World.setCell]; omega)); intro v6 w6 hrow6 hk6 hb6; have HR6 := Lib.hid (Rch.marked HR2.out HS.out rfl hrow6 hk6); have g0 : (w6.cell? ⟨w.heap.size, 0, none⟩ = some (.slice (some ⟨b, o, none⟩) g.nodes.length cN)) := HR6.out.gb.cells.1 0; obtain ⟨b', o', e', hnp⟩ := HX.out w6 HR6.out.bel; simp only [Option.some.injEq, Addr.mk.injEq, and_true] at e'; obtain ⟨rfl, rfl⟩ := e'; obtain ⟨xA, yA, xL, yL, f0, f1, f2, f3, f4, hvv⟩ := hnp.val; have HVV := Lib.hid hvv; have hc6 := HR6.out.lft.box.cell; have hxl := hvv.2.1; have hxm := hvv.2.2.1; unfold maxLen at hxm; clear hrow6 hk6 hb6 hnp hvv f0 f1 f3 f4) | (at_builtin; (refine wpList_growB (T := srtL) (base := w.heap.size + 3) (S := fun k => S k ∨ k = w.heap.size + 2) (es := (G.pushR st r).map (List.map Int.ofNat)) (ms := [X.args]) rfl (.tmp 40) (.tmp 42) 86 25 rfl j0 _ 24 Try.underlying86 hj hy0 hy1 hy2 rfl rfl (HR6.out.lft.row.keep (F := fun _ => False) ((Keeps.refl _ w6).alloc _) (fun _ e _ => e.elim)) ⟨w6.heap.size, 0, none⟩ 1 [.slice xA X.args.length yA] rfl (fun j u hj => gcell_new _ _ _ _ rfl j u hj) (Items.one srtL (a := X.args) (v := .slice xA X.args.length yA) ⟨HX0.out, xA, yA, rfl, HVV.out.2.1, HVV.out.2.2.1, IntsO.keep (fun k hk => ⟨.inl hk, Below.heap_alloc _ _ _ (Nat.lt_of_lt_of_le (HS.out k hk) HR6.out.bel.size)⟩) _ _ HVV.out.2.2.2.2.2.1⟩) ?_ ?_ ?_ (by simp) ?_; (· rw [List.length_map]; have := G.pushR_len st r; simp [maxLen]; omega); (· rw [List.length_map]; have := G.pushR_len st r; simp; omega); (· have := HR6.out.size; simp; omega)); intro v8 w8 hrow8 hk8 hb8; obtain ⟨A8, c8, hv8, _, _⟩ := hrow8.form; obtain ⟨n8, hn8⟩ : (∃ n8, n8 = ((G.pushR st r).map (List.map Int.ofNat) ++ [X.args]).length) := ⟨_, rfl⟩; rw [← hn8] at hv8; subst hv8; have hbx8 := (HR6.out.lft.box.keep (((Keeps.refl _ w6).alloc _).trans hk8) HR6.out.lft.ne); have hc8 := hbx8.cell; have hf8 := hbx8.frozen; have HR8 := Lib.hid (Rch.pushedL (l := (g.gr.f x).args) HR6.out HS.out (by rw [← HFX.out]; exact hrow8) hk8 hb8); clear hrow8 hk8 hb8 hbx8 hn8))
          go_roundg (gk - 1)
          case measure => exact HNm2.out.2
          case rel =>
            refine ⟨_, _, _, HR8.out, ?_⟩
            have h := HNm2.out.1
            rwa [show G.pushR (G.pushR st r) (g.gr.f x).args = G.pushR st r ++ [(g.gr.f x).args] from ?_] at h
            unfold G.pushR
            rw [if_neg]
            have := HFX.out
            cases hg : (g.gr.f x).args with
            | nil => rw [hg] at this; exact absurd this HX0.out
            | cons a b => simp
end Go.Proofs.Ytnhdgndjpkdhdaa

/-
  gen.spread.
-/
import Derived.Test.YtnhdgndjpkdhdaaNSpr
import Derived.Shelf.Abstract
namespace Go.Proofs.Ytnhdgndjpkdhdaa
open Go.RowKit Go.Shelf

theorem RowG.lastI {t : TypeId} {base : Nat} {w : World} {S : Nat → Prop} {v : Value} {es : List Int} {x : Int} (h : RowG srtI t base w S v (es ++ [x])) : ∃ g c, v = .slice (some ⟨g, 0, none⟩) (es.length + 1) c ∧ es.length + 1 ≤ c ∧ c ≤ maxLen ∧
    w.cell? ⟨g, es.length, none⟩ = some (.int .i64 x) ∧ base ≤ g ∧ g < w.heap.size ∧ RowG srtI t base w S (.slice (some ⟨g, 0, none⟩) es.length c) es := by
  obtain ⟨xs, h1, h2⟩ := h.raw
  obtain ⟨vl, ys, e1, e2, e3⟩ := Items.unsnoc es xs h2
  obtain ⟨g, c, hv, hc, hm⟩ := own_pos h1 (by simp)
  subst hv
  have hyl : ys.length = es.length := by have := Items.length srtI _ _ e3; simpa [srtI] using this
  have hcell := h1.cellAt es.length (by simp [srtI])
  have hlt := h1.lt g rfl
  have hlen : (es ++ [x]).length = es.length + 1 := by simp
  rw [hlen] at h1 hc
  refine ⟨g, c, by rw [hlen], hc, hm, ?_, hlt.1, hlt.2, ⟨ys, own_cut (k := 1) h1 ?_ (by simp [srtI, hyl]), e3⟩, h.apart, h.old⟩
  · rw [hcell, e1, List.getElem?_append_right (by omega), hyl]
    have : vl = .int .i64 x := e2
    subst this
    simp [Value.cells]
  · rw [e1, List.take_append_of_le_length (by simp [srtI, hyl])]
    exact List.take_of_length_le (by simp [srtI, hyl])

section
variable {B N : Nat} {w0 W : World} {out st : List Nat} {v v' : Value}
theorem Spd.cut (h : Spd B N w0 W out st v) {st' : List Nat} (hr : RowG srtI 3 (B + 3) W (fun _ => False) v' (st'.map Int.ofNat)) : Spd B N w0 (W.setCell ⟨B + 2, 0, none⟩ v') out st' v' := by
  have hz := h.lb.lt
  have k3 : Keeps (fun k => k = B + 2) W (W.setCell ⟨B + 2, 0, none⟩ v') := (Keeps.refl (fun k => k = B + 2) W).setCell (p := ⟨B + 2, 0, none⟩) (fun _ => rfl) _
  refine ⟨h.bel.trans (k3.below (by omega) (fun i hi e => by omega)), (k3.block _ (by omega) (by omega)).trans h.met, h.sb.keep k3 (by omega), h.lb.set _, hr.keep (F := fun k => k = B + 2) k3 (fun k e _ => ⟨fun e' => ?_, id⟩)⟩
  have := (hr.block e').1
  omega
/-- How spread begins. -/
theorem Spd.start (hw : W = (((w0.alloc (.cells (metCells N []) 4)).alloc (.cells #[.slice (some ⟨w0.heap.size, 0, none⟩) N N] 45)).alloc (.cells #[.slice none 0 0] 25))) : Spd w0.heap.size N w0 W [] [] (.slice none 0 0) := by
  subst hw
  refine ⟨(((Below.refl _ w0).alloc (Nat.le_refl _) _).alloc (by simp) _).alloc (by simp; omega) _, ?_, ?_, ?_, RowG.nil _ _ _⟩
  · exact ((Blk.new' _ _ _ rfl).alloc _).alloc _
  · exact (Blk.new' _ _ _ (by simp)).alloc _
  · exact Blk.new' _ _ _ (by simp)
end

set_option maxRecDepth 100000 in
set_option maxHeartbeats 2000000 in
theorem spread_r (w : World) (fn : Nat) (lb : Array Value) (f : Nat → List Nat) (N : Nat) (S S2 : Nat → Prop) (M : List Nat) (A : Option Addr) (c : Nat) (eg : ∀ args w, (callFunc fn args).run Try.prog w = .ok (.enter fn args) w)
    (hN : N ≤ 2000000) (hM : ∀ m, m ∈ M → m < N) (hI : IntsO w S2 (M.map Int.ofNat) A) (hc : M.length ≤ c) (hcm : c ≤ maxLen) (hS2 : ∀ k, S2 k → k < w.heap.size)
    (hf : ∀ a, a < N → ∀ y, y ∈ f a → y < N) (hS : ∀ k, S k → k < w.heap.size)
    (hn : ∀ W, Below w.heap.size w W → ∀ x, x < N → Calls Try.prog fn (#[.int .i64 (x : Nat)] ++ lb) W fun e w' => ∃ A c, e = .returned (.slice A (f x).length c) ∧ (f x).length ≤ c ∧ c ≤ maxLen ∧ IntsO w' S ((f x).map Int.ofNat) A ∧ Below W.heap.size W w') :
    Calls Try.prog 42 #[.int .i64 (N : Nat), .slice A M.length c, .func (.func fn) #[] lb] w fun e w' => ∃ B out, e = .returned (.slice (some ⟨B, 0, none⟩) N N) ∧ w.heap.size ≤ B ∧ MetAt w' B N out ∧ (∀ x, x ∈ out ↔ ∃ m, m ∈ M ∧ G.Way f m x) ∧ Below w.heap.size w w' := by
  have HM := Lib.hid hM
  have HI := Lib.hid hI
  have HS := Lib.hid hS
  have HS2 := Lib.hid hS2
  have HF := Lib.hid hf
  have HNx := Lib.hid hn
  have hmk := makeMet w N hN
  have hst := fun W => Spd.start (N := N) (w0 := w) (W := W)
  have HSt := Lib.hid hst
  unfold maxLen at hcm
  clear hM hI hS hS2 hf hn hst
  go_enter Try.func42, Try.ntmps42
  go_wp2_with fail
  rw [show w.heap.size + 1 + 1 = w.heap.size + 2 from rfl]
  have h0 := HSt.out _ rfl
  have HS0 := Lib.hid h0
  have hI1 : IntsO (((w.alloc (.cells (metCells N []) 4)).alloc (.cells #[.slice (some ⟨w.heap.size, 0, none⟩) N N] 45)).alloc (.cells #[.slice none 0 0] 25)) S2 (M.map Int.ofNat) A := IntsO.keep (fun k hk => ⟨hk, h0.bel.block k (HS2.out k hk)⟩) _ _ HI.out
  have HI1 := Lib.hid hI1
  clear h0 hI1 HSt hmk
  generalize (((w.alloc (.cells (metCells N []) 4)).alloc (.cells #[.slice (some ⟨w.heap.size, 0, none⟩) N N] 45)).alloc (.cells #[.slice none 0 0] 25)) = w1 at HS0 HI1 ⊢
  refine (vis_r w.heap.size N w w1 S2 M A c [] [] _ hN HS0.out HS2.out HI1.out hc (by unfold maxLen; exact hcm) HM.out (by simp) (by simp) (by simp)).mono ?_
  rintro e w2 ⟨rfl, v2, h2⟩
  have hsp := G.Spr.start (f := f) HM.out
  generalize (M.foldl G.visL ([], [])).1 = o2 at h2 hsp
  generalize (M.foldl G.visL ([], [])).2 = s2 at h2 hsp
  have H2 := Lib.hid h2
  have HSp := Lib.hid hsp
  clear h2 hsp
  go_wp2_with fail
  go_loopg [10] N (fun kk _ wr => ∃ (v : Value) (out st : List Nat), Spd w.heap.size N w wr out st v ∧ G.Spr f N M out st kk)
  case atStart => exact ⟨v2, o2, s2, H2.out, HSp.out⟩
  case round =>
    obtain ⟨v, out, st, hR, hnum⟩ := hrel
    have hstl : st.length ≤ out.length := by
      have h1 := G.nodup_sub hnum.snd hnum.sub
      exact h1
    have s1 := hR.lb.cell
    have s2 := hR.lb.frozen
    have s3 := hR.sb.cell
    have HR := Lib.hid hR
    have HNm := Lib.hid hnum
    rcases gsnoc st with rfl | ⟨r, x, rfl⟩
    · obtain ⟨vA, vc, hv0, hvc, hvm⟩ := hR.row.form
      rw [List.length_map, List.length_nil] at hv0
      subst hv0
      clear hR hnum hstl
      go_wp2
      go_ret
      exact ⟨w.heap.size, out, rfl, Nat.le_refl _, HR.out.met, HNm.out.done, HR.out.bel⟩
    · have hxN := hnum.lt x (hnum.sub x (by simp))
      have hrow := hR.row
      rw [List.map_append] at hrow
      obtain ⟨g, cc, rfl, q1, q2, q3, q4, q5, q6⟩ := hrow.lastI
      rw [List.length_map] at s1 q1 q3 q6
      have HQ6 := Lib.hid q6
      have q3' : wr.cell? ⟨g, r.length, none⟩ = some (.int .i64 x) := q3
      have hcut := hR.cut q6
      have HCut := Lib.hid hcut
      have hnx := HNx.out (wr.setCell ⟨w.heap.size + 2, 0, none⟩ (.slice (some ⟨g, 0, none⟩) r.length cc)) hcut.bel x hxN
      have HX := Lib.hid hnx
      have hst := hnum.step HF.out
      have HSt := Lib.hid hst
      have hr9 : r.length + 1 ≤ 4000000 := by
        have := G.nodup_len N hnum.nd hnum.lt
        simp at hstl; omega
      unfold maxLen at q2
      clear hR hnum hrow q3 q6 hcut hnx hst
      go_wp2_with (first | (go_at_fn fn; refine HX.out.mono ?_; rintro e w3 ⟨A3, c3, rfl, g1, g2, g3, g4⟩; have G3 := Lib.hid g3; have H3 := Lib.hid (HCut.out.more g4); clear g3 g4) | (go_at_call 59; refine (vis_r w.heap.size N w w3 S (f x) A3 c3 out r _ hN H3.out HS.out G3.out g1 g2 (HF.out x hxN) HNm.out.nd HNm.out.lt ?_).mono ?_; (· simp at hstl; omega); rintro e w4 ⟨rfl, v4, h4⟩; have H4 := Lib.hid h4; clear h4))
      go_roundg (gk - 1)
      case measure => exact HSt.out.2
      case rel => exact ⟨v4, _, _, H4.out, HSt.out.1⟩
end Go.Proofs.Ytnhdgndjpkdhdaa

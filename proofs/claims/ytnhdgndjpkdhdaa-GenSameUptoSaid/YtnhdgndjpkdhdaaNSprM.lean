/-
  gen.spread under way: what its variables are; its inner function visit.
-/
/-
  gen.spread.
-/
import Derived.Test.YtnhdgndjpkdhdaaNWayM
import Derived.Test.YtnhdgndjpkdhdaaDFree
import Derived.Shelf.Abstract
namespace Go.Proofs.Ytnhdgndjpkdhdaa
open Go.RowKit

/-- spread under way: who was met in block B, its variable in B + 1, what is left in the variable of B + 2. -/
structure Spd (B N : Nat) (w0 W : World) (out st : List Nat) (v : Value) : Prop where
  bel : Below B w0 W
  met : MetAt W B N out
  sb : Box W (B + 1) 45 (.slice (some ⟨B, 0, none⟩) N N)
  lb : Box W (B + 2) 25 v
  row : RowG srtI 3 (B + 3) W (fun _ => False) v (st.map Int.ofNat)

section
variable {B N : Nat} {w0 W W1 W6 : World} {out st : List Nat} {v v' : Value} {x : Nat}
/-- Whatever is new, nothing old is touched. -/
theorem Spd.more (h : Spd B N w0 W out st v) (hb : Below W.heap.size W W1) : Spd B N w0 W1 out st v := by
  have hz := h.lb.lt
  have k : Keeps (fun _ => False) W W1 := Keeps.of_below0 hb
  exact ⟨h.bel.trans (hb.mono (by omega)), (hb.block _ (by omega)).trans h.met, h.sb.keep k (fun e => e), h.lb.keep k (fun e => e), h.row.keep (F := fun _ => False) k (fun _ e _ => e.elim)⟩
theorem Spd.push (h : Spd B N w0 W out st v) (hW : W1 = (W.setCell ⟨B, x, none⟩ (.bool true)).alloc (.cells #[.int .i64 x] 3)) (hr : RowG srtI 3 (B + 3) W6 (fun _ => False) v' (st.map Int.ofNat ++ [(x : Int)]))
    (hk : Keeps (fun k => v.ownBlock = some k) W1 W6) (hv : v'.ownBlock = v.ownBlock ∨ v'.ownBlock = some W1.heap.size) : Spd B N w0 (W6.setCell ⟨B + 2, 0, none⟩ v') (out ++ [x]) (st ++ [x]) v' ∧ W6.cell? ⟨B + 2, 0, none⟩ = some v ∧ W6.frozen? ⟨B + 2, 0, none⟩ = false := by
  have hz := h.lb.lt
  have hs : ∀ k, v.ownBlock = some k → B + 3 ≤ k := fun k e => (h.row.block e).1
  have k1 : Keeps (fun k => k = B) W W1 := by rw [hW]; exact ((Keeps.refl (fun k => k = B) W).setCell (p := ⟨B, x, none⟩) (fun _ => rfl) _).alloc _
  have k2 : Keeps (fun k => k = B ∨ v.ownBlock = some k) W W6 := (k1.mono (fun i _ e => .inl e)).trans (hk.mono (fun i _ e => .inr e))
  have hv' : v'.ownBlock ≠ some (B + 2) := by
    rcases hv with e | e
    · rw [e]; intro e'; have := hs _ e'; omega
    · rw [e, hW]; simp [World.setCell]; omega
  have k3 : Keeps (fun k => k = B + 2) W6 (W6.setCell ⟨B + 2, 0, none⟩ v') := (Keeps.refl (fun k => k = B + 2) W6).setCell (p := ⟨B + 2, 0, none⟩) (fun _ => rfl) _
  have hz6 : B + 2 < W6.heap.size := Nat.lt_of_lt_of_le hz k2.size
  have hlb : Box W6 (B + 2) 25 v := h.lb.keep k2 (fun e => by rcases e with e | e; omega; have := hs _ e; omega)
  refine ⟨⟨?_, ?_, ?_, ?_, ?_⟩, hlb.cell, hlb.frozen⟩
  · exact h.bel.trans (((k2.mono (T' := fun k => B ≤ k) (fun i _ e => by rcases e with e | e; omega; have := hs _ e; omega)).trans (k3.mono (fun i _ e => by omega))).below (by omega) (fun i hi e => by omega))
  · have h1 : MetAt (W.setCell ⟨B, x, none⟩ (.bool true)) B N (out ++ [x]) := h.met.set x
    refine (k3.block _ (by omega) (by omega)).trans ((hk.block _ (Nat.lt_of_lt_of_le (by omega) k1.size) (fun e => by have := hs _ e; omega)).trans ?_)
    rw [hW]
    exact (Below.heap_alloc _ _ _ (by simp [World.setCell]; omega)).trans h1
  · exact (h.sb.keep k2 (fun e => by rcases e with e | e; omega; have := hs _ e; omega)).keep k3 (by omega)
  · exact hlb.set _
  · rw [List.map_append]
    exact hr.keep (F := fun k => k = B + 2) k3 (fun k e _ => ⟨fun e' => hv' (e ▸ e'), id⟩)
end

theorem visL_take (l : List Nat) (p : List Nat × List Nat) (k : Nat) (hk : k < l.length) : (l.take (k + 1)).foldl G.visL p = G.visL ((l.take k).foldl G.visL p) l[k] := by
  rw [List.take_add_one, List.getElem?_eq_getElem hk, List.foldl_append]
  rfl
theorem visL_lens {N : Nat} (l : List Nat) {out st : List Nat} (hn : out.Nodup) (hl : ∀ x, x ∈ out → x < N) (hst : st.length ≤ out.length) (hN : ∀ x, x ∈ l → x < N) : (l.foldl G.visL (out, st)).2.length ≤ N := by
  obtain ⟨t, h1, h2, h3, h4⟩ := G.visL_all l (out, st)
  rw [h1]
  have := G.nodup_len N (l := out ++ t) (by rw [List.nodup_append]; exact ⟨hn, h2, fun a ha b hb e => (h3 b hb).1 (e ▸ ha)⟩) (fun x hx => by
    rcases List.mem_append.1 hx with e | e
    · exact hl x e
    · exact hN x (h3 x e).2)
  simp only [List.length_append] at this ⊢
  omega

set_option maxRecDepth 100000 in
set_option maxHeartbeats 1000000 in
theorem vis_r (B N : Nat) (w0 w : World) (S : Nat → Prop) (l : List Nat) (A : Option Addr) (c : Nat) (out st : List Nat) (v : Value) (hN : N ≤ 2000000) (h : Spd B N w0 w out st v) (hS : ∀ k, S k → k < B) (hl : IntsO w S (l.map Int.ofNat) A) (hc : l.length ≤ c) (hcm : c ≤ maxLen)
    (hlN : ∀ x, x ∈ l → x < N) (hn : out.Nodup) (ho : ∀ x, x ∈ out → x < N) (hst : st.length ≤ out.length) :
    Calls Try.prog 59 #[.slice A l.length c, .pointer (some ⟨B + 1, 0, none⟩), .pointer (some ⟨B + 2, 0, none⟩)] w fun e w' => e = .returned (.tuple #[]) ∧ ∃ v', Spd B N w0 w' (l.foldl G.visL (out, st)).1 (l.foldl G.visL (out, st)).2 v' := by
  obtain ⟨i0, hi, hz0, hz1, hz2⟩ := info_parts infoInt
  have H := Lib.hid h
  have HS := Lib.hid hS
  have HL := Lib.hid (IntsO.keep (w' := w) (S' := S) (fun k hk => ⟨hk, rfl⟩) _ _ hl)
  have HlN := Lib.hid hlN
  have HLen := Lib.hid (fun k => visL_lens (N := N) (l.take k) hn ho hst (fun x hx => hlN x (List.mem_of_mem_take hx)))
  have hbw : ∀ W out' st' v', Spd B N w0 W out' st' v' → ∀ k, S k → W.heap[k]? = w.heap[k]? := fun W out' st' v' hh k hk => (hh.bel.block k (hS k hk)).trans (h.bel.block k (hS k hk)).symm
  have HBw := Lib.hid hbw
  clear h hS hl hlN hn ho hst hbw
  unfold maxLen at hcm
  go_enter Try.func59, Try.ntmps59
  go_wp2
  go_loopw [8] (fun i wr => ∃ (k : Nat) (v : Value), i = .int .i64 k ∧ k ≤ l.length ∧ Spd B N w0 wr ((l.take k).foldl G.visL (out, st)).1 ((l.take k).foldl G.visL (out, st)).2 v) (fun i _ => l.length - (intOf i).toNat)
  case atStart => exact ⟨0, v, rfl, Nat.zero_le _, by rw [List.take_zero]; exact H.out⟩
  case round =>
    obtain ⟨k, vk, rfl, hk, hsp⟩ := hrel
    have HSp := Lib.hid hsp
    by_cases hlt : k < l.length
    · obtain ⟨b, o, rfl, _, d1⟩ := IntsO.get _ _ (IntsO.keep (S' := S) (fun j hj => ⟨hj, HBw.out _ _ _ _ hsp j hj⟩) _ _ HL.out) k (by simpa using hlt)
      rw [List.getElem_map] at d1
      obtain ⟨x, hx⟩ : ∃ x, x = l[k] := ⟨_, rfl⟩
      have hxN : x < N := HlN.out x (by rw [hx]; exact List.getElem_mem hlt)
      rw [← hx] at d1
      have d1' : wr.cell? ⟨b, o + k, none⟩ = some (.int .i64 x) := d1
      have hst := visL_take l (out, st) k hlt
      rw [← hx] at hst
      have hle := HLen.out (k + 1)
      rw [hst] at hle
      have HSt := Lib.hid hst
      obtain ⟨p, hp⟩ : ∃ p, p = (l.take k).foldl G.visL (out, st) := ⟨_, rfl⟩
      rw [← hp] at hsp hle
      have HP := Lib.hid hp
      have s1 := hsp.sb.cell
      have s2 := hsp.lb.cell
      have s3 := hsp.lb.frozen
      obtain ⟨m1, m2⟩ := hsp.met.cell x hxN
      obtain ⟨vA, vc, hv0, hvc, hvm⟩ := hsp.row.form
      rw [List.length_map] at hv0 hvc
      subst hv0
      unfold maxLen at hvm
      have HSp2 := Lib.hid hsp
      unfold G.visL at hle
      clear d1 hx hst hp hsp
      by_cases hin : x ∈ p.1
      · rw [decide_eq_true hin] at m1
        have HIn := Lib.hid hin
        clear hin hle
        go_wp2
        go_roundw
        case rel => exact ⟨k + 1, _, by go_num, by omega, by rw [HSt.out, ← HP.out]; unfold G.visL; rw [if_pos HIn.out]; exact HSp2.out⟩
        case measure => simp [intOf]; omega
      · rw [decide_eq_false hin] at m1
        rw [if_neg hin] at hle
        simp only [List.length_append, List.length_singleton] at hle
        have HIn := Lib.hid hin
        clear hin
        have HRow := Lib.hid (HSp2.out.row.keep (F := fun k => k = B) (((Keeps.refl (fun k => k = B) wr).setCell (p := ⟨B, x, none⟩) (fun _ => rfl) (.bool true)).alloc (.cells #[.int .i64 x] 3)) (fun k e _ => ⟨fun e' => by have := (HSp2.out.row.block e').1; omega, id⟩))
        have hzB := HSp2.out.lb.lt
        go_wp2_with (at_builtin; (refine wpList_growB (T := srtI) (ms := [(x : Int)]) rfl (.tmp 20) (.tmp 22) 25 3 rfl i0 _ 8 Try.underlying25 hi hz0 hz1 hz2 rfl rfl HRow.out ⟨wr.heap.size, 0, none⟩ 1 [.int .i64 x] rfl (fun j u hj => gcell_new _ _ _ _ (by simp [World.setCell]) j u hj) (Items.one srtI rfl) ?_ ?_ ?_ (by simp) ?_; (· simp [maxLen]; omega); (· simp; omega); (· simp [World.setCell]; omega)); intro v6 w6 hrow6 hk6 hb6; obtain ⟨A7, c7, h70, hn7, hm7⟩ := hrow6.form; rw [List.length_append, List.length_map, List.length_singleton] at h70 hn7; subst h70; obtain ⟨hsp6, c6, f6⟩ := Spd.push HSp2.out rfl hrow6 hk6 hb6; have HR6 := Lib.hid hsp6; clear hsp6 hrow6 hk6 hb6)
        go_roundw
        case rel => exact ⟨k + 1, _, by go_num, by omega, by rw [HSt.out, ← HP.out]; unfold G.visL; rw [if_neg HIn.out]; exact HR6.out⟩
        case measure => simp [intOf]; omega
    · have hk' : k = l.length := by omega
      subst hk'
      rw [List.take_length] at hsp
      have HSp3 := Lib.hid hsp
      clear hsp
      go_wp2
      go_end0
      exact ⟨rfl, vk, HSp3.out⟩
end Go.Proofs.Ytnhdgndjpkdhdaa
namespace Go.Proofs.Ytnhdgndjpkdhdaa
open Go.RowKit Go.Shelf

theorem RowG.lastI {t : TypeId} {base : Nat} {w : World} {S : Nat → Prop} {v : Value} {es : List Int} {x : Int} (h : RowG srtI t base w S v (es ++ [x])) : ∃ g c, v = .slice (some ⟨g, 0, none⟩) (es.length + 1) c ∧ es.length + 1 ≤ c ∧ c ≤ maxLen ∧
    w.cell? ⟨g, es.length, none⟩ = some (.int .i64 x) ∧ base ≤ g ∧ g < w.heap.size ∧ RowG srtI t base w S (.slice (some ⟨g, 0, none⟩) es.length c) es := by
  obtain ⟨xs, h1, h2⟩ := h.raw
  obtain ⟨vl, ys, e1, e2, e3⟩ := Items.unsnoc es xs h2
  obtain ⟨g, c, hv, hc, hm⟩ := own_pos h1 (by simp)
  subst hv
  have hyl : ys.length = es.length := by have := Items.length srtI _ _ e3; simpa [srtI] using this
  have hcell := h1.cellAt es.length (by simp [srtI])
  have hlt := h1.lt g rfl
  have hlen : (es ++ [x]).length = es.length + 1 := by simp
  rw [hlen] at h1 hc
  refine ⟨g, c, by rw [hlen], hc, hm, ?_, hlt.1, hlt.2, ⟨ys, own_cut (k := 1) h1 ?_ (by simp [srtI, hyl]), e3⟩, h.apart, h.old⟩
  · rw [hcell, e1, List.getElem?_append_right (by omega), hyl]
    have : vl = .int .i64 x := e2
    subst this
    simp [Value.cells]
  · rw [e1, List.take_append_of_le_length (by simp [srtI, hyl])]
    exact List.take_of_length_le (by simp [srtI, hyl])

section
variable {B N : Nat} {w0 W : World} {out st : List Nat} {v v' : Value}
theorem Spd.cut (h : Spd B N w0 W out st v) {st' : List Nat} (hr : RowG srtI 3 (B + 3) W (fun _ => False) v' (st'.map Int.ofNat)) : Spd B N w0 (W.setCell ⟨B + 2, 0, none⟩ v') out st' v' := by
  have hz := h.lb.lt
  have k3 : Keeps (fun k => k = B + 2) W (W.setCell ⟨B + 2, 0, none⟩ v') := (Keeps.refl (fun k => k = B + 2) W).setCell (p := ⟨B + 2, 0, none⟩) (fun _ => rfl) _
  refine ⟨h.bel.trans (k3.below (by omega) (fun i hi e => by omega)), (k3.block _ (by omega) (by omega)).trans h.met, h.sb.keep k3 (by omega), h.lb.set _, hr.keep (F := fun k => k = B + 2) k3 (fun k e _ => ⟨fun e' => ?_, id⟩)⟩
  have := (hr.block e').1
  omega
/-- How spread begins. -/
theorem Spd.start (hw : W = (((w0.alloc (.cells (metCells N []) 4)).alloc (.cells #[.slice (some ⟨w0.heap.size, 0, none⟩) N N] 45)).alloc (.cells #[.slice none 0 0] 25))) : Spd w0.heap.size N w0 W [] [] (.slice none 0 0) := by
  subst hw
  refine ⟨(((Below.refl _ w0).alloc (Nat.le_refl _) _).alloc (by simp) _).alloc (by simp; omega) _, ?_, ?_, ?_, RowG.nil _ _ _⟩
  · exact ((Blk.new' _ _ _ rfl).alloc _).alloc _
  · exact (Blk.new' _ _ _ (by simp)).alloc _
  · exact Blk.new' _ _ _ (by simp)
end

set_option maxRecDepth 100000 in
set_option maxHeartbeats 2000000 in
theorem spread_r (w : World) (fn : Nat) (lb : Array Value) (f : Nat → List Nat) (N : Nat) (S S2 : Nat → Prop) (M : List Nat) (A : Option Addr) (c : Nat) (eg : ∀ args w, (callFunc fn args).run Try.prog w = .ok (.enter fn args) w)
    (hN : N ≤ 2000000) (hM : ∀ m, m ∈ M → m < N) (hI : IntsO w S2 (M.map Int.ofNat) A) (hc : M.length ≤ c) (hcm : c ≤ maxLen) (hS2 : ∀ k, S2 k → k < w.heap.size)
    (hf : ∀ a, a < N → ∀ y, y ∈ f a → y < N) (hS : ∀ k, S k → k < w.heap.size)
    (hn : ∀ W, Below w.heap.size w W → ∀ x, x < N → Calls Try.prog fn (#[.int .i64 (x : Nat)] ++ lb) W fun e w' => ∃ A c, e = .returned (.slice A (f x).length c) ∧ (f x).length ≤ c ∧ c ≤ maxLen ∧ IntsO w' S ((f x).map Int.ofNat) A ∧ Below W.heap.size W w') :
    Calls Try.prog 42 #[.int .i64 (N : Nat), .slice A M.length c, .func (.func fn) #[] lb] w fun e w' => ∃ B out, e = .returned (.slice (some ⟨B, 0, none⟩) N N) ∧ w.heap.size ≤ B ∧ MetAt w' B N out ∧ (∀ x, x ∈ out ↔ ∃ m, m ∈ M ∧ G.Way f m x) ∧ Below w.heap.size w w' := by
  have HM := Lib.hid hM
  have HI := Lib.hid hI
  have HS := Lib.hid hS
  have HS2 := Lib.hid hS2
  have HF := Lib.hid hf
  have HNx := Lib.hid hn
  have hmk := makeMet w N hN
  have hst := fun W => Spd.start (N := N) (w0 := w) (W := W)
  have HSt := Lib.hid hst
  unfold maxLen at hcm
  clear hM hI hS hS2 hf hn hst
  go_enter Try.func42, Try.ntmps42
  go_wp2_with fail
  rw [show w.heap.size + 1 + 1 = w.heap.size + 2 from rfl]
  have h0 := HSt.out _ rfl
  have HS0 := Lib.hid h0
  have hI1 : IntsO (((w.alloc (.cells (metCells N []) 4)).alloc (.cells #[.slice (some ⟨w.heap.size, 0, none⟩) N N] 45)).alloc (.cells #[.slice none 0 0] 25)) S2 (M.map Int.ofNat) A := IntsO.keep (fun k hk => ⟨hk, h0.bel.block k (HS2.out k hk)⟩) _ _ HI.out
  have HI1 := Lib.hid hI1
  clear h0 hI1 HSt hmk
  generalize (((w.alloc (.cells (metCells N []) 4)).alloc (.cells #[.slice (some ⟨w.heap.size, 0, none⟩) N N] 45)).alloc (.cells #[.slice none 0 0] 25)) = w1 at HS0 HI1 ⊢
  refine (vis_r w.heap.size N w w1 S2 M A c [] [] _ hN HS0.out HS2.out HI1.out hc (by unfold maxLen; exact hcm) HM.out (by simp) (by simp) (by simp)).mono ?_
  rintro e w2 ⟨rfl, v2, h2⟩
  have hsp := G.Spr.start (f := f) HM.out
  generalize (M.foldl G.visL ([], [])).1 = o2 at h2 hsp
  generalize (M.foldl G.visL ([], [])).2 = s2 at h2 hsp
  have H2 := Lib.hid h2
  have HSp := Lib.hid hsp
  clear h2 hsp
  go_wp2_with fail
  go_loopg [10] N (fun kk _ wr => ∃ (v : Value) (out st : List Nat), Spd w.heap.size N w wr out st v ∧ G.Spr f N M out st kk)
  case atStart => exact ⟨v2, o2, s2, H2.out, HSp.out⟩
  case round =>
    obtain ⟨v, out, st, hR, hnum⟩ := hrel
    have hstl : st.length ≤ out.length := by
      have h1 := G.nodup_sub hnum.snd hnum.sub
      exact h1
    have s1 := hR.lb.cell
    have s2 := hR.lb.frozen
    have s3 := hR.sb.cell
    have HR := Lib.hid hR
    have HNm := Lib.hid hnum
    rcases gsnoc st with rfl | ⟨r, x, rfl⟩
    · obtain ⟨vA, vc, hv0, hvc, hvm⟩ := hR.row.form
      rw [List.length_map, List.length_nil] at hv0
      subst hv0
      clear hR hnum hstl
      go_wp2
      go_ret
      exact ⟨w.heap.size, out, rfl, Nat.le_refl _, HR.out.met, HNm.out.done, HR.out.bel⟩
    · have hxN := hnum.lt x (hnum.sub x (by simp))
      have hrow := hR.row
      rw [List.map_append] at hrow
      obtain ⟨g, cc, rfl, q1, q2, q3, q4, q5, q6⟩ := hrow.lastI
      rw [List.length_map] at s1 q1 q3 q6
      have HQ6 := Lib.hid q6
      have q3' : wr.cell? ⟨g, r.length, none⟩ = some (.int .i64 x) := q3
      have hcut := hR.cut q6
      have HCut := Lib.hid hcut
      have hnx := HNx.out (wr.setCell ⟨w.heap.size + 2, 0, none⟩ (.slice (some ⟨g, 0, none⟩) r.length cc)) hcut.bel x hxN
      have HX := Lib.hid hnx
      have hst := hnum.step HF.out
      have HSt := Lib.hid hst
      have hr9 : r.length + 1 ≤ 4000000 := by
        have := G.nodup_len N hnum.nd hnum.lt
        simp at hstl; omega
      unfold maxLen at q2
      clear hR hnum hrow q3 q6 hcut hnx hst
      go_wp2_with (first | (go_at_fn fn; refine HX.out.mono ?_; rintro e w3 ⟨A3, c3, rfl, g1, g2, g3, g4⟩; have G3 := Lib.hid g3; have H3 := Lib.hid (HCut.out.more g4); clear g3 g4) | (go_at_call 59; refine (vis_r w.heap.size N w w3 S (f x) A3 c3 out r _ hN H3.out HS.out G3.out g1 g2 (HF.out x hxN) HNm.out.nd HNm.out.lt ?_).mono ?_; (· simp at hstl; omega); rintro e w4 ⟨rfl, v4, h4⟩; have H4 := Lib.hid h4; clear h4))
      go_roundg (gk - 1)
      case measure => exact HSt.out.2
      case rel => exact ⟨v4, _, _, H4.out, HSt.out.1⟩
end Go.Proofs.Ytnhdgndjpkdhdaa

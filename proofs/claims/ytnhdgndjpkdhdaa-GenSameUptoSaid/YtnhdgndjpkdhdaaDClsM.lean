/-
  graph.classes: of, alone, join, newClasses.
-/
/-
  graph.newClasses.
-/
import Derived.Test.YtnhdgndjpkdhdaaGCopy
import Derived.Test.YtnhdgndjpkdhdaaGNds
import Derived.Test.YtnhdgndjpkdhdaaDUfM
import Derived.BigRegion
import Derived.Deep.LoopGhost
namespace Go.Proofs.Ytnhdgndjpkdhdaa
open Go.RowKit

/-- Classes as they lie in memory. -/
def clsV (pB sB U : Nat) : Value := .agg #[.slice (some ⟨pB, 0, none⟩) U U, .slice (some ⟨sB, 0, none⟩) U U]

set_option maxRecDepth 100000 in
set_option maxHeartbeats 2000000 in
theorem of_r (w : World) (pB sB U x : Nat) (p c r : Nat → Nat) (B : Nat) (_hU : U ≤ 4000000) (hx : x < U) (h : G.UF U p c r B) (hp : NumAt w pB U p) :
    Calls Try.prog 65 #[.agg #[.slice (some ⟨pB, 0, none⟩) U U, .slice (some ⟨sB, 0, none⟩) U U], .int .i64 x] w fun e w' => e = .returned (.int .i64 (c x : Nat)) ∧ ∃ p', G.UF U p' c r B ∧ NumAt w' pB U p' ∧ Keeps (fun k => k = pB) w w' := by
  have hpl := hp.lt
  have hne : pB ≠ w.heap.size := by omega
  have hb0 : Blk (w.alloc (.cells #[.slice (some ⟨pB, 0, none⟩) U U, .slice (some ⟨sB, 0, none⟩) U U] 73)) w.heap.size (.cells #[.slice (some ⟨pB, 0, none⟩) U U, .slice (some ⟨sB, 0, none⟩) U U] 73 (0, 0)) := Blk.new' _ _ _ rfl
  have HB0 := Lib.hid hb0
  have hp1 : NumAt (w.alloc (.cells #[.slice (some ⟨pB, 0, none⟩) U U, .slice (some ⟨sB, 0, none⟩) U U] 73)) pB U p := (gheap_past _ _ _ hpl).trans hp
  have HP1 := Lib.hid hp1
  have hk1 : Keeps (fun k => k = pB) w (w.alloc (.cells #[.slice (some ⟨pB, 0, none⟩) U U, .slice (some ⟨sB, 0, none⟩) U U] 73)) := (Keeps.refl _ w).alloc _
  have HK1 := Lib.hid hk1
  have HUF := Lib.hid h
  obtain ⟨cx, hcx⟩ : ∃ cx, cx = c x := ⟨_, rfl⟩
  rw [← hcx]
  have HCx := Lib.hid hcx.symm
  clear hb0 hp hp1 hk1 h hcx
  go_enter Try.func65, Try.ntmps65
  go_wp2
  generalize w.alloc (.cells #[.slice (some ⟨pB, 0, none⟩) U U, .slice (some ⟨sB, 0, none⟩) U U] 73) = w1 at HB0 HP1 HK1 ⊢
  go_loopg [1] (B - r x) (fun kk i wr => ∃ (y : Nat) (q : Nat → Nat), i = .int .i64 y ∧ y < U ∧ c y = cx ∧ B - r y ≤ kk ∧ G.UF U q c r B ∧ NumAt wr pB U q ∧ Blk wr w.heap.size (.cells #[.slice (some ⟨pB, 0, none⟩) U U, .slice (some ⟨sB, 0, none⟩) U U] 73 (0, 0)) ∧ Keeps (fun k => k = pB) w wr)
  case atStart => exact ⟨x, p, rfl, hx, HCx.out, Nat.le_refl _, HUF.out, HP1.out, HB0.out, HK1.out⟩
  case round =>
    obtain ⟨y, q, rfl, hy, hcy, hgo, huf, hnum, hblk, hk⟩ := hrel
    have hqy := huf.plt y hy
    obtain ⟨c0, z0⟩ := hnum.cell y hy
    have b0 := hblk.cells.1 0
    have HCy := Lib.hid hcy
    have HGo := Lib.hid hgo
    have HUf := Lib.hid huf
    have HNum := Lib.hid hnum
    have HBlk := Lib.hid hblk
    have HK := Lib.hid hk
    clear hcy hgo huf hnum hblk hk
    by_cases he : q y = y
    · have hne1 : (((q y : Nat) : Int) != (y : Int)) = false := by rw [bne_eq_false_iff_eq]; omega
      have hfx : y = cx := by rw [← HCy.out]; exact (HUf.out.fix y hy he).symm
      have HFx := Lib.hid hfx
      clear he hfx
      go_wp2
      go_ret
      exact ⟨ret_int (by rw [HFx.out]), q, HUf.out, HNum.out, HK.out⟩
    · have hne1 : (((q y : Nat) : Int) != (y : Int)) = true := by rw [bne_iff_ne]; omega
      obtain ⟨s1, s2, s3⟩ := HUf.out.step hy he
      obtain ⟨c1, z1⟩ := HNum.out.cell (q y) hqy
      obtain ⟨v, hv⟩ : ∃ v, v = q (q y) := ⟨_, rfl⟩
      rw [← hv] at s1 s2 s3 c1
      have hset : NumAt (wr.drew.setCell ⟨pB, y, none⟩ (.int .i64 (v : Nat))) pB U (G.upd q y v) := NumAt.set (w := wr.drew) HNum.out y v _ (fun i _ => rfl)
      have huf2 : G.UF U (G.upd q y v) c r B := by rw [hv]; exact HUf.out.half hy
      have HSet := Lib.hid hset
      have HUf2 := Lib.hid huf2
      have HS2 := Lib.hid s2
      have HS3 := Lib.hid s3
      have hpW : pB < wr.heap.size := HNum.out.lt
      have hblk2 : Blk (wr.drew.setCell ⟨pB, y, none⟩ (.int .i64 (v : Nat))) w.heap.size (.cells #[.slice (some ⟨pB, 0, none⟩) U U, .slice (some ⟨sB, 0, none⟩) U U] 73 (0, 0)) := (Below.heap_setCell _ _ _ _ (fun e => hne e.symm)).trans HBlk.out
      have HBlk2 := Lib.hid hblk2
      have d0 := hblk2.cells.1 0
      have d1 := (hset.cell y hy).1
      have hupd : G.upd q y v y = v := G.upd_same q y v
      rw [hupd] at d1
      clear he hset huf2 s2 s3 hv hblk2 hupd
      go_wp2
      go_region
      go_wp2
      go_roundg (gk - 1)
      case measure => have := HS3.out; have := HGo.out; omega
      case rel => exact ⟨v, _, rfl, s1, HS2.out.trans HCy.out, by have := HS3.out; have := HGo.out; omega, HUf2.out, HSet.out, HBlk2.out, HK.out.drew.setCell (fun _ => rfl) _⟩

theorem alone_r (w : World) (pB sB U x : Nat) (s : Nat → Nat) (b : Bool) (_hU : U ≤ 4000000) (hx : x < U) (hs : NumAt w sB U s) (hb : decide (s x = 1) = b) :
    Calls Try.prog 67 #[.agg #[.slice (some ⟨pB, 0, none⟩) U U, .slice (some ⟨sB, 0, none⟩) U U], .int .i64 x] w fun e w' => e = .returned (.bool b) ∧ Below w.heap.size w w' := by
  have hsl := hs.lt
  obtain ⟨c0, z0⟩ := hs.cell x hx
  have he : (((s x : Nat) : Int) == 1) = b := by rw [← hb]; exact ilen1 (s x)
  have HE := Lib.hid he
  clear hb hs
  cases b <;>
  · have he' := HE.out
    go_enter Try.func67, Try.ntmps67
    go_wp2
    go_ret
    exact ⟨rfl, (Below.refl _ _).alloc (Nat.le_refl _) _⟩

theorem NumAt.far {w : World} {b N : Nat} {f : Nat → Nat} (h : NumAt w b N f) {p : Addr} (hp : b ≠ p.block) (u : Value) : NumAt (w.setCell p u) b N f := (Below.heap_setCell w p u b hp).trans h
/-- The sizes tell how many belong to each class. -/
def SZ (U : Nat) (c s : Nat → Nat) : Prop := ∀ z, z < U → c z = z → s z = G.cnt c U z
theorem SZ.join {U x y : Nat} {c s : Nat → Nat} (h : SZ U c s) (hx : x < U) (hy : y < U) (cx : c x = x) (cy : c y = y) (hne : x ≠ y) : SZ U (G.joinC c x y) (G.upd s x (s x + s y)) := by
  intro z hz hc
  by_cases e : z = x
  · subst e
    rw [G.upd_same, h z hx cx, h y hy cy, G.cnt_join hne]
  · have h1 : c z ≠ y := fun e2 => by
      unfold G.joinC at hc
      rw [if_pos e2] at hc
      exact e hc.symm
    have h2 : c z = z := by
      unfold G.joinC at hc
      rwa [if_neg h1] at hc
    rw [G.upd_other s e, h z hz h2, G.cnt_join' e (fun e3 => h1 (by rw [h2]; exact e3))]

set_option maxRecDepth 100000 in
set_option maxHeartbeats 2000000 in
theorem join_r (w : World) (pB sB U x y : Nat) (p s c r : Nat → Nat) (B : Nat) (hU : U ≤ 4000000) (hx : x < U) (hy : y < U) (cx : c x = x) (cy : c y = y) (hxy : x ≠ y) (hps : pB ≠ sB) (h : G.UF U p c r B) (hz : SZ U c s) (hp : NumAt w pB U p) (hs : NumAt w sB U s) :
    Calls Try.prog 68 #[.agg #[.slice (some ⟨pB, 0, none⟩) U U, .slice (some ⟨sB, 0, none⟩) U U], .int .i64 x, .int .i64 y] w fun e w' => e = .returned (.tuple #[]) ∧ ∃ p' s' c' r' B', G.UF U p' c' r' B' ∧ SZ U c' s' ∧ (c' = G.joinC c x y ∨ c' = G.joinC c y x) ∧ NumAt w' pB U p' ∧ NumAt w' sB U s' ∧ Keeps (fun k => k = pB ∨ k = sB) w w' := by
  have hpl := hp.lt
  have hsl := hs.lt
  have hne1 : pB ≠ w.heap.size := by omega
  have hne2 : sB ≠ w.heap.size := by omega
  have hsx : s x ≤ U := by rw [hz x hx cx]; exact G.cnt_le _ _
  have hsy : s y ≤ U := by rw [hz y hy cy]; exact G.cnt_le _ _
  obtain ⟨sx, hsx'⟩ : ∃ v, v = s x := ⟨_, rfl⟩
  obtain ⟨sy, hsy'⟩ : ∃ v, v = s y := ⟨_, rfl⟩
  obtain ⟨x0, x1⟩ := hs.cell x hx
  obtain ⟨y0, y1⟩ := hs.cell y hy
  obtain ⟨a0, a1⟩ := hp.cell x hx
  obtain ⟨b0, b1⟩ := hp.cell y hy
  rw [← hsx'] at hsx x0
  rw [← hsy'] at hsy y0
  obtain ⟨W, hW⟩ : ∃ W, W = (w.alloc (.cells #[.slice (some ⟨pB, 0, none⟩) U U, .slice (some ⟨sB, 0, none⟩) U U] 73)) := ⟨_, rfl⟩
  have hk1 : Keeps (fun k => k = pB ∨ k = sB) w W := by rw [hW]; exact (Keeps.refl _ w).alloc _
  have hp1 : NumAt W pB U p := by rw [hW]; exact (gheap_past _ _ _ hpl).trans hp
  have hs1 : NumAt W sB U s := by rw [hW]; exact (gheap_past _ _ _ hsl).trans hs
  have HK1 := Lib.hid hk1
  have HP1 := Lib.hid hp1
  have HS1 := Lib.hid hs1
  have HUF := Lib.hid h
  have HSZ := Lib.hid hz
  have HSx := Lib.hid hsx'
  have HSy := Lib.hid hsy'
  have HCx := Lib.hid cx
  have HCy := Lib.hid cy
  clear hp hs hk1 hp1 hs1 h hz hsx' hsy' cx cy
  by_cases hlt : sx < sy
  · have hlt' : decide ((sx : Int) < (sy : Int)) = true := by rw [decide_eq_true_eq]; omega
    go_enter Try.func68, Try.ntmps68
    go_wp2
    go_quiet (fail)
    go_wp2
    go_region
    go_end0
    refine ⟨rfl, G.upd p x y, G.upd s y (s y + s x), G.joinC c y x, _, _, HUF.out.join hy hx HCy.out HCx.out (Ne.symm hxy), HSZ.out.join hy hx HCy.out HCx.out (Ne.symm hxy), .inr rfl, ?_, ?_, ?_⟩
    · rw [← hW]
      refine NumAt.far ?_ hps _
      exact NumAt.set (w := W.drewN nq) HP1.out x y _ (fun i _ => rfl)
    · rw [← hW, show ((sy : Int) + (sx : Int)) = ((sy + sx : Nat) : Int) by omega, HSy.out, HSx.out]
      exact NumAt.set (w := ((W.drewN nq).setCell ⟨pB, x, none⟩ (.int .i64 (y : Nat))).drew) (NumAt.far (w := W.drewN nq) HS1.out (Ne.symm hps) _) y _ _ (fun i _ => rfl)
    · rw [← hW]
      exact (((HK1.out.drewN nq).setCell (p := ⟨pB, x, none⟩) (fun _ => .inl rfl) _).drew).setCell (p := ⟨sB, y, none⟩) (fun _ => .inr rfl) _
  · have hlt' : decide ((sx : Int) < (sy : Int)) = false := by rw [decide_eq_false_iff_not]; omega
    go_enter Try.func68, Try.ntmps68
    go_wp2
    go_quiet (fail)
    go_wp2
    go_region
    go_end0
    refine ⟨rfl, G.upd p y x, G.upd s x (s x + s y), G.joinC c x y, _, _, HUF.out.join hx hy HCx.out HCy.out hxy, HSZ.out.join hx hy HCx.out HCy.out hxy, .inl rfl, ?_, ?_, ?_⟩
    · rw [← hW]
      refine NumAt.far ?_ hps _
      exact NumAt.set (w := W.drewN nq) HP1.out y x _ (fun i _ => rfl)
    · rw [← hW, show ((sx : Int) + (sy : Int)) = ((sx + sy : Nat) : Int) by omega, HSx.out, HSy.out]
      exact NumAt.set (w := ((W.drewN nq).setCell ⟨pB, y, none⟩ (.int .i64 (x : Nat))).drew) (NumAt.far (w := W.drewN nq) HS1.out (Ne.symm hps) _) x _ _ (fun i _ => rfl)
    · rw [← hW]
      exact (((HK1.out.drewN nq).setCell (p := ⟨pB, y, none⟩) (fun _ => .inl rfl) _).drew).setCell (p := ⟨sB, x, none⟩) (fun _ => .inr rfl) _
end Go.Proofs.Ytnhdgndjpkdhdaa
namespace Go.Proofs.Ytnhdgndjpkdhdaa
open Go.RowKit

/-- New classes under way. -/
structure NC (w W : World) (n cB pB sB : Nat) (fp fs : Nat → Nat) : Prop where
  bel : Below w.heap.size w W
  res : Blk W w.heap.size (.cells #[.slice none 0 0, .slice none 0 0] 73 (0, 0))
  var : Blk W cB (.cells #[.slice (some ⟨pB, 0, none⟩) n n, .slice (some ⟨sB, 0, none⟩) n n] 73 (0, 0))
  par : NumAt W pB n fp
  siz : NumAt W sB n fs
  ps : pB ≠ sB
  cp : cB ≠ pB
  cs : cB ≠ sB
  lc : w.heap.size < cB
  lp : w.heap.size < pB
  ls : w.heap.size < sB
section
variable {w W : World} {n cB pB sB : Nat} {fp fs : Nat → Nat}
theorem NC.drew (h : NC w W n cB pB sB fp fs) : NC w W.drew n cB pB sB fp fs := ⟨h.bel.drew, h.res, h.var, h.par, h.siz, h.ps, h.cp, h.cs, h.lc, h.lp, h.ls⟩
theorem NC.setP (h : NC w W n cB pB sB fp fs) (a y : Nat) (g : Nat → Nat) (hg : ∀ i, i < n → g i = if i = a then y else fp i) : NC w (W.setCell ⟨pB, a, none⟩ (.int .i64 (y : Nat))) n cB pB sB g fs :=
  ⟨h.bel.setCell (Nat.le_of_lt h.lp) _, (Below.heap_setCell _ _ _ _ (fun e => by have := h.lp; simp at e; omega)).trans h.res, (Below.heap_setCell _ _ _ _ h.cp).trans h.var, h.par.set a y g hg, h.siz.far (Ne.symm h.ps) _, h.ps, h.cp, h.cs, h.lc, h.lp, h.ls⟩
theorem NC.setS (h : NC w W n cB pB sB fp fs) (a y : Nat) (g : Nat → Nat) (hg : ∀ i, i < n → g i = if i = a then y else fs i) : NC w (W.setCell ⟨sB, a, none⟩ (.int .i64 (y : Nat))) n cB pB sB fp g :=
  ⟨h.bel.setCell (Nat.le_of_lt h.ls) _, (Below.heap_setCell _ _ _ _ (fun e => by have := h.ls; simp at e; omega)).trans h.res, (Below.heap_setCell _ _ _ _ h.cs).trans h.var, h.par.far h.ps _, h.siz.set a y g hg, h.ps, h.cp, h.cs, h.lc, h.lp, h.ls⟩
end
def fillTo (f : Nat → Nat) (k x : Nat) : Nat := if x < k then f x else 0
theorem fillTo_zero (f : Nat → Nat) : fillTo f 0 = fun _ => 0 := by funext x; simp [fillTo]
theorem fillTo_step (f : Nat → Nat) (k i : Nat) : fillTo f (k + 1) i = if i = k then f k else fillTo f k i := by
  unfold fillTo
  by_cases e : i = k
  · subst e; simp
  · rw [if_neg e]
    by_cases h : i < k
    · rw [if_pos h, if_pos (by omega)]
    · rw [if_neg h, if_neg (by omega)]

theorem NumAt.congr {w : World} {b N : Nat} {f g : Nat → Nat} (h : NumAt w b N f) (he : ∀ i, i < N → g i = f i) : NumAt w b N g := by
  have e : numCells N g = numCells N f := by
    unfold numCells
    congr 1
    apply List.map_congr_left
    intro i hi
    rw [he i (List.mem_range.1 hi)]
  unfold NumAt
  rw [e]; exact h

set_option maxRecDepth 100000 in
set_option maxHeartbeats 4000000 in
theorem newClasses_r (w : World) (n : Nat) (hn : n ≤ 4000000) :
    Calls Try.prog 56 #[.int .i64 n] w fun e w' => ∃ pB sB, e = .returned (.agg #[.slice (some ⟨pB, 0, none⟩) n n, .slice (some ⟨sB, 0, none⟩) n n]) ∧ NumAt w' pB n (fun x => x) ∧ NumAt w' sB n (fun _ => 1) ∧ pB ≠ sB ∧ w.heap.size ≤ pB ∧ w.heap.size ≤ sB ∧ Below w.heap.size w w' := by
  have hmk := fun W => makeNum W n (by omega)
  go_enter Try.func56, Try.ntmps56
  go_wp2
  go_region
  all_goals go_wp2
  all_goals clear hmk
  · have hnc : NC w (((((w.alloc (.cells #[.slice none 0 0, .slice none 0 0] 73)).alloc (.cells (numCells n fun _ => 0) 3)).alloc (.cells (numCells n fun _ => 0) 3)).alloc (.cells #[.slice (some ⟨w.heap.size + 1, 0, none⟩) n n, .slice (some ⟨w.heap.size + 1 + 1, 0, none⟩) n n] 73)).drew) n (w.heap.size + 1 + 1 + 1) (w.heap.size + 1) (w.heap.size + 1 + 1) (fun _ => 0) (fun _ => 0) := by
      refine ⟨((((((Below.refl _ w).alloc (Nat.le_refl _) _).alloc (by simp) _).alloc (by simp; omega) _).alloc (by simp; omega) _)).drew, Blk.drew (Blk.alloc (Blk.alloc (Blk.alloc (Blk.new' _ _ _ rfl) _) _) _), Blk.drew (Blk.new' _ _ _ (by simp)), Blk.drew (Blk.alloc (Blk.alloc (Blk.new' _ _ _ (by simp)) _) _), Blk.drew (Blk.alloc (Blk.new' _ _ _ (by simp)) _), by omega, by omega, by omega, by omega, by omega, by omega⟩
    have HNc := Lib.hid hnc
    clear hnc
    generalize ((((w.alloc (.cells #[.slice none 0 0, .slice none 0 0] 73)).alloc (.cells (numCells n fun _ => 0) 3)).alloc (.cells (numCells n fun _ => 0) 3)).alloc (.cells #[.slice (some ⟨w.heap.size + 1, 0, none⟩) n n, .slice (some ⟨w.heap.size + 1 + 1, 0, none⟩) n n] 73)).drew = W1 at HNc ⊢
    generalize w.heap.size + 1 + 1 + 1 = cB at HNc ⊢
    generalize w.heap.size + 1 + 1 = sB at HNc ⊢
    generalize w.heap.size + 1 = pB at HNc ⊢
    go_loopw [4, 11] (fun _ i wr => ∃ k : Nat, i = .int .i64 k ∧ k ≤ n ∧ NC w wr n cB pB sB (fillTo (fun x => x) k) (fillTo (fun _ => 1) k)) (fun _ i _ => n - (intOf i).toNat)
    case atStart => exact ⟨0, rfl, Nat.zero_le _, by rw [fillTo_zero, fillTo_zero]; exact HNc.out⟩
    case round =>
      obtain ⟨k, rfl, hk, hnc⟩ := hrel
      have HN := Lib.hid hnc
      obtain ⟨n1, n2, n3⟩ := (⟨hnc.ps, hnc.cp, hnc.cs⟩ : pB ≠ sB ∧ cB ≠ pB ∧ cB ≠ sB)
      have v0 := hnc.var.cells.1 0
      have v1 := hnc.var.cells.1 1
      clear hnc
      by_cases hlt : k < n
      · obtain ⟨a0, a1⟩ := HN.out.par.cell k hlt
        obtain ⟨b0, b1⟩ := HN.out.siz.cell k hlt
        go_wp2
        go_region
        all_goals go_wp2
        all_goals go_roundw
        all_goals first
          | exact ⟨k + 1, by go_num, by omega, (HN.out.drew.setP k k _ (fun i _ => fillTo_step (fun x => x) k i)).setS k 1 _ (fun i _ => fillTo_step (fun _ => 1) k i)⟩
          | exact ⟨k + 1, by go_num, by omega, (HN.out.drew.setS k 1 _ (fun i _ => fillTo_step (fun _ => 1) k i)).setP k k _ (fun i _ => fillTo_step (fun x => x) k i)⟩
          | (simp [intOf]; omega)
      · have hk' : k = n := by omega
        have hbR := HN.out.res
        obtain ⟨g1, g2⟩ := hbR.cells
        have g10 := g1 0
        have g11 := g1 1
        have g20 := g2 0
        have g21 := g2 1
        have hpar : NumAt wr pB n (fun x => x) := HN.out.par.congr (fun i hi => by unfold fillTo; rw [if_pos (by omega)])
        have hsiz : NumAt wr sB n (fun _ => 1) := HN.out.siz.congr (fun i hi => by unfold fillTo; rw [if_pos (by omega)])
        have hlp := HN.out.lp
        have hls := HN.out.ls
        have hbS := (hbR.set 0 (.slice (some ⟨pB, 0, none⟩) n n)).set 1 (.slice (some ⟨sB, 0, none⟩) n n)
        have hpar2 : NumAt ((wr.setCell ⟨w.heap.size, 0, none⟩ (.slice (some ⟨pB, 0, none⟩) n n)).setCell ⟨w.heap.size, 1, none⟩ (.slice (some ⟨sB, 0, none⟩) n n)) pB n (fun x => x) := (hpar.far (p := ⟨w.heap.size, 0, none⟩) (by simp; omega) _).far (p := ⟨w.heap.size, 1, none⟩) (by simp; omega) _
        have hsiz2 : NumAt ((wr.setCell ⟨w.heap.size, 0, none⟩ (.slice (some ⟨pB, 0, none⟩) n n)).setCell ⟨w.heap.size, 1, none⟩ (.slice (some ⟨sB, 0, none⟩) n n)) sB n (fun _ => 1) := (hsiz.far (p := ⟨w.heap.size, 0, none⟩) (by simp; omega) _).far (p := ⟨w.heap.size, 1, none⟩) (by simp; omega) _
        have hbW : Below w.heap.size w ((wr.setCell ⟨w.heap.size, 0, none⟩ (.slice (some ⟨pB, 0, none⟩) n n)).setCell ⟨w.heap.size, 1, none⟩ (.slice (some ⟨sB, 0, none⟩) n n)) := (HN.out.bel.setCell (by simp) _).setCell (by simp) _
        have HbS := Lib.hid hbS
        have HP2 := Lib.hid hpar2
        have HS2 := Lib.hid hsiz2
        have HbW := Lib.hid hbW
        clear hbS hpar hsiz hpar2 hsiz2 hbW hbR g1 g2 hk'
        go_wp2
        generalize ((wr.setCell ⟨w.heap.size, 0, none⟩ (.slice (some ⟨pB, 0, none⟩) n n)).setCell ⟨w.heap.size, 1, none⟩ (.slice (some ⟨sB, 0, none⟩) n n)) = W9 at HbS HP2 HS2 HbW ⊢
        obtain ⟨p1, p2⟩ := HbS.out.cells
        have p10 : W9.cell? ⟨w.heap.size, 0, none⟩ = some (.slice (some ⟨pB, 0, none⟩) n n) := p1 0
        have p11 : W9.cell? ⟨w.heap.size, 1, none⟩ = some (.slice (some ⟨sB, 0, none⟩) n n) := p1 1
        refine bodyPost_ret (v := .agg #[.slice (some ⟨pB, 0, none⟩) n n, .slice (some ⟨sB, 0, none⟩) n n]) (by simp [results, Try.results56, go_sem, p10, p11]) rfl ?_
        exact ⟨pB, sB, rfl, HP2.out, HS2.out, n1, Nat.le_of_lt hlp, Nat.le_of_lt hls, HbW.out⟩
  · have hnc : NC w (((((w.alloc (.cells #[.slice none 0 0, .slice none 0 0] 73)).alloc (.cells (numCells n fun _ => 0) 3)).alloc (.cells #[.slice (some ⟨w.heap.size + 1, 0, none⟩) n n, .slice (some ⟨w.heap.size + 1 + 1 + 1, 0, none⟩) n n] 73)).alloc (.cells (numCells n fun _ => 0) 3)).drew) n (w.heap.size + 1 + 1) (w.heap.size + 1) (w.heap.size + 1 + 1 + 1) (fun _ => 0) (fun _ => 0) := by
      refine ⟨((((((Below.refl _ w).alloc (Nat.le_refl _) _).alloc (by simp) _).alloc (by simp; omega) _).alloc (by simp; omega) _)).drew, Blk.drew (Blk.alloc (Blk.alloc (Blk.alloc (Blk.new' _ _ _ rfl) _) _) _), Blk.drew (Blk.alloc (Blk.new' _ _ _ (by simp)) _), Blk.drew (Blk.alloc (Blk.alloc (Blk.new' _ _ _ (by simp)) _) _), Blk.drew (Blk.new' _ _ _ (by simp)), by omega, by omega, by omega, by omega, by omega, by omega⟩
    have HNc := Lib.hid hnc
    clear hnc
    generalize ((((w.alloc (.cells #[.slice none 0 0, .slice none 0 0] 73)).alloc (.cells (numCells n fun _ => 0) 3)).alloc (.cells #[.slice (some ⟨w.heap.size + 1, 0, none⟩) n n, .slice (some ⟨w.heap.size + 1 + 1 + 1, 0, none⟩) n n] 73)).alloc (.cells (numCells n fun _ => 0) 3)).drew = W1 at HNc ⊢
    generalize w.heap.size + 1 + 1 + 1 = sB at HNc ⊢
    generalize w.heap.size + 1 + 1 = cB at HNc ⊢
    generalize w.heap.size + 1 = pB at HNc ⊢
    go_loopw [4, 11] (fun _ i wr => ∃ k : Nat, i = .int .i64 k ∧ k ≤ n ∧ NC w wr n cB pB sB (fillTo (fun x => x) k) (fillTo (fun _ => 1) k)) (fun _ i _ => n - (intOf i).toNat)
    case atStart => exact ⟨0, rfl, Nat.zero_le _, by rw [fillTo_zero, fillTo_zero]; exact HNc.out⟩
    case round =>
      obtain ⟨k, rfl, hk, hnc⟩ := hrel
      have HN := Lib.hid hnc
      obtain ⟨n1, n2, n3⟩ := (⟨hnc.ps, hnc.cp, hnc.cs⟩ : pB ≠ sB ∧ cB ≠ pB ∧ cB ≠ sB)
      have v0 := hnc.var.cells.1 0
      have v1 := hnc.var.cells.1 1
      clear hnc
      by_cases hlt : k < n
      · obtain ⟨a0, a1⟩ := HN.out.par.cell k hlt
        obtain ⟨b0, b1⟩ := HN.out.siz.cell k hlt
        go_wp2
        go_region
        all_goals go_wp2
        all_goals go_roundw
        all_goals first
          | exact ⟨k + 1, by go_num, by omega, (HN.out.drew.setP k k _ (fun i _ => fillTo_step (fun x => x) k i)).setS k 1 _ (fun i _ => fillTo_step (fun _ => 1) k i)⟩
          | exact ⟨k + 1, by go_num, by omega, (HN.out.drew.setS k 1 _ (fun i _ => fillTo_step (fun _ => 1) k i)).setP k k _ (fun i _ => fillTo_step (fun x => x) k i)⟩
          | (simp [intOf]; omega)
      · have hk' : k = n := by omega
        have hbR := HN.out.res
        obtain ⟨g1, g2⟩ := hbR.cells
        have g10 := g1 0
        have g11 := g1 1
        have g20 := g2 0
        have g21 := g2 1
        have hpar : NumAt wr pB n (fun x => x) := HN.out.par.congr (fun i hi => by unfold fillTo; rw [if_pos (by omega)])
        have hsiz : NumAt wr sB n (fun _ => 1) := HN.out.siz.congr (fun i hi => by unfold fillTo; rw [if_pos (by omega)])
        have hlp := HN.out.lp
        have hls := HN.out.ls
        have hbS := (hbR.set 0 (.slice (some ⟨pB, 0, none⟩) n n)).set 1 (.slice (some ⟨sB, 0, none⟩) n n)
        have hpar2 : NumAt ((wr.setCell ⟨w.heap.size, 0, none⟩ (.slice (some ⟨pB, 0, none⟩) n n)).setCell ⟨w.heap.size, 1, none⟩ (.slice (some ⟨sB, 0, none⟩) n n)) pB n (fun x => x) := (hpar.far (p := ⟨w.heap.size, 0, none⟩) (by simp; omega) _).far (p := ⟨w.heap.size, 1, none⟩) (by simp; omega) _
        have hsiz2 : NumAt ((wr.setCell ⟨w.heap.size, 0, none⟩ (.slice (some ⟨pB, 0, none⟩) n n)).setCell ⟨w.heap.size, 1, none⟩ (.slice (some ⟨sB, 0, none⟩) n n)) sB n (fun _ => 1) := (hsiz.far (p := ⟨w.heap.size, 0, none⟩) (by simp; omega) _).far (p := ⟨w.heap.size, 1, none⟩) (by simp; omega) _
        have hbW : Below w.heap.size w ((wr.setCell ⟨w.heap.size, 0, none⟩ (.slice (some ⟨pB, 0, none⟩) n n)).setCell ⟨w.heap.size, 1, none⟩ (.slice (some ⟨sB, 0, none⟩) n n)) := (HN.out.bel.setCell (by simp) _).setCell (by simp) _
        have HbS := Lib.hid hbS
        have HP2 := Lib.hid hpar2
        have HS2 := Lib.hid hsiz2
        have HbW := Lib.hid hbW
        clear hbS hpar hsiz hpar2 hsiz2 hbW hbR g1 g2 hk'
        go_wp2
        generalize ((wr.setCell ⟨w.heap.size, 0, none⟩ (.slice (some ⟨pB, 0, none⟩) n n)).setCell ⟨w.heap.size, 1, none⟩ (.slice (some ⟨sB, 0, none⟩) n n)) = W9 at HbS HP2 HS2 HbW ⊢
        obtain ⟨p1, p2⟩ := HbS.out.cells
        have p10 : W9.cell? ⟨w.heap.size, 0, none⟩ = some (.slice (some ⟨pB, 0, none⟩) n n) := p1 0
        have p11 : W9.cell? ⟨w.heap.size, 1, none⟩ = some (.slice (some ⟨sB, 0, none⟩) n n) := p1 1
        refine bodyPost_ret (v := .agg #[.slice (some ⟨pB, 0, none⟩) n n, .slice (some ⟨sB, 0, none⟩) n n]) (by simp [results, Try.results56, go_sem, p10, p11]) rfl ?_
        exact ⟨pB, sB, rfl, HP2.out, HS2.out, n1, Nat.le_of_lt hlp, Nat.le_of_lt hls, HbW.out⟩
  · have hnc : NC w (((((w.alloc (.cells #[.slice none 0 0, .slice none 0 0] 73)).alloc (.cells (numCells n fun _ => 0) 3)).alloc (.cells (numCells n fun _ => 0) 3)).alloc (.cells #[.slice (some ⟨w.heap.size + 1 + 1, 0, none⟩) n n, .slice (some ⟨w.heap.size + 1, 0, none⟩) n n] 73)).drew) n (w.heap.size + 1 + 1 + 1) (w.heap.size + 1 + 1) (w.heap.size + 1) (fun _ => 0) (fun _ => 0) := by
      refine ⟨((((((Below.refl _ w).alloc (Nat.le_refl _) _).alloc (by simp) _).alloc (by simp; omega) _).alloc (by simp; omega) _)).drew, Blk.drew (Blk.alloc (Blk.alloc (Blk.alloc (Blk.new' _ _ _ rfl) _) _) _), Blk.drew (Blk.new' _ _ _ (by simp)), Blk.drew (Blk.alloc (Blk.new' _ _ _ (by simp)) _), Blk.drew (Blk.alloc (Blk.alloc (Blk.new' _ _ _ (by simp)) _) _), by omega, by omega, by omega, by omega, by omega, by omega⟩
    have HNc := Lib.hid hnc
    clear hnc
    generalize ((((w.alloc (.cells #[.slice none 0 0, .slice none 0 0] 73)).alloc (.cells (numCells n fun _ => 0) 3)).alloc (.cells (numCells n fun _ => 0) 3)).alloc (.cells #[.slice (some ⟨w.heap.size + 1 + 1, 0, none⟩) n n, .slice (some ⟨w.heap.size + 1, 0, none⟩) n n] 73)).drew = W1 at HNc ⊢
    generalize w.heap.size + 1 + 1 + 1 = cB at HNc ⊢
    generalize w.heap.size + 1 + 1 = pB at HNc ⊢
    generalize w.heap.size + 1 = sB at HNc ⊢
    go_loopw [4, 11] (fun _ i wr => ∃ k : Nat, i = .int .i64 k ∧ k ≤ n ∧ NC w wr n cB pB sB (fillTo (fun x => x) k) (fillTo (fun _ => 1) k)) (fun _ i _ => n - (intOf i).toNat)
    case atStart => exact ⟨0, rfl, Nat.zero_le _, by rw [fillTo_zero, fillTo_zero]; exact HNc.out⟩
    case round =>
      obtain ⟨k, rfl, hk, hnc⟩ := hrel
      have HN := Lib.hid hnc
      obtain ⟨n1, n2, n3⟩ := (⟨hnc.ps, hnc.cp, hnc.cs⟩ : pB ≠ sB ∧ cB ≠ pB ∧ cB ≠ sB)
      have v0 := hnc.var.cells.1 0
      have v1 := hnc.var.cells.1 1
      clear hnc
      by_cases hlt : k < n
      · obtain ⟨a0, a1⟩ := HN.out.par.cell k hlt
        obtain ⟨b0, b1⟩ := HN.out.siz.cell k hlt
        go_wp2
        go_region
        all_goals go_wp2
        all_goals go_roundw
        all_goals first
          | exact ⟨k + 1, by go_num, by omega, (HN.out.drew.setP k k _ (fun i _ => fillTo_step (fun x => x) k i)).setS k 1 _ (fun i _ => fillTo_step (fun _ => 1) k i)⟩
          | exact ⟨k + 1, by go_num, by omega, (HN.out.drew.setS k 1 _ (fun i _ => fillTo_step (fun _ => 1) k i)).setP k k _ (fun i _ => fillTo_step (fun x => x) k i)⟩
          | (simp [intOf]; omega)
      · have hk' : k = n := by omega
        have hbR := HN.out.res
        obtain ⟨g1, g2⟩ := hbR.cells
        have g10 := g1 0
        have g11 := g1 1
        have g20 := g2 0
        have g21 := g2 1
        have hpar : NumAt wr pB n (fun x => x) := HN.out.par.congr (fun i hi => by unfold fillTo; rw [if_pos (by omega)])
        have hsiz : NumAt wr sB n (fun _ => 1) := HN.out.siz.congr (fun i hi => by unfold fillTo; rw [if_pos (by omega)])
        have hlp := HN.out.lp
        have hls := HN.out.ls
        have hbS := (hbR.set 0 (.slice (some ⟨pB, 0, none⟩) n n)).set 1 (.slice (some ⟨sB, 0, none⟩) n n)
        have hpar2 : NumAt ((wr.setCell ⟨w.heap.size, 0, none⟩ (.slice (some ⟨pB, 0, none⟩) n n)).setCell ⟨w.heap.size, 1, none⟩ (.slice (some ⟨sB, 0, none⟩) n n)) pB n (fun x => x) := (hpar.far (p := ⟨w.heap.size, 0, none⟩) (by simp; omega) _).far (p := ⟨w.heap.size, 1, none⟩) (by simp; omega) _
        have hsiz2 : NumAt ((wr.setCell ⟨w.heap.size, 0, none⟩ (.slice (some ⟨pB, 0, none⟩) n n)).setCell ⟨w.heap.size, 1, none⟩ (.slice (some ⟨sB, 0, none⟩) n n)) sB n (fun _ => 1) := (hsiz.far (p := ⟨w.heap.size, 0, none⟩) (by simp; omega) _).far (p := ⟨w.heap.size, 1, none⟩) (by simp; omega) _
        have hbW : Below w.heap.size w ((wr.setCell ⟨w.heap.size, 0, none⟩ (.slice (some ⟨pB, 0, none⟩) n n)).setCell ⟨w.heap.size, 1, none⟩ (.slice (some ⟨sB, 0, none⟩) n n)) := (HN.out.bel.setCell (by simp) _).setCell (by simp) _
        have HbS := Lib.hid hbS
        have HP2 := Lib.hid hpar2
        have HS2 := Lib.hid hsiz2
        have HbW := Lib.hid hbW
        clear hbS hpar hsiz hpar2 hsiz2 hbW hbR g1 g2 hk'
        go_wp2
        generalize ((wr.setCell ⟨w.heap.size, 0, none⟩ (.slice (some ⟨pB, 0, none⟩) n n)).setCell ⟨w.heap.size, 1, none⟩ (.slice (some ⟨sB, 0, none⟩) n n)) = W9 at HbS HP2 HS2 HbW ⊢
        obtain ⟨p1, p2⟩ := HbS.out.cells
        have p10 : W9.cell? ⟨w.heap.size, 0, none⟩ = some (.slice (some ⟨pB, 0, none⟩) n n) := p1 0
        have p11 : W9.cell? ⟨w.heap.size, 1, none⟩ = some (.slice (some ⟨sB, 0, none⟩) n n) := p1 1
        refine bodyPost_ret (v := .agg #[.slice (some ⟨pB, 0, none⟩) n n, .slice (some ⟨sB, 0, none⟩) n n]) (by simp [results, Try.results56, go_sem, p10, p11]) rfl ?_
        exact ⟨pB, sB, rfl, HP2.out, HS2.out, n1, Nat.le_of_lt hlp, Nat.le_of_lt hls, HbW.out⟩
  · have hnc : NC w (((((w.alloc (.cells #[.slice none 0 0, .slice none 0 0] 73)).alloc (.cells (numCells n fun _ => 0) 3)).alloc (.cells #[.slice (some ⟨w.heap.size + 1 + 1 + 1, 0, none⟩) n n, .slice (some ⟨w.heap.size + 1, 0, none⟩) n n] 73)).alloc (.cells (numCells n fun _ => 0) 3)).drew) n (w.heap.size + 1 + 1) (w.heap.size + 1 + 1 + 1) (w.heap.size + 1) (fun _ => 0) (fun _ => 0) := by
      refine ⟨((((((Below.refl _ w).alloc (Nat.le_refl _) _).alloc (by simp) _).alloc (by simp; omega) _).alloc (by simp; omega) _)).drew, Blk.drew (Blk.alloc (Blk.alloc (Blk.alloc (Blk.new' _ _ _ rfl) _) _) _), Blk.drew (Blk.alloc (Blk.new' _ _ _ (by simp)) _), Blk.drew (Blk.new' _ _ _ (by simp)), Blk.drew (Blk.alloc (Blk.alloc (Blk.new' _ _ _ (by simp)) _) _), by omega, by omega, by omega, by omega, by omega, by omega⟩
    have HNc := Lib.hid hnc
    clear hnc
    generalize ((((w.alloc (.cells #[.slice none 0 0, .slice none 0 0] 73)).alloc (.cells (numCells n fun _ => 0) 3)).alloc (.cells #[.slice (some ⟨w.heap.size + 1 + 1 + 1, 0, none⟩) n n, .slice (some ⟨w.heap.size + 1, 0, none⟩) n n] 73)).alloc (.cells (numCells n fun _ => 0) 3)).drew = W1 at HNc ⊢
    generalize w.heap.size + 1 + 1 + 1 = pB at HNc ⊢
    generalize w.heap.size + 1 + 1 = cB at HNc ⊢
    generalize w.heap.size + 1 = sB at HNc ⊢
    go_loopw [4, 11] (fun _ i wr => ∃ k : Nat, i = .int .i64 k ∧ k ≤ n ∧ NC w wr n cB pB sB (fillTo (fun x => x) k) (fillTo (fun _ => 1) k)) (fun _ i _ => n - (intOf i).toNat)
    case atStart => exact ⟨0, rfl, Nat.zero_le _, by rw [fillTo_zero, fillTo_zero]; exact HNc.out⟩
    case round =>
      obtain ⟨k, rfl, hk, hnc⟩ := hrel
      have HN := Lib.hid hnc
      obtain ⟨n1, n2, n3⟩ := (⟨hnc.ps, hnc.cp, hnc.cs⟩ : pB ≠ sB ∧ cB ≠ pB ∧ cB ≠ sB)
      have v0 := hnc.var.cells.1 0
      have v1 := hnc.var.cells.1 1
      clear hnc
      by_cases hlt : k < n
      · obtain ⟨a0, a1⟩ := HN.out.par.cell k hlt
        obtain ⟨b0, b1⟩ := HN.out.siz.cell k hlt
        go_wp2
        go_region
        all_goals go_wp2
        all_goals go_roundw
        all_goals first
          | exact ⟨k + 1, by go_num, by omega, (HN.out.drew.setP k k _ (fun i _ => fillTo_step (fun x => x) k i)).setS k 1 _ (fun i _ => fillTo_step (fun _ => 1) k i)⟩
          | exact ⟨k + 1, by go_num, by omega, (HN.out.drew.setS k 1 _ (fun i _ => fillTo_step (fun _ => 1) k i)).setP k k _ (fun i _ => fillTo_step (fun x => x) k i)⟩
          | (simp [intOf]; omega)
      · have hk' : k = n := by omega
        have hbR := HN.out.res
        obtain ⟨g1, g2⟩ := hbR.cells
        have g10 := g1 0
        have g11 := g1 1
        have g20 := g2 0
        have g21 := g2 1
        have hpar : NumAt wr pB n (fun x => x) := HN.out.par.congr (fun i hi => by unfold fillTo; rw [if_pos (by omega)])
        have hsiz : NumAt wr sB n (fun _ => 1) := HN.out.siz.congr (fun i hi => by unfold fillTo; rw [if_pos (by omega)])
        have hlp := HN.out.lp
        have hls := HN.out.ls
        have hbS := (hbR.set 0 (.slice (some ⟨pB, 0, none⟩) n n)).set 1 (.slice (some ⟨sB, 0, none⟩) n n)
        have hpar2 : NumAt ((wr.setCell ⟨w.heap.size, 0, none⟩ (.slice (some ⟨pB, 0, none⟩) n n)).setCell ⟨w.heap.size, 1, none⟩ (.slice (some ⟨sB, 0, none⟩) n n)) pB n (fun x => x) := (hpar.far (p := ⟨w.heap.size, 0, none⟩) (by simp; omega) _).far (p := ⟨w.heap.size, 1, none⟩) (by simp; omega) _
        have hsiz2 : NumAt ((wr.setCell ⟨w.heap.size, 0, none⟩ (.slice (some ⟨pB, 0, none⟩) n n)).setCell ⟨w.heap.size, 1, none⟩ (.slice (some ⟨sB, 0, none⟩) n n)) sB n (fun _ => 1) := (hsiz.far (p := ⟨w.heap.size, 0, none⟩) (by simp; omega) _).far (p := ⟨w.heap.size, 1, none⟩) (by simp; omega) _
        have hbW : Below w.heap.size w ((wr.setCell ⟨w.heap.size, 0, none⟩ (.slice (some ⟨pB, 0, none⟩) n n)).setCell ⟨w.heap.size, 1, none⟩ (.slice (some ⟨sB, 0, none⟩) n n)) := (HN.out.bel.setCell (by simp) _).setCell (by simp) _
        have HbS := Lib.hid hbS
        have HP2 := Lib.hid hpar2
        have HS2 := Lib.hid hsiz2
        have HbW := Lib.hid hbW
        clear hbS hpar hsiz hpar2 hsiz2 hbW hbR g1 g2 hk'
        go_wp2
        generalize ((wr.setCell ⟨w.heap.size, 0, none⟩ (.slice (some ⟨pB, 0, none⟩) n n)).setCell ⟨w.heap.size, 1, none⟩ (.slice (some ⟨sB, 0, none⟩) n n)) = W9 at HbS HP2 HS2 HbW ⊢
        obtain ⟨p1, p2⟩ := HbS.out.cells
        have p10 : W9.cell? ⟨w.heap.size, 0, none⟩ = some (.slice (some ⟨pB, 0, none⟩) n n) := p1 0
        have p11 : W9.cell? ⟨w.heap.size, 1, none⟩ = some (.slice (some ⟨sB, 0, none⟩) n n) := p1 1
        refine bodyPost_ret (v := .agg #[.slice (some ⟨pB, 0, none⟩) n n, .slice (some ⟨sB, 0, none⟩) n n]) (by simp [results, Try.results56, go_sem, p10, p11]) rfl ?_
        exact ⟨pB, sB, rfl, HP2.out, HS2.out, n1, Nat.le_of_lt hlp, Nat.le_of_lt hls, HbW.out⟩
  · have hnc : NC w (((((w.alloc (.cells #[.slice none 0 0, .slice none 0 0] 73)).alloc (.cells #[.slice (some ⟨w.heap.size + 1 + 1, 0, none⟩) n n, .slice (some ⟨w.heap.size + 1 + 1 + 1, 0, none⟩) n n] 73)).alloc (.cells (numCells n fun _ => 0) 3)).alloc (.cells (numCells n fun _ => 0) 3)).drew) n (w.heap.size + 1) (w.heap.size + 1 + 1) (w.heap.size + 1 + 1 + 1) (fun _ => 0) (fun _ => 0) := by
      refine ⟨((((((Below.refl _ w).alloc (Nat.le_refl _) _).alloc (by simp) _).alloc (by simp; omega) _).alloc (by simp; omega) _)).drew, Blk.drew (Blk.alloc (Blk.alloc (Blk.alloc (Blk.new' _ _ _ rfl) _) _) _), Blk.drew (Blk.alloc (Blk.alloc (Blk.new' _ _ _ (by simp)) _) _), Blk.drew (Blk.alloc (Blk.new' _ _ _ (by simp)) _), Blk.drew (Blk.new' _ _ _ (by simp)), by omega, by omega, by omega, by omega, by omega, by omega⟩
    have HNc := Lib.hid hnc
    clear hnc
    generalize ((((w.alloc (.cells #[.slice none 0 0, .slice none 0 0] 73)).alloc (.cells #[.slice (some ⟨w.heap.size + 1 + 1, 0, none⟩) n n, .slice (some ⟨w.heap.size + 1 + 1 + 1, 0, none⟩) n n] 73)).alloc (.cells (numCells n fun _ => 0) 3)).alloc (.cells (numCells n fun _ => 0) 3)).drew = W1 at HNc ⊢
    generalize w.heap.size + 1 + 1 + 1 = sB at HNc ⊢
    generalize w.heap.size + 1 + 1 = pB at HNc ⊢
    generalize w.heap.size + 1 = cB at HNc ⊢
    go_loopw [4, 11] (fun _ i wr => ∃ k : Nat, i = .int .i64 k ∧ k ≤ n ∧ NC w wr n cB pB sB (fillTo (fun x => x) k) (fillTo (fun _ => 1) k)) (fun _ i _ => n - (intOf i).toNat)
    case atStart => exact ⟨0, rfl, Nat.zero_le _, by rw [fillTo_zero, fillTo_zero]; exact HNc.out⟩
    case round =>
      obtain ⟨k, rfl, hk, hnc⟩ := hrel
      have HN := Lib.hid hnc
      obtain ⟨n1, n2, n3⟩ := (⟨hnc.ps, hnc.cp, hnc.cs⟩ : pB ≠ sB ∧ cB ≠ pB ∧ cB ≠ sB)
      have v0 := hnc.var.cells.1 0
      have v1 := hnc.var.cells.1 1
      clear hnc
      by_cases hlt : k < n
      · obtain ⟨a0, a1⟩ := HN.out.par.cell k hlt
        obtain ⟨b0, b1⟩ := HN.out.siz.cell k hlt
        go_wp2
        go_region
        all_goals go_wp2
        all_goals go_roundw
        all_goals first
          | exact ⟨k + 1, by go_num, by omega, (HN.out.drew.setP k k _ (fun i _ => fillTo_step (fun x => x) k i)).setS k 1 _ (fun i _ => fillTo_step (fun _ => 1) k i)⟩
          | exact ⟨k + 1, by go_num, by omega, (HN.out.drew.setS k 1 _ (fun i _ => fillTo_step (fun _ => 1) k i)).setP k k _ (fun i _ => fillTo_step (fun x => x) k i)⟩
          | (simp [intOf]; omega)
      · have hk' : k = n := by omega
        have hbR := HN.out.res
        obtain ⟨g1, g2⟩ := hbR.cells
        have g10 := g1 0
        have g11 := g1 1
        have g20 := g2 0
        have g21 := g2 1
        have hpar : NumAt wr pB n (fun x => x) := HN.out.par.congr (fun i hi => by unfold fillTo; rw [if_pos (by omega)])
        have hsiz : NumAt wr sB n (fun _ => 1) := HN.out.siz.congr (fun i hi => by unfold fillTo; rw [if_pos (by omega)])
        have hlp := HN.out.lp
        have hls := HN.out.ls
        have hbS := (hbR.set 0 (.slice (some ⟨pB, 0, none⟩) n n)).set 1 (.slice (some ⟨sB, 0, none⟩) n n)
        have hpar2 : NumAt ((wr.setCell ⟨w.heap.size, 0, none⟩ (.slice (some ⟨pB, 0, none⟩) n n)).setCell ⟨w.heap.size, 1, none⟩ (.slice (some ⟨sB, 0, none⟩) n n)) pB n (fun x => x) := (hpar.far (p := ⟨w.heap.size, 0, none⟩) (by simp; omega) _).far (p := ⟨w.heap.size, 1, none⟩) (by simp; omega) _
        have hsiz2 : NumAt ((wr.setCell ⟨w.heap.size, 0, none⟩ (.slice (some ⟨pB, 0, none⟩) n n)).setCell ⟨w.heap.size, 1, none⟩ (.slice (some ⟨sB, 0, none⟩) n n)) sB n (fun _ => 1) := (hsiz.far (p := ⟨w.heap.size, 0, none⟩) (by simp; omega) _).far (p := ⟨w.heap.size, 1, none⟩) (by simp; omega) _
        have hbW : Below w.heap.size w ((wr.setCell ⟨w.heap.size, 0, none⟩ (.slice (some ⟨pB, 0, none⟩) n n)).setCell ⟨w.heap.size, 1, none⟩ (.slice (some ⟨sB, 0, none⟩) n n)) := (HN.out.bel.setCell (by simp) _).setCell (by simp) _
        have HbS := Lib.hid hbS
        have HP2 := Lib.hid hpar2
        have HS2 := Lib.hid hsiz2
        have HbW := Lib.hid hbW
        clear hbS hpar hsiz hpar2 hsiz2 hbW hbR g1 g2 hk'
        go_wp2
        generalize ((wr.setCell ⟨w.heap.size, 0, none⟩ (.slice (some ⟨pB, 0, none⟩) n n)).setCell ⟨w.heap.size, 1, none⟩ (.slice (some ⟨sB, 0, none⟩) n n)) = W9 at HbS HP2 HS2 HbW ⊢
        obtain ⟨p1, p2⟩ := HbS.out.cells
        have p10 : W9.cell? ⟨w.heap.size, 0, none⟩ = some (.slice (some ⟨pB, 0, none⟩) n n) := p1 0
        have p11 : W9.cell? ⟨w.heap.size, 1, none⟩ = some (.slice (some ⟨sB, 0, none⟩) n n) := p1 1
        refine bodyPost_ret (v := .agg #[.slice (some ⟨pB, 0, none⟩) n n, .slice (some ⟨sB, 0, none⟩) n n]) (by simp [results, Try.results56, go_sem, p10, p11]) rfl ?_
        exact ⟨pB, sB, rfl, HP2.out, HS2.out, n1, Nat.le_of_lt hlp, Nat.le_of_lt hls, HbW.out⟩
  · have hnc : NC w (((((w.alloc (.cells #[.slice none 0 0, .slice none 0 0] 73)).alloc (.cells #[.slice (some ⟨w.heap.size + 1 + 1 + 1, 0, none⟩) n n, .slice (some ⟨w.heap.size + 1 + 1, 0, none⟩) n n] 73)).alloc (.cells (numCells n fun _ => 0) 3)).alloc (.cells (numCells n fun _ => 0) 3)).drew) n (w.heap.size + 1) (w.heap.size + 1 + 1 + 1) (w.heap.size + 1 + 1) (fun _ => 0) (fun _ => 0) := by
      refine ⟨((((((Below.refl _ w).alloc (Nat.le_refl _) _).alloc (by simp) _).alloc (by simp; omega) _).alloc (by simp; omega) _)).drew, Blk.drew (Blk.alloc (Blk.alloc (Blk.alloc (Blk.new' _ _ _ rfl) _) _) _), Blk.drew (Blk.alloc (Blk.alloc (Blk.new' _ _ _ (by simp)) _) _), Blk.drew (Blk.new' _ _ _ (by simp)), Blk.drew (Blk.alloc (Blk.new' _ _ _ (by simp)) _), by omega, by omega, by omega, by omega, by omega, by omega⟩
    have HNc := Lib.hid hnc
    clear hnc
    generalize ((((w.alloc (.cells #[.slice none 0 0, .slice none 0 0] 73)).alloc (.cells #[.slice (some ⟨w.heap.size + 1 + 1 + 1, 0, none⟩) n n, .slice (some ⟨w.heap.size + 1 + 1, 0, none⟩) n n] 73)).alloc (.cells (numCells n fun _ => 0) 3)).alloc (.cells (numCells n fun _ => 0) 3)).drew = W1 at HNc ⊢
    generalize w.heap.size + 1 + 1 + 1 = pB at HNc ⊢
    generalize w.heap.size + 1 + 1 = sB at HNc ⊢
    generalize w.heap.size + 1 = cB at HNc ⊢
    go_loopw [4, 11] (fun _ i wr => ∃ k : Nat, i = .int .i64 k ∧ k ≤ n ∧ NC w wr n cB pB sB (fillTo (fun x => x) k) (fillTo (fun _ => 1) k)) (fun _ i _ => n - (intOf i).toNat)
    case atStart => exact ⟨0, rfl, Nat.zero_le _, by rw [fillTo_zero, fillTo_zero]; exact HNc.out⟩
    case round =>
      obtain ⟨k, rfl, hk, hnc⟩ := hrel
      have HN := Lib.hid hnc
      obtain ⟨n1, n2, n3⟩ := (⟨hnc.ps, hnc.cp, hnc.cs⟩ : pB ≠ sB ∧ cB ≠ pB ∧ cB ≠ sB)
      have v0 := hnc.var.cells.1 0
      have v1 := hnc.var.cells.1 1
      clear hnc
      by_cases hlt : k < n
      · obtain ⟨a0, a1⟩ := HN.out.par.cell k hlt
        obtain ⟨b0, b1⟩ := HN.out.siz.cell k hlt
        go_wp2
        go_region
        all_goals go_wp2
        all_goals go_roundw
        all_goals first
          | exact ⟨k + 1, by go_num, by omega, (HN.out.drew.setP k k _ (fun i _ => fillTo_step (fun x => x) k i)).setS k 1 _ (fun i _ => fillTo_step (fun _ => 1) k i)⟩
          | exact ⟨k + 1, by go_num, by omega, (HN.out.drew.setS k 1 _ (fun i _ => fillTo_step (fun _ => 1) k i)).setP k k _ (fun i _ => fillTo_step (fun x => x) k i)⟩
          | (simp [intOf]; omega)
      · have hk' : k = n := by omega
        have hbR := HN.out.res
        obtain ⟨g1, g2⟩ := hbR.cells
        have g10 := g1 0
        have g11 := g1 1
        have g20 := g2 0
        have g21 := g2 1
        have hpar : NumAt wr pB n (fun x => x) := HN.out.par.congr (fun i hi => by unfold fillTo; rw [if_pos (by omega)])
        have hsiz : NumAt wr sB n (fun _ => 1) := HN.out.siz.congr (fun i hi => by unfold fillTo; rw [if_pos (by omega)])
        have hlp := HN.out.lp
        have hls := HN.out.ls
        have hbS := (hbR.set 0 (.slice (some ⟨pB, 0, none⟩) n n)).set 1 (.slice (some ⟨sB, 0, none⟩) n n)
        have hpar2 : NumAt ((wr.setCell ⟨w.heap.size, 0, none⟩ (.slice (some ⟨pB, 0, none⟩) n n)).setCell ⟨w.heap.size, 1, none⟩ (.slice (some ⟨sB, 0, none⟩) n n)) pB n (fun x => x) := (hpar.far (p := ⟨w.heap.size, 0, none⟩) (by simp; omega) _).far (p := ⟨w.heap.size, 1, none⟩) (by simp; omega) _
        have hsiz2 : NumAt ((wr.setCell ⟨w.heap.size, 0, none⟩ (.slice (some ⟨pB, 0, none⟩) n n)).setCell ⟨w.heap.size, 1, none⟩ (.slice (some ⟨sB, 0, none⟩) n n)) sB n (fun _ => 1) := (hsiz.far (p := ⟨w.heap.size, 0, none⟩) (by simp; omega) _).far (p := ⟨w.heap.size, 1, none⟩) (by simp; omega) _
        have hbW : Below w.heap.size w ((wr.setCell ⟨w.heap.size, 0, none⟩ (.slice (some ⟨pB, 0, none⟩) n n)).setCell ⟨w.heap.size, 1, none⟩ (.slice (some ⟨sB, 0, none⟩) n n)) := (HN.out.bel.setCell (by simp) _).setCell (by simp) _
        have HbS := Lib.hid hbS
        have HP2 := Lib.hid hpar2
        have HS2 := Lib.hid hsiz2
        have HbW := Lib.hid hbW
        clear hbS hpar hsiz hpar2 hsiz2 hbW hbR g1 g2 hk'
        go_wp2
        generalize ((wr.setCell ⟨w.heap.size, 0, none⟩ (.slice (some ⟨pB, 0, none⟩) n n)).setCell ⟨w.heap.size, 1, none⟩ (.slice (some ⟨sB, 0, none⟩) n n)) = W9 at HbS HP2 HS2 HbW ⊢
        obtain ⟨p1, p2⟩ := HbS.out.cells
        have p10 : W9.cell? ⟨w.heap.size, 0, none⟩ = some (.slice (some ⟨pB, 0, none⟩) n n) := p1 0
        have p11 : W9.cell? ⟨w.heap.size, 1, none⟩ = some (.slice (some ⟨sB, 0, none⟩) n n) := p1 1
        refine bodyPost_ret (v := .agg #[.slice (some ⟨pB, 0, none⟩) n n, .slice (some ⟨sB, 0, none⟩) n n]) (by simp [results, Try.results56, go_sem, p10, p11]) rfl ?_
        exact ⟨pB, sB, rfl, HP2.out, HS2.out, n1, Nat.le_of_lt hlp, Nat.le_of_lt hls, HbW.out⟩
end Go.Proofs.Ytnhdgndjpkdhdaa

/-
  gen.backward.
-/
import Derived.Test.YtnhdgndjpkdhdaaNWayM
import Derived.Test.YtnhdgndjpkdhdaaNSprM
import Derived.Test.YtnhdgndjpkdhdaaGNds
namespace Go.Proofs.Ytnhdgndjpkdhdaa
open Go.RowKit

def RGr.fa (g : RGr) (a : Nat) : List Nat := (g.gr.f a).args
theorem fa_lt {g : RGr} (h : g.ok = true) (a : Nat) (ha : a < g.nodes.length) (y : Nat) (hy : y ∈ g.fa a) : y < g.nodes.length := by
  have h1 := RGr.ok_fit h
  have hgN : g.gr.nodes.length = g.nodes.length := by simp [RGr.gr]
  have := h1.args a (by rw [hgN]; exact ha) y hy
  rwa [hgN] at this
theorem fa_args {g : RGr} (h : g.ok = true) (a : Nat) (ha : a < g.nodes.length) : g.nodes[a].args = (g.fa a).map Int.ofNat := by
  unfold RGr.fa
  rw [gr_f g a ha, ofNat_toNat]
  intro z hz
  exact (ok_args h a ha z hz).1
def RGr.es (g : RGr) : List (Nat × Nat) := G.edges g.fa g.nodes.length
theorem es_lt {g : RGr} (h : g.ok = true) : ∀ e, e ∈ g.es → e.1 < g.nodes.length := fun e he => by
  obtain ⟨h1, h2⟩ := G.mem_edges.1 he
  exact fa_lt h _ h1 _ h2
theorem es_pre {g : RGr} {i k : Nat} {l : List Nat} (hl : l = g.fa i) (hi : i < g.nodes.length) (hk : k < l.length) : ∃ r, g.es = (G.edges g.fa i ++ (l.take k).map fun a => (a, i)) ++ (l[k], i) :: r := by
  subst hl
  obtain ⟨r, hr⟩ := G.edges_split g.fa hi
  refine ⟨((g.fa i).drop (k + 1)).map (fun a => (a, i)) ++ r, ?_⟩
  have h1 : (g.fa i).map (fun a => (a, i)) = ((g.fa i).take k).map (fun a => (a, i)) ++ ((g.fa i)[k], i) :: ((g.fa i).drop (k + 1)).map (fun a => (a, i)) := by
    rw [← List.map_cons (f := fun a => (a, i)), ← List.drop_eq_getElem_cons hk, ← List.map_append, List.take_append_drop]
  unfold RGr.es
  rw [hr, h1]
  simp only [List.append_assoc, List.cons_append]
theorem es_step (E : List (Nat × Nat)) (l : List Nat) (i k : Nat) (hk : k < l.length) : (E ++ (l.take (k + 1)).map fun a => (a, i)) = (E ++ (l.take k).map fun a => (a, i)) ++ [(l[k], i)] := by
  rw [List.take_add_one, List.getElem?_eq_getElem hk, Option.toList_some, List.map_append, List.append_assoc]
  rfl
theorem es_end (f : Nat → List Nat) (i : Nat) : (G.edges f i ++ ((f i).take (f i).length).map fun a => (a, i)) = G.edges f (i + 1) := by
  rw [List.take_length, G.edges_succ]

theorem NumAt.congrE {w : World} {b N : Nat} {f g : Nat → Nat} (h : NumAt w b N f) (hg : ∀ i, i < N → f i = g i) : NumAt w b N g := by
  unfold NumAt at h ⊢
  rw [h]
  have : numCells N f = numCells N g := by
    unfold numCells
    congr 1
    apply List.map_congr_left
    intro i hi
    rw [hg i (List.mem_range.1 hi)]
  rw [this]
theorem NumAt.farE {w : World} {b N : Nat} {f : Nat → Nat} (h : NumAt w b N f) {p : Addr} (hp : b ≠ p.block) (u : Value) : NumAt (w.setCell p u) b N f := (Below.heap_setCell w p u b hp).trans h

set_option maxRecDepth 100000 in
set_option maxHeartbeats 4000000 in
theorem back_r (w : World) (S : Nat → Prop) (g : RGr) (A : Option Addr) (c : Nat) (hok : g.ok = true) (hE : g.es.length ≤ 4000000) (hS : ∀ k, S k → k < w.heap.size) (hA : NdsO w S g.nodes A) (_hc : g.nodes.length ≤ c) (_hcm : c ≤ maxLen) :
    Calls Try.prog 47 #[.slice A g.nodes.length c] w fun e w' => ∃ b2 gm, w.heap.size < b2 ∧ e = .returned (.tuple #[.slice (some ⟨w.heap.size, 0, none⟩) (g.nodes.length + 1) (g.nodes.length + 2), .slice (some ⟨b2, 0, none⟩) g.es.length g.es.length]) ∧
      NumAt w' w.heap.size (g.nodes.length + 2) (G.fst1 g.es g.es) ∧ NumAt w' b2 g.es.length gm ∧ G.Put g.es g.es gm ∧ Below w.heap.size w w' := by
  have hN := RGr.ok_len hok
  obtain ⟨N, hNe⟩ : ∃ N, N = g.nodes.length := ⟨_, rfl⟩
  have hmk := makeNum w (N + 2) (by omega)
  rw [show (((N + 2 : Nat)) : Int) = (N : Int) + 2 from by omega] at hmk
  have HS := Lib.hid hS
  have HA := Lib.hid hA
  have HOk := Lib.hid hok
  unfold maxLen at _hcm
  rw [← hNe] at hN _hc
  rw [← hNe]
  have HNe := Lib.hid hNe
  clear hS hA hok hNe
  go_enter Try.func47, Try.ntmps47
  go_wp2
  have HB0 := Lib.hid (((Below.refl _ w).alloc (Nat.le_refl _) (.cells (numCells (N + 2) (fun _ => 0)) 3)) : Below w.heap.size w _)
  have HF0 : Hid (NumAt (w.alloc (.cells (numCells (N + 2) (fun _ => 0)) 3)) w.heap.size (N + 2) (G.fst0 (G.edges g.fa 0))) := Lib.hid (by
    unfold NumAt
    rw [heap_alloc_new]
    have : G.fst0 (G.edges g.fa 0) = fun _ => 0 := by funext j; exact G.fst0_nil j
    rw [this])
  clear hmk
  generalize (w.alloc (.cells (numCells (N + 2) (fun _ => 0)) 3)) = w1 at HB0 HF0 ⊢
  have hzb : w.heap.size < w1.heap.size := HF0.out.lt
  go_loopw [17] (fun i wr => ∃ k : Nat, i = .int .i64 k ∧ k ≤ N ∧ NumAt wr w.heap.size (N + 2) (G.fst0 (G.edges g.fa k)) ∧ Keeps (fun i => i = w.heap.size) w1 wr) (fun i _ => N - (intOf i).toNat)
  case atStart => exact ⟨0, rfl, Nat.zero_le _, HF0.out, Keeps.refl _ _⟩
  case round =>
    obtain ⟨k, rfl, hk, hnum, hkp⟩ := hrel
    have HNum := Lib.hid hnum
    have HKp := Lib.hid hkp
    by_cases hlt : k < N
    · have hkN : k < g.nodes.length := by have := HNe.out; omega
      have hbel : Below w.heap.size w wr := HB0.out.trans (hkp.below (by omega) (fun i hi e => by omega))
      obtain ⟨b1, o1, rfl, p1⟩ := NdsO.get _ _ (NdsO.keep (fun j hj => ⟨hj, hbel.block j (HS.out j hj)⟩) _ _ HA.out) k hkN
      have hfa := fa_args HOk.out k hkN
      obtain ⟨X, hX⟩ : ∃ X, X = g.nodes[k] := ⟨_, rfl⟩
      rw [← hX] at p1 hfa
      obtain ⟨xA, xB, xL, xM, f0, f1, f2, f3, f4, h1, h2, h3, h4, h5, h6, h7, h8⟩ := p1.val
      obtain ⟨l, hl⟩ : ∃ l, l = g.fa k := ⟨_, rfl⟩
      rw [← hl] at hfa
      rw [hfa] at f2 h2 h6
      rw [List.length_map] at f2 h2
      have HL := Lib.hid hl
      have H6 := Lib.hid h6
      unfold maxLen at h3
      clear hX p1 f0 f1 f3 f4 h1 h4 h5 h6 h7 h8 hfa hl hnum hkp hbel
      go_wp2
      go_loopw [26] (fun v26 wm => ∃ j : Nat, v26 = .int .i64 j ∧ j ≤ l.length ∧ NumAt wm w.heap.size (N + 2) (G.fst0 (G.edges g.fa k ++ (l.take j).map fun a => (a, k))) ∧ Keeps (fun i => i = w.heap.size) w1 wm) (fun v26 _ => l.length - (intOf v26).toNat)
      case atStart => exact ⟨0, rfl, Nat.zero_le _, by simpa using HNum.out, HKp.out⟩
      case round =>
        obtain ⟨j, rfl, hj, hnum, hkp⟩ := hrel
        have HNum2 := Lib.hid hnum
        have HKp2 := Lib.hid hkp
        by_cases hlt2 : j < l.length
        · have hbel : Below w.heap.size w wr := HB0.out.trans (hkp.below (by omega) (fun i hi e => by omega))
          obtain ⟨b2, o2, rfl, _, d1⟩ := IntsO.get _ _ (IntsO.keep (S' := S) (fun i hi => ⟨hi, (hbel.block i (HS.out i hi)).trans ((HB0.out.trans (HKp.out.below (by omega) (fun i hi e => by omega))).block i (HS.out i hi)).symm⟩) _ _ H6.out) j (by simpa using hlt2)
          rw [List.getElem_map] at d1
          obtain ⟨x, hx⟩ : ∃ x, x = l[j] := ⟨_, rfl⟩
          rw [← hx] at d1
          have d1' : wr.cell? ⟨b2, o2 + j, none⟩ = some (.int .i64 x) := d1
          have hxN : x < N := by
            rw [HNe.out]
            refine fa_lt HOk.out k hkN x ?_
            rw [hx, ← HL.out]
            exact List.getElem_mem hlt2
          have hes : (G.edges g.fa k ++ (l.take (j + 1)).map fun a => (a, k)) = (G.edges g.fa k ++ (l.take j).map fun a => (a, k)) ++ [(x, k)] := by
            rw [hx]; exact es_step _ l k j hlt2
          have HEs := Lib.hid hes
          have hple : (G.edges g.fa k ++ (l.take j).map fun a => (a, k)).length ≤ g.es.length := by
            obtain ⟨r, hr⟩ := es_pre HL.out hkN hlt2
            rw [hr]
            simp only [List.length_append, List.length_cons]
            omega
          obtain ⟨L, hLL⟩ : ∃ L, L = (G.edges g.fa k ++ (l.take j).map fun a => (a, k)) := ⟨_, rfl⟩
          rw [← hLL] at hnum hple
          have HLL := Lib.hid hLL
          obtain ⟨m1, m2⟩ := hnum.cell (x + 2) (by omega)
          obtain ⟨y, hy⟩ : ∃ y, y = G.fst0 L (x + 2) := ⟨_, rfl⟩
          rw [← hy] at m1
          have hyl : y ≤ 4000000 := by
            rw [hy]
            unfold G.fst0
            have := G.ecnt_len (L := L) (a := x + 2 - 2)
            split <;> omega
          have hset := hnum.set (x + 2) (y + 1) (G.fst0 (L ++ [(x, k)])) (fun i _ => by rw [G.fst0_snoc, hy])
          have HSet := Lib.hid hset
          clear d1 hx hes hLL hnum hkp hbel hy hple hset
          go_wp2
          go_roundw
          case rel => exact ⟨j + 1, by go_num, by omega, by rw [HEs.out, ← HLL.out]; exact HSet.out, HKp2.out.setCell (fun _ => rfl) _⟩
          case measure => simp [intOf]; omega
        · have hj' : j = l.length := by omega
          subst hj'
          have hnum2 : NumAt wr w.heap.size (N + 2) (G.fst0 (G.edges g.fa (k + 1))) := by
            have h := es_end g.fa k
            rw [← HL.out] at h
            rw [← h]; exact hnum
          have HN2 := Lib.hid hnum2
          clear hnum2 hnum hkp
          go_wp2
          go_roundw
          case rel => exact ⟨k + 1, by go_num, by omega, HN2.out, HKp2.out⟩
          case measure => simp [intOf]; omega
    · have hk' : k = N := by omega
      rw [hk'] at hnum
      have hEe : G.edges g.fa N = g.es := by unfold RGr.es; rw [← HNe.out]
      rw [hEe, ← show G.sums g.es 2 = G.fst0 g.es from funext (G.sums_two g.es)] at hnum
      have HNum3 := Lib.hid hnum
      clear hnum hkp hEe
      go_wp2
      go_loopw [7] (fun v7 wr => ∃ i : Nat, v7 = .int .i64 i ∧ 2 ≤ i ∧ i ≤ N + 2 ∧ NumAt wr w.heap.size (N + 2) (G.sums g.es i) ∧ Keeps (fun i => i = w.heap.size) w1 wr) (fun v7 _ => N + 2 - (intOf v7).toNat)
      case atStart => exact ⟨2, rfl, Nat.le_refl _, by omega, HNum3.out, HKp.out⟩
      case round =>
        obtain ⟨i, rfl, hi2, hiN, hnum, hkp⟩ := hrel
        have HNum4 := Lib.hid hnum
        have HKp4 := Lib.hid hkp
        by_cases hlt3 : i < N + 2
        · obtain ⟨m1, m2⟩ := hnum.cell i hlt3
          obtain ⟨m3, m4⟩ := hnum.cell (i - 1) (by omega)
          obtain ⟨y1, hy1⟩ : ∃ y, y = G.sums g.es i i := ⟨_, rfl⟩
          obtain ⟨y2, hy2⟩ : ∃ y, y = G.sums g.es i (i - 1) := ⟨_, rfl⟩
          have hset := hnum.set i (y1 + y2) (G.sums g.es (i + 1)) (fun j _ => by rw [G.sums_step _ _ hi2, hy1, hy2])
          have hle : y1 + y2 ≤ 4000000 := by
            have h := G.sums_step g.es i hi2 i
            rw [if_pos rfl, ← hy1, ← hy2] at h
            rw [← h]
            unfold G.sums
            rw [if_pos (by omega)]
            exact Nat.le_trans G.under_len hE
          rw [← hy1] at m1
          rw [← hy2] at m3
          have HSet := Lib.hid hset
          obtain ⟨i', rfl⟩ : ∃ i', i = i' + 1 := ⟨i - 1, by omega⟩
          rw [Nat.add_sub_cancel] at m3 m4
          clear hnum hkp hy1 hy2 hset
          go_wp2
          go_region
          all_goals go_wp2
          all_goals go_roundw
          all_goals first
            | exact ⟨i' + 1 + 1, by go_num, by omega, by omega, by have h := HSet.out; rw [Int.natCast_add] at h; exact h, (HKp4.out.setCell (p := ⟨w.heap.size, i' + 1, none⟩) (fun _ => rfl) _).drew⟩
            | (simp [intOf]; omega)
            | (have h : ((i' : Int) + 1 + 1).toNat = i' + 2 := by omega
               simp [intOf, h]; omega)
        · have hi' : i = N + 2 := by omega
          rw [hi'] at hnum
          have hsu : G.sums g.es (N + 2) (N + 1) = g.es.length := by
            unfold G.sums
            rw [if_pos (by omega)]
            exact G.under_all (by rw [show N + 1 - 1 = g.nodes.length from by have := HNe.out; omega]; exact es_lt HOk.out)
          obtain ⟨m1, m2⟩ := hnum.cell (N + 1) (by omega)
          rw [hsu] at m1
          have hmk := makeNum wr g.es.length (by omega)
          have hz4 := hnum.lt
          have hf4 : NumAt (wr.alloc (.cells (numCells g.es.length (fun _ => 0)) 3)) w.heap.size (N + 2) (G.fst1 g.es (G.edges g.fa 0)) := by
            refine NumAt.congrE (f := G.sums g.es (N + 2)) ((Below.heap_alloc _ _ _ hz4).trans hnum) (fun j hj => ?_)
            show _ = G.fst1 g.es [] j
            rw [G.fst1_nil]
            unfold G.sums
            rw [if_pos hj]
          have hg4 : NumAt (wr.alloc (.cells (numCells g.es.length (fun _ => 0)) 3)) wr.heap.size g.es.length (fun _ => 0) := heap_alloc_new _ _
          have HF4 := Lib.hid hf4
          have HG4 := Lib.hid hg4
          have HB4 := Lib.hid ((HB0.out.trans (hkp.below (by omega) (fun i hi e => by omega))).alloc (Nat.le_of_lt hz4) (.cells (numCells g.es.length (fun _ => 0)) 3))
          clear hnum hkp hsu hf4 hg4
          go_wp2
          have hz44 : wr.heap.size < (wr.alloc (.cells (numCells g.es.length (fun _ => 0)) 3)).heap.size := HG4.out.lt
          clear m1 m2 hmk
          obtain ⟨b2, hb2⟩ : ∃ b2, b2 = wr.heap.size := ⟨_, rfl⟩
          rw [← hb2] at HG4 hz4 hz44 ⊢
          generalize (wr.alloc (.cells (numCells g.es.length (fun _ => 0)) 3)) = w4 at HF4 HG4 HB4 hz44 ⊢
          clear hb2
          go_loopw [65] (fun v65 wr => ∃ (k : Nat) (gm : Nat → Nat), v65 = .int .i64 k ∧ k ≤ N ∧ NumAt wr w.heap.size (N + 2) (G.fst1 g.es (G.edges g.fa k)) ∧ NumAt wr b2 g.es.length gm ∧ G.Put g.es (G.edges g.fa k) gm ∧ Keeps (fun i => i = w.heap.size ∨ i = b2) w4 wr) (fun v65 _ => N - (intOf v65).toNat)
          case atStart => exact ⟨0, fun _ => 0, rfl, Nat.zero_le _, HF4.out, HG4.out, G.Put.nil, Keeps.refl _ _⟩
          case round =>
            obtain ⟨k, gm, rfl, hk, hnum, hgm, hput, hkp⟩ := hrel
            have HNum := Lib.hid hnum
            have HGm := Lib.hid hgm
            have HPut := Lib.hid hput
            have HKp := Lib.hid hkp
            by_cases hlt : k < N
            · have hkN : k < g.nodes.length := by have := HNe.out; omega
              have hbel : Below w.heap.size w wr := HB4.out.trans (hkp.below (by omega) (fun i hi e => by omega))
              obtain ⟨b1, o1, rfl, p1⟩ := NdsO.get _ _ (NdsO.keep (fun j hj => ⟨hj, hbel.block j (HS.out j hj)⟩) _ _ HA.out) k hkN
              have hfa := fa_args HOk.out k hkN
              obtain ⟨X, hX⟩ : ∃ X, X = g.nodes[k] := ⟨_, rfl⟩
              rw [← hX] at p1 hfa
              obtain ⟨xA, xB, xL, xM, f0, f1, f2, f3, f4, h1, h2, h3, h4, h5, h6, h7, h8⟩ := p1.val
              obtain ⟨l, hl⟩ : ∃ l, l = g.fa k := ⟨_, rfl⟩
              rw [← hl] at hfa
              rw [hfa] at f2 h2 h6
              rw [List.length_map] at f2 h2
              have HL := Lib.hid hl
              have H6 := Lib.hid h6
              have HBel := Lib.hid hbel
              unfold maxLen at h3
              clear hX p1 f0 f1 f3 f4 h1 h4 h5 h6 h7 h8 hfa hl hnum hgm hput hkp hbel
              go_wp2
              go_loopw [74] (fun v74 wm => ∃ (j : Nat) (gm : Nat → Nat), v74 = .int .i64 j ∧ j ≤ l.length ∧ NumAt wm w.heap.size (N + 2) (G.fst1 g.es (G.edges g.fa k ++ (l.take j).map fun a => (a, k))) ∧ NumAt wm b2 g.es.length gm ∧ G.Put g.es (G.edges g.fa k ++ (l.take j).map fun a => (a, k)) gm ∧ Keeps (fun i => i = w.heap.size ∨ i = b2) w4 wm) (fun v74 _ => l.length - (intOf v74).toNat)
              case atStart => exact ⟨0, gm, rfl, Nat.zero_le _, by simpa using HNum.out, HGm.out, by simpa using HPut.out, HKp.out⟩
              case round =>
                obtain ⟨j, gm2, rfl, hj, hnum, hgm, hput, hkp⟩ := hrel
                have HKp2 := Lib.hid hkp
                by_cases hlt2 : j < l.length
                · have hbel : Below w.heap.size w wr := HB4.out.trans (hkp.below (by omega) (fun i hi e => by omega))
                  obtain ⟨b5, o5, rfl, _, d1⟩ := IntsO.get _ _ (IntsO.keep (S' := S) (fun i hi => ⟨hi, (hbel.block i (HS.out i hi)).trans (HBel.out.block i (HS.out i hi)).symm⟩) _ _ H6.out) j (by simpa using hlt2)
                  rw [List.getElem_map] at d1
                  obtain ⟨x, hx⟩ : ∃ x, x = l[j] := ⟨_, rfl⟩
                  rw [← hx] at d1
                  have d1' : wr.cell? ⟨b5, o5 + j, none⟩ = some (.int .i64 x) := d1
                  have hxN : x < N := by
                    rw [HNe.out]
                    refine fa_lt HOk.out k hkN x ?_
                    rw [hx, ← HL.out]
                    exact List.getElem_mem hlt2
                  have hes : (G.edges g.fa k ++ (l.take (j + 1)).map fun a => (a, k)) = (G.edges g.fa k ++ (l.take j).map fun a => (a, k)) ++ [(x, k)] := by
                    rw [hx]; exact es_step _ l k j hlt2
                  have HEs := Lib.hid hes
                  obtain ⟨R, hR⟩ := es_pre HL.out hkN hlt2
                  rw [← hx] at hR
                  obtain ⟨L, hLL⟩ : ∃ L, L = (G.edges g.fa k ++ (l.take j).map fun a => (a, k)) := ⟨_, rfl⟩
                  rw [← hLL] at hnum hput hR
                  have HLL := Lib.hid hLL
                  have hpl := G.put_len hR
                  have hp2 := hput.step hR
                  simp only at hpl hp2
                  have hfe : G.fst1 g.es L (x + 1) = G.under g.es x + G.ecnt L x := by unfold G.fst1; rw [if_neg (by omega), Nat.add_sub_cancel]
                  obtain ⟨p, hp⟩ : ∃ p, p = G.under g.es x + G.ecnt L x := ⟨_, rfl⟩
                  rw [← hp] at hpl hp2 hfe
                  obtain ⟨m1, m2⟩ := hnum.cell (x + 1) (by omega)
                  rw [hfe] at m1
                  obtain ⟨m3, m4⟩ := hgm.cell p hpl
                  have hset := (hnum.farE (p := ⟨b2, p, none⟩) (by simp only; omega) (.int .i64 (k : Nat))).set (x + 1) (p + 1) (G.fst1 g.es (L ++ [(x, k)])) (fun i _ => by rw [G.fst1_snoc, hfe])
                  have hset2 := (hgm.set p k (fun i => if i = p then k else gm2 i) (fun i _ => rfl)).farE (p := ⟨w.heap.size, x + 1, none⟩) (by simp only; omega) (.int .i64 ((p + 1 : Nat) : Int))
                  have HSet := Lib.hid hset
                  have HSet2 := Lib.hid hset2
                  have HP2 := Lib.hid hp2
                  have hpl9 : p < 4000000 := by omega
                  have hne : ¬ w.heap.size = b2 := by omega
                  have m5 : (wr.setCell ⟨b2, p, none⟩ (.int .i64 (k : Nat))).cell? ⟨w.heap.size, x + 1, none⟩ = some (.int .i64 (p : Nat)) := by
                    have h := ((hnum.farE (p := ⟨b2, p, none⟩) (by simp only; omega) (.int .i64 (k : Nat))).cell (x + 1) (by omega)).1
                    rwa [hfe] at h
                  have m6 := ((hnum.farE (p := ⟨b2, p, none⟩) (by simp only; omega) (.int .i64 (k : Nat))).cell (x + 1) (by omega)).2
                  clear d1 hx hes hLL hnum hgm hput hkp hbel hset hset2 hp2 hR hfe hp
                  go_wp2
                  go_roundw
                  case rel => exact ⟨j + 1, _, by go_num, by omega, by rw [HEs.out, ← HLL.out]; exact HSet.out, HSet2.out, by rw [HEs.out, ← HLL.out]; exact HP2.out, (HKp2.out.setCell (p := ⟨b2, p, none⟩) (fun _ => .inr rfl) _).setCell (p := ⟨w.heap.size, x + 1, none⟩) (fun _ => .inl rfl) _⟩
                  case measure => simp [intOf]; omega
                · have hj' : j = l.length := by omega
                  subst hj'
                  have hq := es_end g.fa k
                  rw [← HL.out] at hq
                  rw [hq] at hnum hput
                  have HN2 := Lib.hid hnum
                  have HG2 := Lib.hid hgm
                  have HP2 := Lib.hid hput
                  clear hnum hgm hput hkp hq
                  go_wp2
                  go_roundw
                  case rel => exact ⟨k + 1, gm2, by go_num, by omega, HN2.out, HG2.out, HP2.out, HKp2.out⟩
                  case measure => simp [intOf]; omega
            · have hk' : k = N := by omega
              rw [hk'] at hnum hput
              have hEe : G.edges g.fa N = g.es := by unfold RGr.es; rw [← HNe.out]
              rw [hEe] at hnum hput
              have HN2 := Lib.hid hnum
              have HG2 := Lib.hid hgm
              have HP2 := Lib.hid hput
              clear hnum hgm hput hkp hEe
              go_wp2
              go_ret2
              exact ⟨b2, gm, hz4, rfl, HN2.out, HG2.out, HP2.out, HB4.out.trans (HKp.out.below (by omega) (fun i hi e => by omega))⟩
end Go.Proofs.Ytnhdgndjpkdhdaa

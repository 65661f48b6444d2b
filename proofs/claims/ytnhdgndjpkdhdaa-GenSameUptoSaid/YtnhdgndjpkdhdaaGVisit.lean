/-
  trefoilref06.visit.
-/
import Derived.Test.YtnhdgndjpkdhdaaGRef1M
import Derived.Test.YtnhdgndjpkdhdaaGRow
namespace Go.Proofs.Ytnhdgndjpkdhdaa
open Go.RowKit

/-- Which nodes were met, as bools in a block. -/
def metCells (N : Nat) (L : List Nat) : Array Value := ((List.range N).map fun i => Value.bool (decide (i ∈ L))).toArray
def MetAt (w : World) (bM N : Nat) (L : List Nat) : Prop := w.heap[bM]? = some (.cells (metCells N L) 4 (0, 0))
theorem metCells_get (N : Nat) (L : List Nat) (i : Nat) (h : i < N) : (metCells N L)[i]? = some (.bool (decide (i ∈ L))) := by
  simp [metCells, h]
theorem MetAt.cell {w : World} {bM N : Nat} {L : List Nat} (h : MetAt w bM N L) (i : Nat) (hi : i < N) : w.cell? ⟨bM, i, none⟩ = some (.bool (decide (i ∈ L))) ∧ w.frozen? ⟨bM, i, none⟩ = false := by
  constructor
  · rw [cell_of_row w bM i _ _ _ h]; exact metCells_get N L i hi
  · unfold MetAt at h
    unfold World.frozen?
    rw [h]
    simp
theorem metCells_set (N : Nat) (L : List Nat) (a : Nat) : (metCells N L).setIfInBounds a (.bool true) = metCells N (L ++ [a]) := by
  apply Array.ext
  · simp [metCells]
  · intro i h1 h2
    simp only [metCells, List.size_toArray, List.length_map, List.length_range, Array.size_setIfInBounds] at h1 h2
    rw [Array.getElem_setIfInBounds (by simpa [metCells] using h1)]
    by_cases e : a = i
    · subst e; simp [metCells]
    · have e' : ¬ i = a := fun x => e x.symm
      simp [metCells, e, e']
theorem MetAt.set {w : World} {bM N : Nat} {L : List Nat} (h : MetAt w bM N L) (a : Nat) : MetAt (w.setCell ⟨bM, a, none⟩ (.bool true)) bM N (L ++ [a]) := by
  unfold MetAt at h ⊢
  rw [← metCells_set]
  simp [World.setCell, Array.getElem?_modify, h]
theorem gcell_new (w : World) (cs : Array Value) (t : TypeId) (n : Nat) (hn : n = w.heap.size) (j : Nat) (u : Value) (h : cs.toList[j]? = some u) : (w.alloc (.cells cs t)).cell? ((⟨n, 0, none⟩ : Addr).add j) = some u := by
  subst hn
  have e : (⟨w.heap.size, 0, none⟩ : Addr).add j = ⟨w.heap.size, j, none⟩ := by
    unfold Addr.add
    split
    · rename_i hj
      have hj : j = 0 := by simpa using hj
      subst hj
      rfl
    · simp
  rw [e, cell_of_row _ _ _ _ _ _ (heap_alloc_new w _)]
  simpa using h
theorem gheap_past (w : World) (o : Obj) (k : Nat) (h : k < w.heap.size) : (w.alloc o).heap[k]? = w.heap[k]? := Below.heap_alloc w o k h
theorem gheap_at (w : World) (o : Obj) (k : Nat) (h : k = w.heap.size) : (w.alloc o).heap[k]? = some o := by subst h; exact heap_alloc_new w o
theorem gr_f (g : RGr) (a : Nat) (ha : a < g.nodes.length) : (g.gr.f a).args = g.nodes[a].args.map Int.toNat := by
  show (List.getD (g.nodes.map RNd.nd) a _).args = _
  rw [List.getD_eq_getElem?_getD, List.getElem?_map, List.getElem?_eq_getElem ha]
  rfl
theorem ok_args {g : RGr} (h : g.ok = true) (a : Nat) (ha : a < g.nodes.length) : ∀ z, z ∈ g.nodes[a].args → 0 ≤ z ∧ z < g.nodes.length := by
  intro z hz
  simp only [RGr.ok, Bool.and_eq_true] at h
  have h1 := List.all_eq_true.1 h.2.2 _ (List.getElem_mem ha)
  simp only [RNd.ok, Bool.and_eq_true] at h1
  have h2 := List.all_eq_true.1 h1.1 z hz
  simpa using h2
theorem infoInt : (Try.prog.info? 3).map (fun i => (i.zero, i.size, i.bytes)) = some (some (.int .i64 0), 1, 8) := by kernel_rfl

set_option maxRecDepth 100000 in
set_option maxHeartbeats 2000000 in
theorem gvisit_any (g : RGr) (hok : g.ok = true) (S : Nat → Prop) (base bM : Nat) : ∀ (n at' : Nat) (L : List Nat) (w : World) (gv v : Value) (c : Nat), at' < g.nodes.length → L.Nodup → (∀ x, x ∈ L → x < g.nodes.length) → g.nodes.length + 1 ≤ n + L.length →
    (∀ k, S k → k < base) → base ≤ bM → bM < w.heap.size → GrV w S g gv → g.nodes.length ≤ c → c ≤ maxLen → MetAt w bM g.nodes.length L → RowG srtI 3 base w (fun _ => False) v (L.map Int.ofNat) → v.ownBlock ≠ some bM →
    Calls Try.prog 52 #[gv, .int .i64 at', .slice (some ⟨bM, 0, none⟩) g.nodes.length c, v] w fun e w' => ∃ v', e = .returned v' ∧ MetAt w' bM g.nodes.length (G.visit (fun a => (g.gr.f a).args) n at' L) ∧
      RowG srtI 3 base w' (fun _ => False) v' ((G.visit (fun a => (g.gr.f a).args) n at' L).map Int.ofNat) ∧ (v'.ownBlock = v.ownBlock ∨ ∃ k, v'.ownBlock = some k ∧ w.heap.size ≤ k) ∧ Keeps (fun k => k = bM ∨ v.ownBlock = some k) w w' := by
  have hN9 := RGr.ok_len hok
  intro n
  induction n with
  | zero =>
    intro at' L w gv v c ha hn hl hN
    have := G.nodup_len _ hn hl
    omega
  | succ n ih =>
    intro at' L w gv v c ha hn hl hN hS hb hbw hg hc hc9 hm hv hvo
    have IH := Lib.hid ih
    clear ih
    obtain ⟨A, cN, rfl, hcN, hcN9, oN⟩ := hg
    have HON := Lib.hid oN
    have HM := Lib.hid hm
    have HV := Lib.hid hv
    obtain ⟨m1, m2⟩ := hm.cell at' ha
    clear oN hm hv
    unfold maxLen at hc9 hcN9
    by_cases hin : at' ∈ L
    · have hvis : G.visit (fun a => (g.gr.f a).args) (n + 1) at' L = L := by rw [G.visit_succ, if_pos hin]
      rw [hvis]
      rw [decide_eq_true hin] at m1
      go_enter Try.func52, Try.ntmps52
      go_wp2
      go_ret
      refine ⟨_, rfl, (gheap_past _ _ _ hbw).trans HM.out, HV.out.keep (F := fun _ => False) ((Keeps.refl _ w).alloc _) (fun _ e _ => e.elim), .inl rfl, (Keeps.refl _ w).alloc _⟩
    · rw [decide_eq_false hin] at m1
      obtain ⟨T, hT0⟩ : ∃ T, T = G.visit (fun a => (g.gr.f a).args) (n + 1) at' L := ⟨_, rfl⟩
      rw [← hT0]
      have HT0 := Lib.hid hT0
      clear hT0
      obtain ⟨i0, hi, hz0, hz1, hz2⟩ := info_parts infoInt
      have hbase2 : base ≤ w.heap.size := by omega
      have hrow2 : RowG srtI 3 base (((w.setCell ⟨bM, at', none⟩ (.bool true)).alloc (.cells #[.slice A g.nodes.length cN, .int .i64 g.root] 24)).alloc (.cells #[.int .i64 at'] 3)) (fun _ => False) v (L.map Int.ofNat) :=
        HV.out.keep (F := fun k => k = bM) ((((Keeps.refl (fun k => k = bM) w).setCell (p := ⟨bM, at', none⟩) (fun _ => rfl) _).alloc _).alloc _) (fun k e _ => ⟨by subst e; exact hvo, id⟩)
      have hit : Items srtI (((w.setCell ⟨bM, at', none⟩ (.bool true)).alloc (.cells #[.slice A g.nodes.length cN, .int .i64 g.root] 24)).alloc (.cells #[.int .i64 at'] 3)) (fun _ => False) [(at' : Int)] [.int .i64 at'] := Items.one srtI rfl
      have hlen : (L.map Int.ofNat).length + [(at' : Int)].length ≤ 2000000 := by
        have h1 := G.nodup_len _ (l := L ++ [at']) (by
          rw [List.nodup_append]
          refine ⟨hn, by simp, fun x hx y hy e => ?_⟩
          simp at hy
          subst hy
          exact hin (e ▸ hx)) (fun x hx => by
          rcases List.mem_append.1 hx with e | e
          · exact hl x e
          · simp at e; subst e; exact ha)
        simp at h1 ⊢
        omega
      have HRow2 := Lib.hid hrow2
      have HIt := Lib.hid hit
      have HLen := Lib.hid hlen
      clear hrow2 hit hlen
      go_enter Try.func52, Try.ntmps52
      go_wp2_with (at_builtin; go_loud (refine wpList_grow (T := srtI) (ms := [(at' : Int)]) rfl (.tmp 19) (.tmp 21) 25 3 rfl i0 _ 8 Try.underlying25 hi hz0 hz1 hz2 rfl rfl HRow2.out ⟨w.heap.size + 1, 0, none⟩ 1 [.int .i64 at'] rfl (fun j u hj => gcell_new _ _ _ _ (by simp [World.setCell]) j u hj) HIt.out HLen.out (by decide) ?_ (by simp) ?_; (· simp [World.setCell]; omega)); intro v2 w2 hrow2 hk2 hb2; have HRow3 := Lib.hid hrow2; have HK2 := Lib.hid hk2; have HB2 := Lib.hid hb2; have hG2 : w2.heap[w.heap.size]? = some (.cells #[.slice A g.nodes.length cN, .int .i64 g.root] 24 (0, 0)) := ((hk2.block w.heap.size (by simp [World.setCell]; omega) (fun e => by have := (HV.out.block e).2; omega)).trans ((gheap_past _ _ _ (by simp [World.setCell])).trans (gheap_at _ _ _ (by simp [World.setCell])))); have c0 : w2.cell? ⟨w.heap.size, 0, none⟩ = some (.slice A g.nodes.length cN) := cell_of_row w2 w.heap.size 0 _ _ _ hG2; have hK02 : Keeps (fun k => k = bM ∨ v.ownBlock = some k) w w2 := ((((Keeps.refl _ w).setCell (p := ⟨bM, at', none⟩) (fun _ => .inl rfl) _).alloc _).alloc _).trans (hk2.mono (fun i _ e => .inr e)); have hM2 : MetAt w2 bM g.nodes.length (L ++ [at']) := ((hk2.block bM (by simp [World.setCell]; omega) (fun e => hvo e)).trans ((gheap_past _ _ _ (by simp [World.setCell]; omega)).trans ((gheap_past _ _ _ (by simp [World.setCell]; omega)).trans (HM.out.set at')))); have hold2 : ∀ k, S k → S k ∧ w2.heap[k]? = w.heap[k]? := (fun k hk => ⟨hk, hK02.block k (by have := hS k hk; omega) (by have := hS k hk; rintro (e | e); omega; have := (HV.out.block e).1; omega)⟩); obtain ⟨b, o, rfl, hnp⟩ := NdsO.get _ _ (NdsO.keep hold2 _ _ HON.out) at' ha; obtain ⟨x, hx⟩ : (∃ x, x = g.nodes[at']) := ⟨_, rfl⟩; rw [← hx] at hnp; obtain ⟨xA, yA, xL, yL, f0, f1, f2, f3, f4, hvv⟩ := hnp.val; have HVV := Lib.hid hvv; have HX := Lib.hid hx; have HK02 := Lib.hid hK02; have HM2 := Lib.hid hM2; have HOld2 := Lib.hid hold2; have HG2 := Lib.hid hG2; clear hrow2 hk2 hb2 hG2 hK02 hM2 hold2 hnp hvv hx)
      have hT : T = (x.args.map Int.toNat).foldl (fun o y => G.visit (fun a => (g.gr.f a).args) n y o) (L ++ [at']) := by
        rw [HT0.out, G.visit_succ, if_neg hin, HX.out, ← gr_f g at' ha]
      have hfit := RGr.ok_fit hok
      have hgN : g.gr.nodes.length = g.nodes.length := by simp [RGr.gr]
      have hfa : ∀ a, a < g.nodes.length → ∀ y, y ∈ (g.gr.f a).args → y < g.nodes.length := fun a h y hy => by
        have := hfit.args a (by rw [hgN]; exact h) y hy
        rwa [hgN] at this
      have hxa : ∀ z, z ∈ x.args → 0 ≤ z ∧ z < g.nodes.length := by rw [HX.out]; exact ok_args hok at' ha
      have hnd : (L ++ [at']).Nodup := by
        rw [List.nodup_append]
        refine ⟨hn, by simp, fun x hx y hy e => ?_⟩
        simp at hy
        subst hy
        exact hin (e ▸ hx)
      have hlt' : ∀ x, x ∈ L ++ [at'] → x < g.nodes.length := fun x hx => by
        rcases List.mem_append.1 hx with e | e
        · exact hl x e
        · simp at e; subst e; exact ha
      have HFA := Lib.hid hfa
      have HXA := Lib.hid hxa
      have HT := Lib.hid hT
      have hown2 : v2.ownBlock ≠ some bM ∧ v2.ownBlock ≠ some w.heap.size ∧ (v2.ownBlock = v.ownBlock ∨ ∃ k, v2.ownBlock = some k ∧ w.heap.size ≤ k) := by
        rcases HB2.out with e | e
        · rw [e]
          refine ⟨hvo, fun e2 => ?_, .inl rfl⟩
          have := (HV.out.block e2).2
          omega
        · have e' : v2.ownBlock = some (w.heap.size + 2) := by rw [e]; simp [World.setCell]
          rw [e']
          simp only [Option.some.injEq, ne_eq]
          exact ⟨by omega, by omega, .inr ⟨_, rfl, by omega⟩⟩
      have hz2 : w.heap.size + 2 ≤ w2.heap.size := by
        have := HK2.out.size
        simpa [World.setCell] using this
      have HOwn2 := Lib.hid hown2
      have hyl : x.args.length ≤ yA := HVV.out.2.1
      have hyl9 : yA ≤ 2 ^ 63 - 1 := HVV.out.2.2.1
      clear hfit hgN hfa hxa hT hown2 c0 f0 f1 f2 f3 f4
      go_loopw [3, 10, 30] (fun s _ i wr => ∃ (k : Nat) (L3 : List Nat), i = .int .i64 k ∧ k ≤ x.args.length ∧ G.Went (fun a => (g.gr.f a).args) g.nodes.length (L ++ [at']) L3 ∧ ((x.args.drop k).map Int.toNat).foldl (fun o y => G.visit (fun a => (g.gr.f a).args) n y o) L3 = T ∧
        MetAt wr bM g.nodes.length L3 ∧ RowG srtI 3 base wr (fun _ => False) s (L3.map Int.ofNat) ∧ (s.ownBlock ≠ some bM ∧ s.ownBlock ≠ some w.heap.size ∧ (s.ownBlock = v.ownBlock ∨ ∃ k, s.ownBlock = some k ∧ w.heap.size ≤ k)) ∧
        wr.heap[w.heap.size]? = some (.cells #[.slice (some ⟨b, o, none⟩) g.nodes.length cN, .int .i64 g.root] 24 (0, 0)) ∧ w.heap.size + 2 ≤ wr.heap.size ∧ Keeps (fun k => k = bM ∨ v.ownBlock = some k) w wr) (fun _ _ i _ => x.args.length - (intOf i).toNat)
      case atStart => exact ⟨0, L ++ [at'], rfl, Nat.zero_le _, .refl hnd hlt', by rw [List.drop_zero]; exact HT.out.symm, HM2.out, by have h := HRow3.out; rw [List.map_append]; exact h, HOwn2.out, HG2.out, hz2, HK02.out⟩
      case round =>
        obtain ⟨k, L3, rfl, hk, hwent, hfold, hmet, hrow, ⟨ho1, ho2, ho3⟩, hG3, hz3, hkeep⟩ := hrel
        have HWent := Lib.hid hwent
        have HFold := Lib.hid hfold
        have HMet := Lib.hid hmet
        have HRowS := Lib.hid hrow
        have HO3 := Lib.hid ho3
        have HG3 := Lib.hid hG3
        have HKeep := Lib.hid hkeep
        have hold3 : ∀ k, S k → S k ∧ wr.heap[k]? = w.heap[k]? := fun k hk => ⟨hk, hkeep.block k (by have := hS k hk; omega) (by have := hS k hk; rintro (e | e); omega; have := (HV.out.block e).1; omega)⟩
        have HOld3 := Lib.hid hold3
        clear hwent hfold hmet hrow ho3 hG3 hkeep hold3
        have hvv := HVV.out
        by_cases hlt : k < x.args.length
        · obtain ⟨b2, o2, rfl, _, hcell⟩ := IntsO.get _ _ (IntsO.keep (fun k hk => ⟨hk, (HOld3.out k hk).2.trans (HOld2.out k hk).2.symm⟩) _ _ hvv.2.2.2.2.2.1) k hlt
          obtain ⟨z, hz⟩ : ∃ z, z = x.args[k] := ⟨_, rfl⟩
          have hzr := HXA.out z (by rw [hz]; exact List.getElem_mem hlt)
          obtain ⟨y, rfl⟩ : ∃ y : Nat, z = y := ⟨z.toNat, by omega⟩
          rw [← hz] at hcell
          have hyN : y < g.nodes.length := by omega
          have hfold2 : ((x.args.drop (k + 1)).map Int.toNat).foldl (fun o y => G.visit (fun a => (g.gr.f a).args) n y o) (G.visit (fun a => (g.gr.f a).args) n y L3) = T := by
            have h := HFold.out
            rw [List.drop_eq_getElem_cons hlt, List.map_cons, List.foldl_cons, ← hz, Int.toNat_natCast] at h
            exact h
          have HFold2 := Lib.hid hfold2
          have hL3 : L.length + 1 ≤ L3.length := by
            obtain ⟨t, ht⟩ := HWent.out.pre
            rw [ht]; simp
          have hfuel : g.nodes.length + 1 ≤ n + L3.length := by omega
          have hw := (G.went_visit HFA.out n y L3 hyN HWent.out.nodup HWent.out.lt hfuel).1
          have HW := Lib.hid hw
          have hc0 : wr.cell? ⟨w.heap.size, 0, none⟩ = some (.slice (some ⟨b, o, none⟩) g.nodes.length cN) := cell_of_row wr w.heap.size 0 _ _ _ HG3.out
          have hc1 : wr.cell? ⟨w.heap.size, 1, none⟩ = some (.int .i64 g.root) := cell_of_row wr w.heap.size 1 _ _ _ HG3.out
          clear hz hfold2 hL3 hw hvv hzr
          go_wp2_with (go_at_call 52; refine (IH.out y L3 wr _ u3 c hyN HWent.out.nodup HWent.out.lt hfuel hS hb (by omega) ⟨_, cN, rfl, hcN, hcN9, NdsO.keep HOld3.out _ _ HON.out⟩ hc hc9 HMet.out HRowS.out ho1).mono ?_; rintro e w4 ⟨v4, rfl, hm4, hr4, ho4, hk4⟩; have HM4 := Lib.hid hm4; have HR4 := Lib.hid hr4; have HO4 := Lib.hid ho4; have HK4 := Lib.hid hk4; clear hm4 hr4 ho4 hk4)
          go_roundw
          case rel =>
            refine ⟨k + 1, G.visit (fun a => (g.gr.f a).args) n y L3, by go_num, by omega, HWent.out.trans HW.out, HFold2.out, HM4.out, HR4.out, ?_, ?_, ?_, ?_⟩
            · rcases HO4.out with e | ⟨q, e, hq⟩
              · rw [e]; exact ⟨ho1, ho2, HO3.out⟩
              · rw [e]
                simp only [Option.some.injEq, ne_eq]
                exact ⟨by omega, by omega, .inr ⟨_, rfl, by omega⟩⟩
            · exact (HK4.out.block _ (by omega) (by rintro (e | e); omega; exact ho2 e)).trans HG3.out
            · exact Nat.le_trans hz3 HK4.out.size
            · refine HKeep.out.trans' HK4.out (fun i hi e => ?_)
              rcases e with e | e
              · exact .inl e
              · rcases HO3.out with e2 | ⟨q, e2, hq⟩
                · exact .inr (e2 ▸ e)
                · rw [e] at e2
                  injection e2 with e2
                  omega
          case measure => simp [intOf]; omega
        · have hk' : k = x.args.length := by omega
          have hTL : L3 = T := by have h := HFold.out; rw [hk', List.drop_length] at h; exact h
          subst hTL
          clear hk'
          go_wp2
          go_ret
          exact ⟨_, rfl, HMet.out, HRowS.out, HO3.out, HKeep.out⟩
end Go.Proofs.Ytnhdgndjpkdhdaa

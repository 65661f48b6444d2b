/-
  What the laws of layer 6 are handed: a graph, opened to cells; no slice of it is wider than what comes in may be.
-/
import Derived.Test.YtnhdgndjpkdhdaaRows
import Derived.Test.YtnhdgndjpkdhdaaGTrm
import Derived.ProofKit
import Derived.SizedLaws
import Derived.Carry
import Derived.Deep.Slices
import Derived.Deep.Fields
import Derived.ChangeSame
namespace Go.Proofs.Ytnhdgndjpkdhdaa
open Go.ChangeShapes Go.WideShapes Go.ChangeAt Go.RowKit Go.Deep

theorem lawOwn : ownKnob Try.prog.godebug = none := by kernel_rfl
theorem lawLaid : laidOutB Try.prog = true := by kernel_rfl
theorem cellsNode : Try.prog.cellsOf 37 = 5 := by kernel_rfl
theorem cellsInt : Try.prog.cellsOf 3 = 1 := by kernel_rfl
theorem cellsStr : Try.prog.cellsOf 9 = 1 := by kernel_rfl
theorem cellsGraph : Try.prog.cellsOf 24 = 2 := by kernel_rfl
theorem bytesNode : Try.prog.bytesOf 37 = 80 := by kernel_rfl
theorem bytesInt : Try.prog.bytesOf 3 = 8 := by kernel_rfl
theorem bytesStr : Try.prog.bytesOf 9 = 16 := by kernel_rfl

section
variable {H : Type} {enc : TypeId × Value → H} {P : Program} {w : World} {base : Nat} {spare : Nat → Bool} {held : Bool}
theorem weights_all {e : TypeId} : ∀ {l : List (DataW H)} {i : Nat} {d : DataW H}, l[i]? = some d → ∀ n, n ∈ d.weights P e → n ∈ DataW.weightsAll P e l
  | d0 :: r, 0, d, hd, n, hn => by
    simp only [List.getElem?_cons_zero, Option.some.injEq] at hd
    subst hd
    simp only [DataW.weightsAll, List.mem_append]
    exact .inl hn
  | d0 :: r, i + 1, d, hd, n, hn => by
    simp only [List.getElem?_cons_succ] at hd
    simp only [DataW.weightsAll, List.mem_append]
    exact .inr (weights_all hd n hn)
theorem weights_elem {t e : TypeId} {elems sp : List (DataW H)} {i : Nat} {d : DataW H} (ht : P.underlying t = some (.slice e)) (hi : elems[i]? = some d) : ∀ n, n ∈ d.weights P e → n ∈ (DataW.slice elems sp).weights P t := fun n hn => by
  simp only [DataW.weights, ht, List.mem_cons, List.mem_append]
  exact .inr (.inl (weights_all hi n hn))
theorem weights_len {t e : TypeId} {elems sp : List (DataW H)} (ht : P.underlying t = some (.slice e)) : (elems.length + sp.length) * P.bytesOf e ∈ (DataW.slice elems sp).weights P t := by
  simp [DataW.weights, ht]
theorem weights_field {t : TypeId} {fs : Array Field} {parts : List (DataW H)} {j : Nat} {f : Field} {d : DataW H} (ht : P.underlying t = some (.struct fs)) (hf : fs[j]? = some f) (hd : parts[j]? = some d) : ∀ n, n ∈ d.weights P f.type → n ∈ (DataW.agg parts).weights P t := fun n hn => by
  simp only [DataW.weights, ht]
  refine DataW.weights_mem_each (t := f.type) ?_ hd n hn
  simp [List.getElem?_map, Array.getElem?_toList, hf]

theorem open_slice_fieldsG {t e : TypeId} {fs : Array Field} {fuel : Nat} {cs : List Value} {x : DataW H × List MemPlace} (ht : P.underlying t = some (.slice e)) (he : P.underlying e = some (.struct fs))
    (hone : oneCellFields P fs = true) (hC : P.cellsOf e = fs.size) (h : DataW.trod enc P w base spare held fuel t cs = some x) :
    (cs = [.slice none 0 0] ∧ x = (.nil, [])) ∨
    ∃ (a : Addr) (len cap m : Nat) (D : Nat → DataW H) (Pl : Nat → List MemPlace), cs = [.slice (some a) len cap] ∧ base ≤ a.block ∧ len ≤ cap ∧ cap ≤ maxLen ∧ m = (if spare a.block then cap else len) ∧
      x = (.slice ((List.range len).map D) ((List.range (m - len)).map fun j => D (len + j)), MemPlace.row a (m * fs.size) ++ (List.range m).flatMap Pl) ∧
      ∀ i, i < m → ∃ (ys : List (DataW H × List MemPlace)) (n : Nat), D i = .agg (ys.map (·.1)) ∧ Pl i = ys.flatMap (·.2) ∧ ys.length = fs.size ∧
        ∀ (j : Nat) (f : Field), fs[j]? = some f → ∃ (v : Value) (y : DataW H × List MemPlace), w.cell? (a.add (i * fs.size + j)) = some v ∧ ys[j]? = some y ∧ DataW.trod enc P w base spare held n f.type [v] = some y := by
  rcases open_slice ht h with h0 | ⟨a, len, cap, m, n, D, Pl, hcs, hb, hl, hm, hmm, hx, hi⟩
  · exact .inl h0
  · refine .inr ⟨a, len, cap, m, D, Pl, hcs, hb, hl, hm, hmm, by rw [hC] at hx; exact hx, fun i him => ?_⟩
    obtain ⟨cs', hc, ht'⟩ := hi i him
    rw [hC] at hc
    obtain ⟨ys, n', hn', hy, hlen, hyl, hf⟩ := DataW.trod_struct he ht'
    obtain ⟨_, hcl, hat⟩ := World.cells?_some hc
    simp only [Prod.mk.injEq] at hy
    refine ⟨ys, n', hy.1, hy.2, hyl, fun j f hj => ?_⟩
    obtain ⟨ho, hk⟩ := hone_of hone j f hj
    have hjl : j < fs.size := (Array.getElem?_eq_some_iff.1 hj).1
    have hcell := hat j hjl
    have hv : cs'[j]? = some (cs'[j]'(by omega)) := List.getElem?_eq_getElem (by omega)
    have h1 := hf j f hj
    rw [ho, hk] at h1
    have hone' : (cs'.drop j).take 1 = [cs'[j]'(by omega)] := by
      rw [List.drop_eq_getElem_cons (by omega)]
      rfl
    rw [hone'] at h1
    have hys : ys[j]? = some (ys[j]'(by omega)) := List.getElem?_eq_getElem (by omega)
    refine ⟨_, _, ?_, hys, h1.trans hys⟩
    rw [← Go.Deep.add_add, hcell, hv]

theorem fields_ofG {t : TypeId} {fs : Array Field} {fuel : Nat} {cs : List Value} {x : DataW H × List MemPlace} (ht : P.underlying t = some (.struct fs)) (hone : oneCellFields P fs = true) (hC : P.cellsOf t = fs.size)
    (h : DataW.trod enc P w base spare held fuel t cs = some x) :
    ∃ (ys : List (DataW H × List MemPlace)) (n : Nat), x.1 = .agg (ys.map (·.1)) ∧ ys.length = fs.size ∧ cs.length = fs.size ∧
      ∀ (j : Nat) (f : Field), fs[j]? = some f → ∃ (v : Value) (y : DataW H × List MemPlace), cs[j]? = some v ∧ ys[j]? = some y ∧ DataW.trod enc P w base spare held n f.type [v] = some y := by
  obtain ⟨ys, n', _, rfl, hlen, hyl, hf⟩ := DataW.trod_struct ht h
  rw [hC] at hlen
  refine ⟨ys, n', rfl, hyl, hlen, fun j f hj => ?_⟩
  obtain ⟨ho, hk⟩ := hone_of hone j f hj
  have hjl : j < fs.size := (Array.getElem?_eq_some_iff.1 hj).1
  have h1 := hf j f hj
  rw [ho, hk, List.drop_eq_getElem_cons (by omega)] at h1
  have hys : ys[j]? = some (ys[j]'(by omega)) := List.getElem?_eq_getElem (by omega)
  exact ⟨_, _, List.getElem?_eq_getElem (by omega), hys, h1.trans hys⟩
end

section
variable {H : Type} {enc : TypeId × Value → H} {W : World}
theorem add_none {a : Addr} {v : Value} (h : W.cell? (a.add 0) = some v) : a.spot = none := by
  have := World.cell?_spot h
  unfold Addr.add at this
  rwa [if_pos rfl] at this
/-- A cell type's items in a row. -/
theorem row_ints {b : Nat} (hb : b < W.heap.size) : ∀ (n o : Nat), (∀ i, i < n → ∃ z : Int, W.cell? ⟨b, o + i, none⟩ = some (.int .i64 z)) → ∃ l : List Int, l.length = n ∧ IntsO W (fun k => k < W.heap.size) l (some ⟨b, o, none⟩)
  | 0, _, _ => ⟨[], rfl, trivial⟩
  | n + 1, o, h => by
    obtain ⟨z, h0⟩ := h 0 (by omega)
    obtain ⟨l, hl, hp⟩ := row_ints hb n (o + 1) (fun i hi => by
      have := h (i + 1) (by omega)
      rwa [show o + (i + 1) = o + 1 + i by omega] at this)
    exact ⟨z :: l, by simp [hl], b, o, rfl, hb, h0, hp⟩
theorem row_strs {b : Nat} (hb : b < W.heap.size) : ∀ (n o : Nat), (∀ i, i < n → ∃ z : ByteArray, W.cell? ⟨b, o + i, none⟩ = some (.string z) ∧ z.size ≤ maxLen) → ∃ l : List ByteArray, l.length = n ∧ StrsO W (fun k => k < W.heap.size) l (some ⟨b, o, none⟩)
  | 0, _, _ => ⟨[], rfl, by unfold StrsO; trivial⟩
  | n + 1, o, h => by
    obtain ⟨z, h0, h1⟩ := h 0 (by omega)
    obtain ⟨l, hl, hp⟩ := row_strs hb n (o + 1) (fun i hi => by
      have := h (i + 1) (by omega)
      rwa [show o + (i + 1) = o + 1 + i by omega] at this)
    exact ⟨z :: l, by simp [hl], by unfold StrsO; exact ⟨b, o, rfl, hb, h0, h1, hp⟩⟩
theorem bulkPos {H : Type} (d : DataW H) : 1 ≤ Rows.uptoBulk d := by
  cases d with
  | lit l => cases l <;> simp [Rows.uptoBulk]
  | _ => simp [Rows.uptoBulk]
theorem bulkLen {H : Type} : ∀ l : List (DataW H), l.length ≤ Rows.uptoBulkAll l
  | [] => Nat.zero_le _
  | d :: r => by
    have h1 := bulkPos d
    have h2 := bulkLen r
    simp only [List.length_cons, Rows.uptoBulkAll]
    omega
theorem sumBulk {H : Type} (D : Nat → DataW H) : ∀ (l : List RNd) (o : Nat), (∀ i (hi : i < l.length), l[i].args.length + 6 ≤ Rows.uptoBulk (D (o + i))) → (l.map fun x => x.args.length + 6).sum ≤ Rows.uptoBulkAll ((List.range' o l.length).map D)
  | [], _, _ => Nat.zero_le _
  | x :: r, o, h => by
    have h0 := h 0 (by simp)
    have h2 := sumBulk D r (o + 1) (fun i hi => by
      have := h (i + 1) (by simpa using hi)
      rw [show o + (i + 1) = o + 1 + i by omega] at this
      simpa using this)
    simp only [List.length_cons, List.range'_succ, List.map_cons, List.sum_cons, Rows.uptoBulkAll, List.getElem_cons_zero, Nat.add_zero] at h0 h2 ⊢
    omega
theorem row_nodes {b : Nat} (hb : b < W.heap.size) : ∀ (n o : Nat) (B : Nat → Nat), (∀ i, i < n → ∃ x : RNd, NdP W (fun k => k < W.heap.size) b (o + i * 5) x ∧ (x.args.length * 8 ≤ 140737488355328 ∧ x.labels.length * 16 ≤ 140737488355328) ∧ x.args.length + 6 ≤ B i) → ∃ l : List RNd, l.length = n ∧ NdsO W (fun k => k < W.heap.size) l (some ⟨b, o, none⟩) ∧ (∀ x, x ∈ l → x.args.length * 8 ≤ 140737488355328 ∧ x.labels.length * 16 ≤ 140737488355328) ∧ ∀ i (hi : i < l.length), l[i].args.length + 6 ≤ B i
  | 0, _, _, _ => ⟨[], rfl, trivial, (fun _ h => by cases h), fun i hi => absurd hi (Nat.not_lt_zero _)⟩
  | n + 1, o, B, h => by
    obtain ⟨x, h0, h1, h2⟩ := h 0 (by omega)
    obtain ⟨l, hl, hp, hf, hq⟩ := row_nodes hb n (o + 5) (fun i => B (i + 1)) (fun i hi => by
      have := h (i + 1) (by omega)
      rwa [show o + (i + 1) * 5 = o + 5 + i * 5 by omega] at this)
    rw [Nat.zero_mul, Nat.add_zero] at h0
    refine ⟨x :: l, by simp [hl], ⟨b, o, rfl, h0, hp⟩, fun y hy => ?_, fun i hi => ?_⟩
    · rcases List.mem_cons.1 hy with rfl | e
      · exact h1
      · exact hf y e
    · cases i with
      | zero => exact h2
      | succ i => exact hq i (by simpa using hi)
theorem open_ints {fuel : Nat} {v : Value} {y : DataW H × List MemPlace} (h : DataW.trod enc Try.prog W 0 (fun _ => true) true fuel 25 [v] = some y) (hw : ∀ n, n ∈ y.1.weights Try.prog 25 → n ≤ reachBytes) :
    ∃ (l : List Int) (A : Option Addr) (c : Nat), v = .slice A l.length c ∧ l.length ≤ c ∧ c ≤ maxLen ∧ IntsO W (fun k => k < W.heap.size) l A ∧ l.length * 8 ≤ 140737488355328 ∧ l.length + 1 ≤ Rows.uptoBulk y.1 := by
  rcases open_slice1 Try.underlying25 cellsInt h with ⟨hcs, hx⟩ | ⟨a, len, cap, m, n, V, D, Pl, hcs, _, hl, hm, hmm, hx, hi⟩
  · simp only [List.cons.injEq, and_true] at hcs
    exact ⟨[], none, 0, hcs, Nat.le_refl _, Nat.zero_le _, trivial, by simp, by rw [hx]; simp [Rows.uptoBulk]⟩
  · simp only [List.cons.injEq, and_true] at hcs
    simp only [if_true] at hmm
    subst hmm
    subst hx
    have h1 := hw _ (weights_len Try.underlying25)
    rw [bytesInt] at h1
    have hbk : len + 1 ≤ Rows.uptoBulk (DataW.slice ((List.range len).map D) ((List.range (m - len)).map fun j => D (len + j))) := by
      have := bulkLen ((List.range len).map D)
      simp only [List.length_map, List.length_range] at this
      simp only [Rows.uptoBulk]
      omega
    simp only [List.length_map, List.length_range, reachBytes] at h1
    by_cases h0 : len = 0
    · subst h0
      exact ⟨[], some a, m, hcs, Nat.zero_le _, hm, trivial, by simp, hbk⟩
    · have hsp := add_none (hi 0 (by omega)).1
      obtain ⟨b, off, spot⟩ := a
      simp only [] at hsp
      subst hsp
      have hcell : ∀ i, i < len → ∃ z : Int, W.cell? ⟨b, off + i, none⟩ = some (.int .i64 z) := fun i hil => by
        obtain ⟨h2, h3⟩ := hi i (by omega)
        obtain ⟨z, e, _, _⟩ := DataW.trod_int Try.underlying3 h3
        simp only [List.cons.injEq, and_true] at e
        rw [add_plain b off, e] at h2
        exact ⟨z, h2⟩
      obtain ⟨l, hll, hp⟩ := row_ints (W := W) (b := b) (by obtain ⟨z, h2⟩ := hcell 0 (by omega); exact World.block_lt_of_cell? W _ h2) len off hcell
      subst hll
      exact ⟨l, _, m, hcs, hl, hm, hp, by omega, hbk⟩
theorem open_strs6 {fuel : Nat} {v : Value} {y : DataW H × List MemPlace} (h : DataW.trod enc Try.prog W 0 (fun _ => true) true fuel 35 [v] = some y) (hw : ∀ n, n ∈ y.1.weights Try.prog 35 → n ≤ reachBytes) :
    ∃ (l : List ByteArray) (A : Option Addr) (c : Nat), v = .slice A l.length c ∧ l.length ≤ c ∧ c ≤ maxLen ∧ StrsO W (fun k => k < W.heap.size) l A ∧ l.length * 16 ≤ 140737488355328 := by
  rcases open_slice1 Try.underlying35 cellsStr h with ⟨hcs, _⟩ | ⟨a, len, cap, m, n, V, D, Pl, hcs, _, hl, hm, hmm, hx, hi⟩
  · simp only [List.cons.injEq, and_true] at hcs
    exact ⟨[], none, 0, hcs, Nat.le_refl _, Nat.zero_le _, by unfold StrsO; trivial, by simp⟩
  · simp only [List.cons.injEq, and_true] at hcs
    simp only [if_true] at hmm
    subst hmm
    subst hx
    have h1 := hw _ (weights_len Try.underlying35)
    rw [bytesStr] at h1
    simp only [List.length_map, List.length_range, reachBytes] at h1
    by_cases h0 : len = 0
    · subst h0
      exact ⟨[], some a, m, hcs, Nat.zero_le _, hm, by unfold StrsO; trivial, by simp⟩
    · have hsp := add_none (hi 0 (by omega)).1
      obtain ⟨b, off, spot⟩ := a
      simp only [] at hsp
      subst hsp
      have hcell : ∀ i, i < len → ∃ z : ByteArray, W.cell? ⟨b, off + i, none⟩ = some (.string z) ∧ z.size ≤ maxLen := fun i hil => by
        obtain ⟨h2, h3⟩ := hi i (by omega)
        obtain ⟨z, e, _, hz⟩ := DataW.trod_string Try.underlying9 h3
        simp only [List.cons.injEq, and_true] at e
        rw [add_plain b off, e] at h2
        exact ⟨z, h2, hz⟩
      obtain ⟨l, hll, hp⟩ := row_strs (W := W) (b := b) (by obtain ⟨z, h2, _⟩ := hcell 0 (by omega); exact World.block_lt_of_cell? W _ h2) len off hcell
      subst hll
      exact ⟨l, _, m, hcs, hl, hm, hp, by omega⟩

theorem array2 {α : Type} (a : Array α) (h : a.size = 2) : ∃ x y, a = #[x, y] := by
  obtain ⟨l⟩ := a
  match l, h with
  | [x, y], _ => exact ⟨x, y, rfl⟩

set_option maxRecDepth 100000 in
/-- A graph that a law is handed. -/
theorem open_graph {base : Nat} {v : Value} {d : DataW H} {p : List MemPlace} (hv : Value.okWide Try.prog W .any base 24 v) (h : DataW.Trod enc Try.prog W 0 (fun _ => true) true 24 v d p) (hw : ∀ n, n ∈ d.weights Try.prog 24 → n ≤ reachBytes) :
    ∃ g : RGr, GrV W (fun k => k < W.heap.size) g v ∧ g.fits ∧ g.nodes.length * 80 ≤ 140737488355328 ∧ ∃ dn dr, d = .agg [dn, dr] ∧ (g.nodes = [] ∨ ∃ elems sp, dn = .slice elems sp ∧ elems.length = g.nodes.length ∧ (g.nodes.map fun x => x.args.length + 6).sum ≤ Rows.uptoBulkAll elems) := by
  obtain ⟨cs, rfl, hs⟩ := okWide_struct Try.underlying24 hv
  rw [cellsGraph] at hs
  obtain ⟨z0, z1, rfl⟩ := array2 cs hs
  obtain ⟨fuel, hf⟩ := h
  obtain ⟨ys, n, hd, hyl, _, hq⟩ := fields_ofG Try.underlying24 (by kernel_rfl) (by rw [cellsGraph]; rfl) hf
  simp only [] at hd
  obtain ⟨w0, y0, e0, g0, t0⟩ := hq 0 _ rfl
  obtain ⟨w1, y1, e1, g1, t1⟩ := hq 1 _ rfl
  simp only [Value.cells, List.getElem?_cons_zero, List.getElem?_cons_succ, Option.some.injEq] at e0 e1
  subst e0
  subst e1
  have hys : ys = [y0, y1] := by
    match ys, hyl with
    | [a, b], _ => simp at g0 g1; rw [g0, g1]
  subst hys
  subst hd
  have hw0 : ∀ n, n ∈ y0.1.weights Try.prog 22 → n ≤ reachBytes := fun n hn => hw n (weights_field Try.underlying24 (j := 0) rfl rfl n hn)
  obtain ⟨rt, hrt, _, _⟩ := DataW.trod_int Try.underlying3 t1
  simp only [List.cons.injEq, and_true] at hrt
  subst hrt
  rcases open_slice_fieldsG Try.underlying22 Try.underlying37 (by kernel_rfl) (by rw [cellsNode]; rfl) t0 with ⟨hcs, _⟩ | ⟨a, len, cap, m, D, Pl, hcs, _, hl, hm, hmm, hx, hi⟩
  · simp only [List.cons.injEq, and_true] at hcs
    subst hcs
    exact ⟨⟨[], rt⟩, ⟨none, 0, rfl, Nat.le_refl _, Nat.zero_le _, trivial⟩, (fun _ h => by cases h), by simp, _, _, rfl, .inl rfl⟩
  · simp only [List.cons.injEq, and_true] at hcs
    subst hcs
    simp only [if_true] at hmm
    subst hmm
    subst hx
    have h1 := hw0 _ (weights_len Try.underlying22)
    rw [bytesNode] at h1
    simp only [List.length_map, List.length_range, reachBytes] at h1
    by_cases hl0 : len = 0
    · subst hl0
      exact ⟨⟨[], rt⟩, ⟨_, m, rfl, Nat.zero_le _, hm, trivial⟩, (fun _ h => by cases h), by simp, _, _, rfl, .inl rfl⟩
    · have hnd : ∀ i, i < len → ∃ x : RNd, (∃ aA cA aL cL, W.cell? (a.add (i * 5 + 0)) = some (.int .i64 x.kind) ∧ W.cell? (a.add (i * 5 + 1)) = some (.string x.name) ∧ W.cell? (a.add (i * 5 + 2)) = some (.slice aA x.args.length cA) ∧ W.cell? (a.add (i * 5 + 3)) = some (.slice aL x.labels.length cL) ∧ W.cell? (a.add (i * 5 + 4)) = some (.bool x.op) ∧
          x.name.size ≤ maxLen ∧ x.args.length ≤ cA ∧ cA ≤ maxLen ∧ x.labels.length ≤ cL ∧ cL ≤ maxLen ∧ IntsO W (fun k => k < W.heap.size) x.args aA ∧ StrsO W (fun k => k < W.heap.size) x.labels aL) ∧ (x.args.length * 8 ≤ 140737488355328 ∧ x.labels.length * 16 ≤ 140737488355328) ∧ x.args.length + 6 ≤ Rows.uptoBulk (D i) := by
        intro i hil
        obtain ⟨ys, n, hDi, _, hyl, hq⟩ := hi i (by omega)
        have hwi : ∀ n, n ∈ (D i).weights Try.prog 37 → n ≤ reachBytes := fun n hn => hw0 n (weights_elem Try.underlying22 (i := i) (by simp [hil]) n hn)
        rw [hDi] at hwi
        obtain ⟨v0, x0, c0, s0, t0⟩ := hq 0 _ rfl
        obtain ⟨v1, x1, c1, s1, t1⟩ := hq 1 _ rfl
        obtain ⟨v2, x2, c2, s2, t2⟩ := hq 2 _ rfl
        obtain ⟨v3, x3, c3, s3, t3⟩ := hq 3 _ rfl
        obtain ⟨v4, x4, c4, s4, t4⟩ := hq 4 _ rfl
        obtain ⟨n0, e0, _, _⟩ := DataW.trod_int Try.underlying3 t0
        obtain ⟨n1, e1, _, r1⟩ := DataW.trod_string Try.underlying9 t1
        obtain ⟨l2, A2, k2, e2, q1, q2, q3, q4, q5⟩ := open_ints t2 (fun n hn => hwi n (weights_field Try.underlying37 (j := 2) rfl (by rw [List.getElem?_map, s2]; rfl) n hn))
        obtain ⟨l3, A3, k3, e3, p1, p2, p3, p4⟩ := open_strs6 t3 (fun n hn => hwi n (weights_field Try.underlying37 (j := 3) rfl (by rw [List.getElem?_map, s3]; rfl) n hn))
        obtain ⟨n4, e4, _⟩ := DataW.trod_bool Try.underlying4 t4
        simp only [List.cons.injEq, and_true] at e0 e1 e4
        subst e0 e1 e2 e3 e4
        have hbk : l2.length + 6 ≤ Rows.uptoBulk (D i) := by
          have hys : ys = [x0, x1, x2, x3, x4] := by
            match ys, hyl with
            | [a, b, c, d, e], _ => simp at s0 s1 s2 s3 s4; rw [s0, s1, s2, s3, s4]
          have b0 := bulkPos x0.1
          have b1 := bulkPos x1.1
          have b3 := bulkPos x3.1
          have b4 := bulkPos x4.1
          rw [hDi, hys]
          simp only [Rows.uptoBulk, Rows.uptoBulkAll, List.map_cons, List.map_nil]
          omega
        exact ⟨⟨n0, n1, l2, l3, n4⟩, ⟨A2, k2, A3, k3, c0, c1, c2, c3, c4, r1, q1, q2, p1, p2, q3, p3⟩, ⟨q4, p4⟩, hbk⟩
      have hsp : a.spot = none := by
        obtain ⟨x, ⟨_, _, _, _, c0, _⟩, _⟩ := hnd 0 (by omega)
        rw [Nat.zero_mul] at c0
        exact add_none c0
      obtain ⟨b, off, spot⟩ := a
      simp only [] at hsp
      subst hsp
      have hbl : b < W.heap.size := by
        obtain ⟨x, ⟨_, _, _, _, c0, _⟩, _⟩ := hnd 0 (by omega)
        have := World.block_lt_of_cell? W _ c0
        rw [add_plain b off] at this
        exact this
      obtain ⟨l, hll, hp, hF, hQ⟩ := row_nodes (W := W) hbl len off (fun i => Rows.uptoBulk (D i)) (fun i hil => by
        obtain ⟨x, ⟨aA, cA, aL, cL, c0, c1, c2, c3, c4, r1, q1, q2, p1, p2, q3, p3⟩, q4, p4⟩ := hnd i hil
        rw [add_plain b off] at c0 c1 c2 c3 c4
        refine ⟨x, ?_, q4, p4⟩
        refine ⟨hbl, _, ?_, aA, cA, aL, cL, rfl, r1, q1, q2, p1, p2, q3, p3⟩
        intro j u hu
        match j with
        | 0 => simp [Value.cells] at hu; subst hu; exact c0
        | 1 => simp [Value.cells] at hu; subst hu; exact c1
        | 2 => simp [Value.cells] at hu; subst hu; exact c2
        | 3 => simp [Value.cells] at hu; subst hu; exact c3
        | 4 => simp [Value.cells] at hu; subst hu; exact c4
        | n + 5 => simp [Value.cells] at hu)
      subst hll
      have hsm := sumBulk D l 0 (fun i hi => by rw [Nat.zero_add]; exact hQ i hi)
      rw [← List.range_eq_range'] at hsm
      exact ⟨⟨l, rt⟩, ⟨_, m, rfl, hl, hm, hp⟩, hF, by simp only []; omega, _, _, rfl, .inr ⟨_, _, rfl, by simp, hsm⟩⟩
end
end Go.Proofs.Ytnhdgndjpkdhdaa

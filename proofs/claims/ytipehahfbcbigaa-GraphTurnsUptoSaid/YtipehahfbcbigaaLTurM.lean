/-
  What lies in memory while a graph is turned.
-/
import Derived.Test.YtipehahfbcbigaaLCom
import Derived.Test.YtipehahfbcbigaaLTurP
import Derived.Test.YtipehahfbcbigaaDRen
namespace Go.Proofs.Ytipehahfbcbigaa
open Go.ChangeShapes Go.WideShapes Go.ChangeAt Go.RowKit Go.Deep

theorem RowG.base {α : Type} {T : Srt α} {t : TypeId} {base base' : Nat} {w : World} {S : Nat → Prop} {v : Value} {es : List α} (h : RowG T t base w S v es) (hb : base' ≤ base) : RowG T t base' w S v es := by
  obtain ⟨xs, ⟨h1, h2⟩, h3⟩ := h.raw
  refine ⟨⟨xs, ⟨h1, ?_⟩, h3⟩, h.apart, h.old⟩
  rcases h2 with h2 | ⟨g, cap, cur, e, hg, rest⟩
  · exact .inl h2
  · exact .inr ⟨g, cap, cur, e, Nat.le_trans hb hg, rest⟩
/-- N nodes of zeros, as a new block. -/
def nodeBlock (N : Nat) : Obj := .cells (madeCells (Value.agg #[.int .i64 0, .string ⟨#[]⟩, .slice none 0 0, .slice none 0 0, .bool false]).cells (N * 5)) 36
theorem makeNodesE (W : World) (N : Nat) (hN : N ≤ 2000000) : Sem.run Try.prog (Instr.makeSlice 22 (.int .i64 N) (.int .i64 N)) W = .ok (.slice (some ⟨W.heap.size, 0, none⟩) N N) (W.alloc (nodeBlock N)) := by
  obtain ⟨i0, hi, hz0, hz1, hz2⟩ := info_parts infoNode
  have h := run_make (P := Try.prog) W 22 36 i0 _ Try.underlying22 hi hz0 .i64 .i64 N N (by omega) (Int.le_refl _) (by rw [hz2]; omega) (by omega)
  rw [hz1] at h
  simp only [Int.toNat_natCast] at h
  exact h
theorem nodeRow (W : World) (N : Nat) (hN : N ≤ 2000000) : RowG srtN 36 W.heap.size (W.alloc (nodeBlock N)) (fun _ => False) (.slice (some ⟨W.heap.size, 0, none⟩) N N) (List.replicate N zeroN) := by
  obtain ⟨W', h1, _, _, h4⟩ := makeNodes W N hN
  rw [makeNodesE W N hN] at h1
  injection h1 with _ e
  subst e
  exact h4

/-- The turned graph under way. -/
def OldNew (S1 : Nat → Prop) (B hb nb : Nat) (W : World) (q : Nat) : Prop := S1 q ∨ (B ≤ q ∧ q < W.heap.size ∧ q ≠ hb ∧ q ≠ nb)
structure Trn (S1 : Nat → Prop) (w4 W : World) (hb nb n c : Nat) (r : Int) (es : List RNd) : Prop where
  bel : BelC w4 W
  blk : Blk W hb (.cells #[.slice (some ⟨nb, 0, none⟩) n c, .int .i64 r] 24 (0, 0))
  row : RowG srtN 36 w4.heap.size W (OldNew S1 w4.heap.size hb nb W) (.slice (some ⟨nb, 0, none⟩) n c) es
  hbB : w4.heap.size ≤ hb
  ne : hb ≠ nb
  old : ∀ q, S1 q → q < w4.heap.size
theorem OldNew.lt {S1 : Nat → Prop} {B hb nb q : Nat} {W : World} (hS : ∀ q, S1 q → q < B) (hB : B ≤ W.heap.size) (h : OldNew S1 B hb nb W q) : q < W.heap.size := by
  rcases h with h | h
  · have := hS q h; omega
  · exact h.2.1
theorem Trn.drew {S1 : Nat → Prop} {w4 W : World} {hb nb n c : Nat} {r : Int} {es : List RNd} (h : Trn S1 w4 W hb nb n c r es) : Trn S1 w4 W.drew hb nb n c r es :=
  ⟨h.bel.drew, h.blk, h.row.keep (F := fun _ => False) (Keeps.of_below0 ((Below.refl W.heap.size W).drew)) (fun _ e _ => e.elim), h.hbB, h.ne, h.old⟩
theorem Trn.first {S1 : Nat → Prop} {w4 : World} {n : Nat} {r : Int} (hn : n ≤ 2000000) (hS : ∀ q, S1 q → q < w4.heap.size) : Trn S1 w4 ((w4.alloc (nodeBlock n)).alloc (.cells #[.slice (some ⟨w4.heap.size, 0, none⟩) n n, .int .i64 r] 24)) (w4.heap.size + 1) w4.heap.size n n r (List.replicate n zeroN) := by
  refine ⟨((BelC.refl w4).alloc _).alloc _, Blk.new' _ _ _ (by simp), ?_, by omega, by omega, hS⟩
  have h1 : RowG srtN 36 w4.heap.size ((w4.alloc (nodeBlock n)).alloc (.cells #[.slice (some ⟨w4.heap.size, 0, none⟩) n n, .int .i64 r] 24)) (fun _ => False) (.slice (some ⟨w4.heap.size, 0, none⟩) n n) (List.replicate n zeroN) :=
    (nodeRow w4 n hn).keep (F := fun _ => False) ((Keeps.refl _ _).alloc _) (fun _ e _ => e.elim)
  refine h1.wide (fun _ h => h.elim) (fun q hq => ⟨hq.lt hS (by simp <;> omega), fun e => ?_⟩)
  simp only [Value.ownBlock, Option.some.injEq] at e
  rcases hq with h | h
  · have := hS q h; omega
  · omega
theorem Trn.second {S1 : Nat → Prop} {w4 : World} {n : Nat} {r : Int} (hn : n ≤ 2000000) (hS : ∀ q, S1 q → q < w4.heap.size) : Trn S1 w4 ((w4.alloc (.cells #[.slice (some ⟨w4.heap.size + 1, 0, none⟩) n n, .int .i64 r] 24)).alloc (nodeBlock n)) w4.heap.size (w4.heap.size + 1) n n r (List.replicate n zeroN) := by
  refine ⟨((BelC.refl w4).alloc _).alloc _, (Blk.new' _ _ _ rfl).alloc _, ?_, by omega, by omega, hS⟩
  have h1 := nodeRow (w4.alloc (.cells #[.slice (some ⟨w4.heap.size + 1, 0, none⟩) n n, .int .i64 r] 24)) n hn
  have hz : (w4.alloc (.cells #[.slice (some ⟨w4.heap.size + 1, 0, none⟩) n n, .int .i64 r] 24)).heap.size = w4.heap.size + 1 := by simp
  rw [hz] at h1
  have h2 : RowG srtN 36 w4.heap.size ((w4.alloc (.cells #[.slice (some ⟨w4.heap.size + 1, 0, none⟩) n n, .int .i64 r] 24)).alloc (nodeBlock n)) (fun _ => False) (.slice (some ⟨w4.heap.size + 1, 0, none⟩) n n) (List.replicate n zeroN) := h1.base (by omega)
  refine h2.wide (fun _ h => h.elim) (fun q hq => ⟨hq.lt hS (by simp <;> omega), fun e => ?_⟩)
  simp only [Value.ownBlock, Option.some.injEq] at e
  rcases hq with h | h
  · have := hS q h; omega
  · omega

/-- A turned node under way: a block of the call's own that has the node's own fields and the numbers so far. -/
structure Tnd (wC W : World) (x : RNd) (xL : Option Addr) (cL : Nat) (s : Value) (es : List Int) : Prop where
  bel : BelC wC W
  blk : Blk W wC.heap.size (.cells #[.int .i64 x.kind, .string x.name, s, .slice xL x.labels.length cL, .bool x.op] 36 (0, 0))
  row : RowG srtI 3 (wC.heap.size + 1) W (fun _ => False) s es
section
variable {wC W W1 w' : World} {x : RNd} {xL : Option Addr} {cL : Nat} {s v' : Value} {es : List Int} {y : Int}
theorem Tnd.start : Tnd wC (wC.alloc (.cells #[.int .i64 x.kind, .string x.name, .slice none 0 0, .slice xL x.labels.length cL, .bool x.op] 36)) x xL cL (.slice none 0 0) [] :=
  ⟨(BelC.refl wC).alloc _, Blk.new' _ _ _ rfl, RowG.nil _ _ _⟩
theorem Tnd.drew (h : Tnd wC W x xL cL s es) : Tnd wC W.drew x xL cL s es :=
  ⟨h.bel.drew, h.blk, h.row.keep (F := fun _ => False) (Keeps.of_below0 ((Below.refl W.heap.size W).drew)) (fun _ e _ => e.elim)⟩
theorem Tnd.step (h : Tnd wC W x xL cL s es) (hb : Below W.heap.size W W1) (hr : RowG srtI 3 (wC.heap.size + 1) w' (fun _ => False) v' (es ++ [y])) (hk : Keeps (fun k => s.ownBlock = some k) W1 w') :
    Tnd wC (w'.setCell ⟨wC.heap.size, 2, none⟩ v') x xL cL v' (es ++ [y]) := by
  have z1 := hb.size
  have z2 := hk.size
  have zo := h.blk.lt
  have zB := Below.size h.bel
  have n1 : ∀ k, s.ownBlock = some k → wC.heap.size + 1 ≤ k := fun k hk => (h.row.block hk).1
  have n1' : v'.ownBlock ≠ some wC.heap.size := fun e => by have := (hr.block e).1; omega
  have b1 : Blk w' wC.heap.size (.cells #[.int .i64 x.kind, .string x.name, s, .slice xL x.labels.length cL, .bool x.op] 36 (0, 0)) :=
    (hk.block _ (by omega) (fun e => by have := n1 _ e; omega)).trans ((hb.block _ zo).trans h.blk)
  refine ⟨?_, b1.set 2 v', ?_⟩
  · refine BelC.setCell (Below.trans h.bel ((hb.mono zB).trans (hk.below (by omega) (fun i hi e => ?_)))) (Nat.le_refl _) _
    have := n1 _ e
    omega
  · exact hr.keep (F := fun k => wC.heap.size = k) ((Keeps.refl _ w').setCell (p := ⟨wC.heap.size, 2, none⟩) (fun _ => rfl) _) (fun k e _ => ⟨by subst e; exact n1', id⟩)
end

section
variable {S1 : Nat → Prop} {w1 w4 W W' wC : World} {hb nb n c i : Nat} {r : Int} {es : List RNd} {x : RNd}
theorem Trn.nb_lt (h : Trn S1 w4 W hb nb n c r es) : w4.heap.size ≤ nb ∧ nb < W.heap.size := h.row.block rfl
theorem OldNew.later (h : BelC W W') {q : Nat} (hq : OldNew S1 w4.heap.size hb nb W q) : OldNew S1 w4.heap.size hb nb W' q := by
  rcases hq with e | e
  · exact .inl e
  · exact .inr ⟨e.1, Nat.lt_of_lt_of_le e.2.1 (Below.size h), e.2.2⟩
theorem Trn.apart (h : Trn S1 w4 W hb nb n c r es) (hW : W.heap.size ≤ W'.heap.size) : ∀ q, OldNew S1 w4.heap.size hb nb W' q → q < W'.heap.size ∧ q ≠ nb := fun q hq => by
  have h1 := h.nb_lt
  have h2 := Below.size h.bel
  rcases hq with e | e
  · have := h.old q e; omega
  · exact ⟨e.2.1, e.2.2.2⟩
theorem Trn.later (h : Trn S1 w4 W hb nb n c r es) (hW : BelC W W') : Trn S1 w4 W' hb nb n c r es := by
  refine ⟨Below.trans h.bel (Below.mono hW (Below.size h.bel)), (Below.block hW _ h.blk.lt).trans h.blk, ?_, h.hbB, h.ne, h.old⟩
  have h1 : RowG srtN 36 w4.heap.size W' (OldNew S1 w4.heap.size hb nb W) (.slice (some ⟨nb, 0, none⟩) n c) es := h.row.keep (F := fun _ => False) (Keeps.of_below0 hW) (fun _ e _ => e.elim)
  exact h1.wide (fun q hq => hq.later hW) (fun q hq => by
    have := h.apart (Below.size hW) q hq
    exact ⟨this.1, fun e => by simp only [Value.ownBlock, Option.some.injEq] at e; omega⟩)
theorem Trn.put {u0 u1 u2 u3 u4 : Value} (h : Trn S1 w4 W hb nb n c r es) (hl : es.length = n) (hi : i < n) (hx : NdV W (OldNew S1 w4.heap.size hb nb W) x (.agg #[u0, u1, u2, u3, u4])) :
    Trn S1 w4 (((((W.setCell ⟨nb, i * 5, none⟩ u0).setCell ⟨nb, i * 5 + 1, none⟩ u1).setCell ⟨nb, i * 5 + 2, none⟩ u2).setCell ⟨nb, i * 5 + 3, none⟩ u3).setCell ⟨nb, i * 5 + 4, none⟩ u4) hb nb n c r (es.set i x) := by
  have h1 := h.nb_lt
  have hz : (((((W.setCell ⟨nb, i * 5, none⟩ u0).setCell ⟨nb, i * 5 + 1, none⟩ u1).setCell ⟨nb, i * 5 + 2, none⟩ u2).setCell ⟨nb, i * 5 + 3, none⟩ u3).setCell ⟨nb, i * 5 + 4, none⟩ u4).heap.size = W.heap.size := by simp [World.setCell]
  refine ⟨((((h.bel.setCell (p := ⟨nb, i * 5, none⟩) h1.1 _).setCell (p := ⟨nb, i * 5 + 1, none⟩) h1.1 _).setCell (p := ⟨nb, i * 5 + 2, none⟩) h1.1 _).setCell (p := ⟨nb, i * 5 + 3, none⟩) h1.1 _).setCell (p := ⟨nb, i * 5 + 4, none⟩) h1.1 _, ?_, ?_, h.hbB, h.ne, h.old⟩
  · exact ((((h.blk.setNe h.ne _).setNe h.ne _).setNe h.ne _).setNe h.ne _).setNe h.ne _
  · have h2 := RowG.setN (u0 := u0) (u1 := u1) (u2 := u2) (u3 := u3) (u4 := u4) h.row hl hi (S' := OldNew S1 w4.heap.size hb nb W) (fun _ e => e) (h.apart (Nat.le_refl _)) hx
    unfold OldNew at h2 ⊢
    rw [hz]
    exact h2
/-- What a turned node has become, as a node. -/
theorem Tnd.node {xL sA : Option Addr} {cL m sc : Nat} {ys : List Int} (h : Tnd wC W x xL cL (.slice sA m sc) ys) (hxl : StrsO w1 S1 x.labels xL) (hb1 : BelC w1 W) (hS : ∀ k, S1 k → k < w1.heap.size) (hs : x.name.size ≤ maxLen) (hL : x.labels.length ≤ cL ∧ cL ≤ maxLen)
    (hw : w4.heap.size ≤ wC.heap.size) (hh : hb < wC.heap.size) (hn : nb < wC.heap.size) :
    NdV W (OldNew S1 w4.heap.size hb nb W) { x with args := ys } (.agg #[.int .i64 x.kind, .string x.name, .slice sA m sc, .slice xL x.labels.length cL, .bool x.op]) := by
  obtain ⟨a, c, e1, q1, q2, q3⟩ := h.row.ints (S' := OldNew S1 w4.heap.size hb nb W) (fun _ e => e.elim) (fun k h1 h2 => .inr ⟨by omega, h2, by omega, by omega⟩)
  simp only [Value.slice.injEq] at e1
  obtain ⟨rfl, rfl, rfl⟩ := e1
  exact ⟨_, _, _, _, rfl, hs, q1, q2, hL.1, hL.2, q3, StrsO.keep (fun k hk => ⟨.inl hk, Below.block hb1 k (hS k hk)⟩) _ _ hxl⟩
end

theorem RowG.posBlock {α : Type} {T : Srt α} {t : TypeId} {base : Nat} {w : World} {S : Nat → Prop} {v : Value} {es : List α} (h : RowG T t base w S v es) (he : 0 < es.length) : ∃ g cap, v = .slice (some ⟨g, 0, none⟩) es.length cap ∧ es.length ≤ cap ∧ cap ≤ maxLen ∧ base ≤ g ∧ g < w.heap.size := by
  obtain ⟨A, cap, hv, h1, h2, h3⟩ := h.shut
  rcases h3 with rfl | ⟨g, xs, rfl, hb, hg, _, _⟩
  · simp at he
  · exact ⟨g, cap, hv, h1, h2, hb, hg⟩
/-- One number of a row of the call's own written over. -/
theorem RowG.setI {t : TypeId} {base g c n i : Nat} {w : World} {S : Nat → Prop} {es : List Int} {y : Int} (h : RowG srtI t base w S (.slice (some ⟨g, 0, none⟩) n c) es) (hn : es.length = n) (hi : i < n) : RowG srtI t base (w.setCell ⟨g, i, none⟩ (.int .i64 y)) S (.slice (some ⟨g, 0, none⟩) n c) (es.set i y) := by
  subst hn
  obtain ⟨xs, h1, h2⟩ := h.raw
  obtain ⟨ys, v, zs, g1, g2, g3, g4⟩ := Items.split es xs i hi h2
  have g3' : v = .int .i64 es[i] := g3
  have hk : Keeps (fun k => k = g) w (w.setCell ⟨g, i, none⟩ (.int .i64 y)) := (Keeps.refl (fun k => k = g) w).setCell (p := ⟨g, i, none⟩) (fun _ => rfl) _
  have hkS : ∀ k, S k → S k ∧ (w.setCell ⟨g, i, none⟩ (.int .i64 y)).heap[k]? = w.heap[k]? := fun k hs =>
    ⟨hs, hk.block k (h.old k hs) (fun e => h.apart k hs (by rw [e]; rfl))⟩
  have hlen : (es.set i y).length = es.length := by simp
  refine ⟨⟨ys ++ ([.int .i64 y] ++ zs), ?_, ?_⟩, h.apart, fun k hs => Nat.lt_of_lt_of_le (h.old k hs) hk.size⟩
  · rw [hlen]
    have s1 := (h1.stored i (.int .i64 y)).1
    rw [g1, g3'] at s1
    have g2' : ys.length = i := by simpa [srtI] using g2
    have e : (ys ++ ((Value.int .i64 es[i]).cells.toList ++ zs)).set i (.int .i64 y) = ys ++ ([.int .i64 y] ++ zs) := by
      subst g2'
      simp [Value.cells]
    rw [e] at s1
    exact s1
  · exact g4 _ S y (.int .i64 y) hkS rfl
/-- One node's numbers written over. -/
theorem RowG.setArgs {t : TypeId} {base g c n i cA : Nat} {w : World} {S S' : Nat → Prop} {es : List RNd} {l : List Int} {A : Option Addr} (h : RowG srtN t base w S (.slice (some ⟨g, 0, none⟩) n c) es) (hn : es.length = n) (hi : i < es.length) (hS : ∀ k, S k → S' k) (ho : ∀ k, S' k → k < w.heap.size ∧ k ≠ g) (hlA : l.length ≤ cA) (hcA : cA ≤ maxLen) (hx : IntsO w S' l A) :
    RowG srtN t base (w.setCell ⟨g, i * 5 + 2, none⟩ (.slice A l.length cA)) S' (.slice (some ⟨g, 0, none⟩) n c) (es.set i { es[i] with args := l }) := by
  subst hn
  obtain ⟨xs, h1, h2⟩ := h.raw
  obtain ⟨ys, v, zs, g1, g2, g3, g4⟩ := Items.split es xs i hi h2
  have hk : Keeps (fun k => k = g) w (w.setCell ⟨g, i * 5 + 2, none⟩ (.slice A l.length cA)) := (Keeps.refl (fun k => k = g) w).setCell (p := ⟨g, i * 5 + 2, none⟩) (fun _ => rfl) _
  have hkS : ∀ k, S' k → S' k ∧ (w.setCell ⟨g, i * 5 + 2, none⟩ (.slice A l.length cA)).heap[k]? = w.heap[k]? := fun k hs =>
    ⟨hs, hk.block k (ho k hs).1 (ho k hs).2⟩
  obtain ⟨aA, cA', aL, cL, hv, r1, r2, r3, r4, r5, r6, r7⟩ := g3
  have hlen : (es.set i { es[i] with args := l }).length = es.length := by simp
  refine ⟨⟨ys ++ ([.int .i64 es[i].kind, .string es[i].name, .slice A l.length cA, .slice aL es[i].labels.length cL, .bool es[i].op] ++ zs), ?_, ?_⟩, fun k hs e => (ho k hs).2 (by simp [Value.ownBlock] at e; exact e.symm), fun k hs => Nat.lt_of_lt_of_le (ho k hs).1 hk.size⟩
  · rw [hlen]
    have s1 := (h1.stored (i * 5 + 2) (.slice A l.length cA)).1
    rw [g1, hv] at s1
    have g2' : ys.length = i * 5 := by simpa [srtN] using g2
    have e : (ys ++ ((Value.agg #[.int .i64 es[i].kind, .string es[i].name, .slice aA es[i].args.length cA', .slice aL es[i].labels.length cL, .bool es[i].op]).cells.toList ++ zs)).set (i * 5 + 2) (.slice A l.length cA) = ys ++ ([.int .i64 es[i].kind, .string es[i].name, .slice A l.length cA, .slice aL es[i].labels.length cL, .bool es[i].op] ++ zs) := by
      rw [← g2']
      simp [Value.cells]
    rw [e] at s1
    exact s1
  · refine g4 _ S' { es[i] with args := l } (.agg #[.int .i64 es[i].kind, .string es[i].name, .slice A l.length cA, .slice aL es[i].labels.length cL, .bool es[i].op]) (fun k hs => hkS k (hS k hs)) ?_
    exact ⟨_, _, _, _, rfl, r1, hlA, hcA, r4, r5, IntsO.keep (fun k hs => hkS k hs) _ _ hx, StrsO.keep (fun k hs => hkS k (hS k hs)) _ _ r7⟩
section
variable {S1 : Nat → Prop} {w4 W W1 w' : World} {hb nb n c i : Nat} {r : Int} {es : List RNd} {x : RNd}
theorem Trn.putA {cA : Nat} {l : List Int} {A : Option Addr} (h : Trn S1 w4 W hb nb n c r es) (hl : es.length = n) (hi : i < es.length) (hlA : l.length ≤ cA) (hcA : cA ≤ maxLen) (hx : IntsO W (OldNew S1 w4.heap.size hb nb W) l A) :
    Trn S1 w4 (W.setCell ⟨nb, i * 5 + 2, none⟩ (.slice A l.length cA)) hb nb n c r (es.set i { es[i] with args := l }) := by
  have hz : (W.setCell ⟨nb, i * 5 + 2, none⟩ (.slice A l.length cA)).heap.size = W.heap.size := by simp [World.setCell]
  refine ⟨h.bel.setCell (p := ⟨nb, i * 5 + 2, none⟩) h.nb_lt.1 _, h.blk.setNe h.ne _, ?_, h.hbB, h.ne, h.old⟩
  have h2 := RowG.setArgs h.row hl hi (S' := OldNew S1 w4.heap.size hb nb W) (fun _ e => e) (h.apart (Nat.le_refl _)) hlA hcA hx
  unfold OldNew at h2 ⊢
  rw [hz]
  exact h2
/-- One node more. -/
theorem Trn.grow {mb c' : Nat} (h : Trn S1 w4 W hb nb n c r es) (hW : BelC W W1) (hr : RowG srtN 36 w4.heap.size w' (OldNew S1 w4.heap.size hb nb W1) (.slice (some ⟨mb, 0, none⟩) (n + 1) c') (es ++ [x])) (hk : Keeps (fun k => (Value.slice (some ⟨nb, 0, none⟩) n c).ownBlock = some k) W1 w') (hm : mb = nb ∨ mb = W1.heap.size) :
    Trn S1 w4 (w'.setCell ⟨hb, 0, none⟩ (.slice (some ⟨mb, 0, none⟩) (n + 1) c')) hb mb (n + 1) c' r (es ++ [x]) := by
  have z1 := Below.size hW
  have z2 := hk.size
  have zh := h.blk.lt
  have zB := Below.size h.bel
  have zn := h.nb_lt
  have hz : (w'.setCell ⟨hb, 0, none⟩ (.slice (some ⟨mb, 0, none⟩) (n + 1) c')).heap.size = w'.heap.size := by simp [World.setCell]
  have b1 : Blk w' hb (.cells #[.slice (some ⟨nb, 0, none⟩) n c, .int .i64 r] 24 (0, 0)) :=
    (hk.block hb (by omega) (fun e => by simp [Value.ownBlock] at e; exact h.ne e.symm)).trans ((Below.block hW _ zh).trans h.blk)
  have hne : hb ≠ mb := by
    have := h.ne
    rcases hm with e | e <;> omega
  refine ⟨?_, b1.set 0 _, ?_, h.hbB, hne, h.old⟩
  · refine BelC.setCell (Below.trans h.bel ((Below.mono hW zB).trans (hk.below (by omega) (fun k hk e => ?_)))) h.hbB _
    simp [Value.ownBlock] at e
    omega
  · have h2 : RowG srtN 36 w4.heap.size (w'.setCell ⟨hb, 0, none⟩ (.slice (some ⟨mb, 0, none⟩) (n + 1) c')) (OldNew S1 w4.heap.size hb nb W1) (.slice (some ⟨mb, 0, none⟩) (n + 1) c') (es ++ [x]) :=
      hr.keep (F := fun k => hb = k) ((Keeps.refl _ w').setCell (p := ⟨hb, 0, none⟩) (fun _ => rfl) _) (fun k e _ => ⟨by subst e; simp [Value.ownBlock]; omega, fun h3 => by
        subst e
        rcases h3 with e | e
        · have := h.old _ e; have := h.hbB; omega
        · exact e.2.2.1 rfl⟩)
    have hin : ∀ q, OldNew S1 w4.heap.size hb nb W1 q → q < w'.heap.size ∧ q ≠ mb := fun q hq => by
      rcases hq with e | e
      · have := h.old q e
        refine ⟨by omega, ?_⟩
        rcases hm with e2 | e2 <;> omega
      · refine ⟨by omega, ?_⟩
        rcases hm with e2 | e2
        · rw [e2]; exact e.2.2.2
        · omega
    refine h2.wide (fun q hq => ?_) (fun q hq => ?_)
    · have := hin q hq
      rcases hq with e | e
      · exact .inl e
      · exact .inr ⟨e.1, by rw [hz]; exact this.1, e.2.2.1, this.2⟩
    · rw [hz]
      simp only [Value.ownBlock, ne_eq, Option.some.injEq]
      rcases hq with e | e
      · have := h.old q e
        refine ⟨by omega, ?_⟩
        rcases hm with e2 | e2 <;> omega
      · rw [hz] at e
        exact ⟨e.2.1, fun e2 => e.2.2.2 e2.symm⟩
/-- A graph that lies so, whole. -/
theorem Trn.grV (h : Trn S1 w4 W hb nb n c r es) (hl : es.length = n) : GrV W (fun k => k < W.heap.size) ⟨es, r⟩ (.agg #[.slice (some ⟨nb, 0, none⟩) n c, .int .i64 r]) := by
  subst hl
  obtain ⟨A, c', e, h1, h2, h3⟩ := h.row.nds (S' := fun k => k < W.heap.size) (fun k hk => (h.apart (Nat.le_refl _) k hk).1) (fun k _ hk => hk)
  simp only [Value.slice.injEq, true_and] at e
  obtain ⟨rfl, rfl⟩ := e
  exact ⟨_, _, rfl, h1, h2, h3⟩
end

theorem items_of_ints {w : World} {S S' : Nat → Prop} : ∀ (l : List Int) (b o : Nat), IntsO w S l (some ⟨b, o, none⟩) → ∃ xs, Items srtI w S' l xs ∧ ∀ j u, xs[j]? = some u → w.cell? ⟨b, o + j, none⟩ = some u
  | [], _, _, _ => ⟨[], rfl, fun j u h => by simp at h⟩
  | e :: r, b, o, h => by
    obtain ⟨b', o', hA, hb, hc, hr⟩ := h
    simp only [Option.some.injEq, Addr.mk.injEq, and_true] at hA
    obtain ⟨rfl, rfl⟩ := hA
    obtain ⟨xs, h1, h2⟩ := items_of_ints (S' := S') r b (o + 1) hr
    refine ⟨.int .i64 e :: xs, ⟨.int .i64 e, xs, rfl, rfl, h1⟩, fun j u hu => ?_⟩
    cases j with
    | zero => simp at hu; subst hu; exact hc
    | succ j =>
      have := h2 j u (by simpa using hu)
      rwa [show o + 1 + j = o + (j + 1) by omega] at this
theorem lies_ints {w : World} {S S' : Nat → Prop} {l : List Int} {A : Option Addr} (h : IntsO w S l A) : LiesAt srtI w S' l A := by
  cases l with
  | nil =>
    cases A with
    | none => exact .inl ⟨rfl, rfl⟩
    | some ad => exact .inr ⟨ad, rfl, [], fun j u h => by simp at h, rfl⟩
  | cons e r =>
    have h' := h
    obtain ⟨b, o, rfl, _⟩ := h'
    obtain ⟨xs, h1, h2⟩ := items_of_ints (S' := S') _ _ _ h
    exact .inr ⟨_, rfl, xs, fun j u hu => by rw [add_plain']; exact h2 j u hu, h1⟩
/-- A node of a row of the call's own. -/
theorem RowG.nodeAt {t : TypeId} {base g c n i : Nat} {w : World} {S : Nat → Prop} {es : List RNd} (h : RowG srtN t base w S (.slice (some ⟨g, 0, none⟩) n c) es) (hn : es.length = n) (hi : i < es.length) :
    ∃ aA cA aL cL, w.cell? ⟨g, i * 5, none⟩ = some (.int .i64 es[i].kind) ∧ w.cell? ⟨g, i * 5 + 1, none⟩ = some (.string es[i].name) ∧ w.cell? ⟨g, i * 5 + 2, none⟩ = some (.slice aA es[i].args.length cA) ∧ w.cell? ⟨g, i * 5 + 3, none⟩ = some (.slice aL es[i].labels.length cL) ∧ w.cell? ⟨g, i * 5 + 4, none⟩ = some (.bool es[i].op) ∧
      NdV w S es[i] (.agg #[.int .i64 es[i].kind, .string es[i].name, .slice aA es[i].args.length cA, .slice aL es[i].labels.length cL, .bool es[i].op]) ∧ es[i].args.length ≤ cA ∧ cA ≤ maxLen ∧ IntsO w S es[i].args aA := by
  subst hn
  obtain ⟨xs, h1, h2⟩ := h.raw
  obtain ⟨ys, v, zs, g1, g2, g3, _⟩ := Items.split es xs i hi h2
  have g3' := g3
  obtain ⟨aA, cA, aL, cL, hv, r1, r2, r3, r4, r5, r6, r7⟩ := g3'
  have g2' : ys.length = i * 5 := by simpa [srtN] using g2
  rw [hv] at g1 g3
  have hc : ∀ j (_ : j < 5), w.cell? ⟨g, i * 5 + j, none⟩ = ([.int .i64 es[i].kind, .string es[i].name, .slice aA es[i].args.length cA, .slice aL es[i].labels.length cL, .bool es[i].op] : List Value)[j]? := fun j hj => by
    have h5 : i * 5 + j < es.length * 5 := by omega
    rw [h1.cellAt (i * 5 + j) h5, g1, List.getElem?_append_right (by omega), g2', Nat.add_sub_cancel_left, List.getElem?_append_left (by simpa [Value.cells] using hj)]
    simp [Value.cells]
  exact ⟨aA, cA, aL, cL, hc 0 (by decide), hc 1 (by decide), hc 2 (by decide), hc 3 (by decide), hc 4 (by decide), g3, r2, r3, r6⟩
theorem RowG.cellI {t : TypeId} {base g c n i : Nat} {w : World} {S : Nat → Prop} {es : List Int} (h : RowG srtI t base w S (.slice (some ⟨g, 0, none⟩) n c) es) (hn : es.length = n) (hi : i < es.length) : w.cell? ⟨g, i, none⟩ = some (.int .i64 es[i]) ∧ w.frozen? ⟨g, i, none⟩ = false := by
  subst hn
  obtain ⟨xs, h1, h2⟩ := h.raw
  obtain ⟨ys, v, zs, g1, g2, g3, _⟩ := Items.split es xs i hi h2
  have g3' : v = .int .i64 es[i] := g3
  have g2' : ys.length = i := by simpa [srtI] using g2
  refine ⟨?_, h1.frozenAt i⟩
  rw [h1.cellAt i (by simpa [srtI] using hi), g1, g3', List.getElem?_append_right (by omega), g2', Nat.sub_self]
  simp [Value.cells]
end Go.Proofs.Ytipehahfbcbigaa

/-
  slices.Equal (made of Same), graph.alike.
-/
/-
  Pairs as keys: who was looked at.
-/
import Derived.Test.YtnhdgndjpkdhdaaDClsM
import Derived.Test.YtnhdgndjpkdhdaaDFree
import Derived.Test.YtnhdgndjpkdhdaaNKeys
namespace Go.Proofs.Ytnhdgndjpkdhdaa
open Go.RowKit

set_option maxHeartbeats 400000 in
theorem equal_r (w : World) (S1 S2 : Nat → Prop) (l1 l2 : List ByteArray) (A1 A2 : Option Addr) (c1 c2 : Nat) (r : Bool) (h1 : StrsO w S1 l1 A1) (h2 : StrsO w S2 l2 A2) (hc1 : l1.length ≤ c1) (hm1 : c1 ≤ maxLen) (_hc2 : l2.length ≤ c2) (_hm2 : c2 ≤ maxLen) (hr : decide (l1 = l2) = r) :
    Calls Try.prog 83 #[.slice A1 l1.length c1, .slice A2 l2.length c2] w fun e w' => e = .returned (.bool r) ∧ ∃ n, w' = w.drewN n := by
  unfold maxLen at hm1
  have H1 := Lib.hid h1
  have H2 := Lib.hid h2
  have HR := Lib.hid hr
  clear h1 h2 hr
  by_cases hlen : l1.length = l2.length
  · have hne : ((l1.length : Int) != (l2.length : Int)) = false := by rw [bne_eq_false_iff_eq]; omega
    have HLen := Lib.hid hlen
    clear hlen
    go_enter Try.func83, Try.ntmps83
    go_wp2
    go_loopw [5, 13] (fun _ i wr => ∃ k n : Nat, i = .int .i64 k ∧ k ≤ l1.length ∧ decide (l1.drop k = l2.drop k) = r ∧ wr = w.drewN n) (fun _ i _ => l1.length - (intOf i).toNat)
    case atStart => exact ⟨0, 0, rfl, Nat.zero_le _, by simpa using HR.out, rfl⟩
    case round =>
      obtain ⟨k, n, rfl, hk, hq, rfl⟩ := hrel
      have Hq := Lib.hid hq
      clear hq
      by_cases hlt : k < l1.length
      · have hlt2 : k < l2.length := by rw [← HLen.out]; exact hlt
        obtain ⟨b1, o1, rfl, _, d1, z1⟩ := StrsO.get _ _ H1.out k hlt
        obtain ⟨b2, o2, rfl, _, d2, z2⟩ := StrsO.get _ _ H2.out k hlt2
        have hd := take_drop_eq l1 l2 k hlt hlt2
        obtain ⟨s, hs⟩ : ∃ s, s = l1[k] := ⟨_, rfl⟩
        obtain ⟨t, ht⟩ : ∃ t, t = l2[k] := ⟨_, rfl⟩
        rw [← hs] at d1 hd
        rw [← ht] at d2 hd
        by_cases hst : s = t
        · have hb0 : (s.toList == t.toList) = true := by rw [bytes_eq, decide_eq_true hst]
          have hd2 : decide (l1.drop (k + 1) = l2.drop (k + 1)) = r := by
            rw [← Hq.out]
            by_cases h : l1.drop (k + 1) = l2.drop (k + 1)
            · rw [decide_eq_true h, decide_eq_true (hd.2 ⟨hst, h⟩)]
            · rw [decide_eq_false h, decide_eq_false (fun e => h (hd.1 e).2)]
          have HD := Lib.hid hd2
          clear hd hd2 hs ht hst
          go_wp2
          go_quiet (fail)
          go_wp2
          go_roundw
          case rel => exact ⟨k + 1, n + nq, by go_num, by omega, HD.out, rfl⟩
          case measure => simp [intOf]; omega
        · have hb0 : (s.toList == t.toList) = false := by rw [bytes_eq, decide_eq_false hst]
          have hrr : false = r := by rw [← Hq.out, decide_eq_false (fun e => hst (hd.1 e).1)]
          subst hrr
          clear hd hs ht hst
          go_wp2
          go_quiet (fail)
          go_wp2
          go_ret
          exact ⟨rfl, n + nq, World.drewN_drewN ..⟩
      · have hrr : true = r := by
          rw [← Hq.out, List.drop_eq_nil_of_le (by omega), List.drop_eq_nil_of_le (by rw [← HLen.out]; omega)]
          simp
        subst hrr
        go_wp2
        go_ret
        exact ⟨rfl, n, rfl⟩
  · have hne : ((l1.length : Int) != (l2.length : Int)) = true := by rw [bne_iff_ne]; omega
    have hrr : false = r := by rw [← HR.out, decide_eq_false (fun e => hlen (by rw [e]))]
    subst hrr
    clear hlen
    go_enter Try.func83, Try.ntmps83
    go_wp2
    go_ret
    exact ⟨rfl, 0, rfl⟩

theorem equal_quiet (w0 : World) (S1 S2 : Nat → Prop) (l1 l2 : List ByteArray) (A1 A2 : Option Addr) (c1 c2 : Nat) (r : Bool) (h1 : StrsO w0 S1 l1 A1) (h2 : StrsO w0 S2 l2 A2) (hc1 : l1.length ≤ c1) (hm1 : c1 ≤ maxLen) (hc2 : l2.length ≤ c2) (hm2 : c2 ≤ maxLen) (hr : decide (l1 = l2) = r) (n : Nat) :
    Calls Try.prog 83 #[.slice A1 l1.length c1, .slice A2 l2.length c2] (w0.drewN n) fun e w' => e = .returned (.bool r) ∧ ∃ m, w' = (w0.drewN n).drewN m :=
  equal_r (w0.drewN n) S1 S2 l1 l2 A1 A2 c1 c2 r (StrsO.keep (w := w0) (w' := w0.drewN n) (S' := S1) (fun _ hk => ⟨hk, rfl⟩) _ _ h1) (StrsO.keep (w := w0) (w' := w0.drewN n) (S' := S2) (fun _ hk => ⟨hk, rfl⟩) _ _ h2) hc1 hm1 hc2 hm2 hr


/-- Two nodes' own fields. -/
def dalike (x y : RNd) : Bool := decide (x.kind = y.kind) && (decide (x.name = y.name) && (decide (x.op = y.op) && decide (x.labels = y.labels)))
theorem dalike_iff {N M : Nat} {x y : RNd} (hx : x.ok N = true) (hy : y.ok M = true) : dalike x y = true ↔ x.nd.alike y.nd := by
  simp only [RNd.ok, RNd.own, Bool.and_eq_true] at hx hy
  unfold dalike G.Nd.alike
  simp only [Bool.and_eq_true, decide_eq_true_eq, RNd.nd, List.length_map]
  constructor
  · rintro ⟨h1, h2, h3, h4⟩
    refine ⟨h1, h2, h3, ?_, h4⟩
    have g1 := hx.2
    have g2 := hy.2
    rw [← h1, ← h2, ← h3, ← h4] at g2
    by_cases k1 : x.kind = 1
    · rw [if_pos k1] at g1 g2
      simp at g1 g2
      simp [g1, g2]
    · rw [if_neg k1] at g1 g2
      by_cases k2 : x.kind = 2
      · rw [if_pos k2] at g1 g2
        simp at g1 g2
        omega
      · rw [if_neg k2] at g1 g2
        by_cases k3 : x.kind = 3
        · rw [if_pos k3] at g1 g2
          simp at g1 g2
          omega
        · rw [if_neg k3] at g1; cases g1
  · rintro ⟨h1, h2, h3, _, h4⟩
    exact ⟨h1, h2, h3, h4⟩

set_option maxRecDepth 100000 in
set_option maxHeartbeats 1000000 in
theorem dalike_r (w : World) (S1 S2 : Nat → Prop) (b1 o1 b2 o2 : Nat) (x y : RNd) (r : Bool) (hx : NdP w S1 b1 o1 x) (hy : NdP w S2 b2 o2 y) (hr : dalike x y = r) :
    Calls Try.prog 66 #[.pointer (some ⟨b1, o1, none⟩), .pointer (some ⟨b2, o2, none⟩)] w fun e w' => e = .returned (.bool r) ∧ ∃ n, w' = w.drewN n := by
  obtain ⟨aA, cA, aL, cL, f0, f1, f2, f3, f4, q0, q1, q2, q3, q4, _, q6, _⟩ := hx.val
  obtain ⟨aA', cA', aL', cL', g0, g1, g2, g3, g4, p0, p1, p2, p3, p4, _, p6, _⟩ := hy.val
  have Q6 := Lib.hid q6
  have P6 := Lib.hid p6
  have HX := Lib.hid hx
  have HY := Lib.hid hy
  clear hx hy q6 p6 q0 p0
  unfold maxLen at q2 p2
  unfold dalike at hr
  rcases h0 : decide (x.kind = y.kind) with _ | _
  · rw [h0, Bool.false_and] at hr
    subst hr
    have eh0 : (x.kind == y.kind) = false := by rw [beq_eq_false_iff_ne]; exact of_decide_eq_false h0
    clear h0
    go_enter Try.func66, Try.ntmps66
    go_wp2_with fail
    go_quiet (fail)
    go_wp2
    go_ret
    exact ⟨rfl, _, rfl⟩
  rw [h0, Bool.true_and] at hr
  have eh0 : (x.kind == y.kind) = true := by rw [beq_iff_eq]; exact of_decide_eq_true h0
  clear h0
  rcases h1 : decide (x.name = y.name) with _ | _
  · rw [h1, Bool.false_and] at hr
    subst hr
    have eh1 : (x.name.toList == y.name.toList) = false := by rw [bytes_eq]; exact h1
    clear h1
    go_enter Try.func66, Try.ntmps66
    go_wp2_with fail
    go_quiet (fail)
    go_wp2
    go_ret
    exact ⟨rfl, _, rfl⟩
  rw [h1, Bool.true_and] at hr
  have eh1 : (x.name.toList == y.name.toList) = true := by rw [bytes_eq]; exact h1
  clear h1
  rcases h2 : decide (x.op = y.op) with _ | _
  · rw [h2, Bool.false_and] at hr
    subst hr
    have eh2 : (x.op == y.op) = false := by rw [beq_eq_false_iff_ne]; exact of_decide_eq_false h2
    clear h2
    go_enter Try.func66, Try.ntmps66
    go_wp2_with fail
    go_quiet (fail)
    go_wp2
    go_ret
    exact ⟨rfl, _, rfl⟩
  rw [h2, Bool.true_and] at hr
  have eh2 : (x.op == y.op) = true := by rw [beq_iff_eq]; exact of_decide_eq_true h2
  clear h2
  have HR := Lib.hid hr
  clear hr
  go_enter Try.func66, Try.ntmps66
  go_wp2_with fail
  go_quiet ((go_at_call 83; exact Calls.quiet_of (equal_quiet w S1 S2 _ _ _ _ _ _ _ Q6.out P6.out q3 q4 p3 p4 HR.out _)))
  go_wp2
  go_ret
  exact ⟨rfl, _, rfl⟩
end Go.Proofs.Ytnhdgndjpkdhdaa
namespace Go.Proofs.Ytnhdgndjpkdhdaa
open Go.RowKit

/-- The match under way. -/
structure MtA (g h : RGr) (gA hA : Option Addr) (gc hc : Nat) (w0 : World) (B mB mapB pB sB : Nat) (W : World) (lv : Value) (p s : Nat → Nat) (L left : List (Nat × Nat)) : Prop where
  bel : Below w0.heap.size w0 W
  blk : Blk W mB (.cells #[.slice gA g.nodes.length gc, .slice hA h.nodes.length hc, .map (some mapB), lv, .slice (some ⟨pB, 0, none⟩) (g.nodes.length + h.nodes.length) (g.nodes.length + h.nodes.length), .slice (some ⟨sB, 0, none⟩) (g.nodes.length + h.nodes.length) (g.nodes.length + h.nodes.length)] 77 (0, 0))
  map : W.ownsMap Try.prog 80 (unitElem (H := Unit)) mapB L.length (setL L)
  lft : RowG srtP 80 B W (fun _ => False) lv left
  par : NumAt W pB (g.nodes.length + h.nodes.length) p
  siz : NumAt W sB (g.nodes.length + h.nodes.length) s
  ps : pB ≠ sB
  lm : w0.heap.size ≤ mB ∧ mB < B
  la : w0.heap.size ≤ mapB ∧ mapB < B
  lp : w0.heap.size ≤ pB ∧ pB < B
  ls : w0.heap.size ≤ sB ∧ sB < B
  lB : B ≤ W.heap.size
section
variable {g h : RGr} {gA hA : Option Addr} {gc hc : Nat} {w0 : World} {B mB mapB pB sB : Nat} {W W' : World} {lv lv' : Value} {p s p' s' : Nat → Nat} {L left L' left' : List (Nat × Nat)}
theorem NumAt.not_map {w : World} {b N : Nat} {f : Nat → Nat} (h : NumAt w b N f) {b' : Nat} {P : Program} {k : TypeId} {R : Value → Option (DataW Unit × List MemPlace)} {n : Nat} {D : DataW Unit} (hm : w.ownsMap P k R b' n D) : b ≠ b' := by
  intro e
  subst e
  obtain ⟨es, clock, hb, _⟩ := hm
  unfold NumAt at h
  rw [h] at hb
  injection hb with hb
  cases hb
theorem Blk.not_map {w : World} {b : Nat} {cs : Array Value} {t : TypeId} (h : Blk w b (.cells cs t (0, 0))) {b' : Nat} {P : Program} {k : TypeId} {R : Value → Option (DataW Unit × List MemPlace)} {n : Nat} {D : DataW Unit} (hm : w.ownsMap P k R b' n D) : b ≠ b' := by
  intro e
  subst e
  obtain ⟨es, clock, hb, _⟩ := hm
  unfold Blk at h
  rw [h] at hb
  injection hb with hb
  cases hb
theorem MtA.mp (a : MtA g h gA hA gc hc w0 B mB mapB pB sB W lv p s L left) : mB ≠ pB := by
  intro e
  have h1 := a.blk
  have h2 := a.par
  unfold Blk at h1
  unfold NumAt at h2
  rw [e, h2] at h1
  injection h1 with h1
  injection h1 with _ h1
  revert h1
  decide
theorem MtA.ms (a : MtA g h gA hA gc hc w0 B mB mapB pB sB W lv p s L left) : mB ≠ sB := by
  intro e
  have h1 := a.blk
  have h2 := a.siz
  unfold Blk at h1
  unfold NumAt at h2
  rw [e, h2] at h1
  injection h1 with h1
  injection h1 with _ h1
  revert h1
  decide
theorem MtA.keep (a : MtA g h gA hA gc hc w0 B mB mapB pB sB W lv p s L left) {F : Nat → Prop} (hk : Keeps F W W') (hF : ∀ k, F k → k < W.heap.size → k ≠ mB ∧ k ≠ mapB ∧ k ≠ pB ∧ k ≠ sB ∧ w0.heap.size ≤ k ∧ lv.ownBlock ≠ some k) : MtA g h gA hA gc hc w0 B mB mapB pB sB W' lv p s L left := by
  have hz := a.lB
  refine ⟨a.bel.trans (hk.below a.bel.size (fun i hi e => by have := (hF i e (by have := a.bel.size; omega)).2.2.2.2.1; omega)), ?_, ?_, a.lft.keep hk (fun k e hl => ⟨(hF k e hl).2.2.2.2.2, id⟩), ?_, ?_, a.ps, a.lm, a.la, a.lp, a.ls, Nat.le_trans hz hk.size⟩
  · exact (hk.block _ (by have := a.lm; omega) (fun e => (hF _ e (by have := a.lm; omega)).1 rfl)).trans a.blk
  · obtain ⟨es, clock, hb, r⟩ := a.map
    exact ⟨es, clock, (hk.block _ (by have := a.la; omega) (fun e => (hF _ e (by have := a.la; omega)).2.1 rfl)).trans hb, r⟩
  · exact (hk.block _ (by have := a.lp; omega) (fun e => (hF _ e (by have := a.lp; omega)).2.2.1 rfl)).trans a.par
  · exact (hk.block _ (by have := a.ls; omega) (fun e => (hF _ e (by have := a.ls; omega)).2.2.2.1 rfl)).trans a.siz
theorem MtA.new (a : MtA g h gA hA gc hc w0 B mB mapB pB sB W lv p s L left) (hk : Below W.heap.size W W') : MtA g h gA hA gc hc w0 B mB mapB pB sB W' lv p s L left :=
  a.keep (F := fun _ => False) (Keeps.of_below0 hk) (fun _ e _ => e.elim)
end
end Go.Proofs.Ytnhdgndjpkdhdaa

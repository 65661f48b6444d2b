/-
  What the laws of layer 13 share: contracts in all worlds behind one; plain facts on monos.
-/
import Derived.Test.YtnhdgndjpkdhdaaNAlive
import Derived.Test.YtnhdgndjpkdhdaaLOpen
import Derived.Test.YtnhdgndjpkdhdaaGCat2
namespace Go.Proofs.Ytnhdgndjpkdhdaa
open Go.ChangeShapes Go.WideShapes Go.ChangeAt Go.RowKit Go.Deep

/-- A list that was answered, in all worlds behind. -/
def Stays (w : World) (l : List Int) (A : Option Addr) : Prop := ∀ W, BelC w W → IntsO W (fun k => k < w.heap.size) l A
theorem Stays.of {w : World} {n : Nat} {l : List Int} {A : Option Addr} (h : IntsO w (fun k => n ≤ k ∧ k < w.heap.size) l A) : Stays w l A := fun _ hW => IntsO.keep (fun k hk => ⟨hk.2, Below.block hW k hk.2⟩) _ _ h
theorem BelC.trans {a b c : World} (h : BelC a b) (k : BelC b c) : BelC a c := Below.trans h (Below.mono k (Below.size h))

theorem items_of_ints {w : World} {S : Nat → Prop} : ∀ (l : List Int) (b o : Nat), IntsO w S l (some ⟨b, o, none⟩) → ∃ xs, Items srtI w S l xs ∧ ∀ j u, xs[j]? = some u → w.cell? ⟨b, o + j, none⟩ = some u
  | [], _, _, _ => ⟨[], rfl, fun j u h => by simp at h⟩
  | x :: r, b, o, h => by
    obtain ⟨b', o', e, hb, hc, hr⟩ := h
    simp only [Option.some.injEq, Addr.mk.injEq, and_true] at e
    obtain ⟨rfl, rfl⟩ := e
    obtain ⟨ys, h1, h2⟩ := items_of_ints r b (o + 1) hr
    refine ⟨.int .i64 x :: ys, ⟨.int .i64 x, ys, by simp [Value.cells], rfl, h1⟩, fun j u hu => ?_⟩
    cases j with
    | zero => simp only [List.getElem?_cons_zero, Option.some.injEq] at hu; subst hu; exact hc
    | succ j =>
      have := h2 j u (by simpa using hu)
      rwa [show o + 1 + j = o + (j + 1) by omega] at this
theorem lies_ints {w : World} {S : Nat → Prop} {l : List Int} {A : Option Addr} (h : IntsO w S l A) : LiesAt srtI w (fun _ => False) l A := by
  cases l with
  | nil =>
    cases A with
    | none => exact .inl ⟨rfl, rfl⟩
    | some a => exact .inr ⟨a, rfl, [], (fun j u h => by simp at h), rfl⟩
  | cons x r =>
    have h' := h
    obtain ⟨b, o, e, _⟩ := h'
    subst e
    obtain ⟨xs, h1, h2⟩ := items_of_ints _ b o h
    have hany : ∀ (l : List Int) (xs : List Value), Items srtI w S l xs → Items srtI w (fun _ => False) l xs := by
      intro l
      induction l with
      | nil => intro xs h; exact h
      | cons a r ih => rintro xs ⟨v, ys, e1, e2, e3⟩; exact ⟨v, ys, e1, e2, ih ys e3⟩
    exact .inr ⟨_, rfl, xs, fun j u hu => by rw [add_plain']; exact h2 j u hu, hany _ _ h1⟩

theorem blkNew {W : World} {b : Nat} {x : Value} {t : TypeId} (h : Blk W b (.cells #[x] t (0, 0))) : ∀ j u, [x][j]? = some u → W.cell? ((⟨b, 0, none⟩ : Addr).add j) = some u := fun j u hj => by
  rw [add_plain', h.cells.1]
  cases j with
  | zero => simpa using hj
  | succ j => simp at hj
theorem rowOne {W : World} {b base : Nat} {x : Int} (h : Blk W b (.cells #[.int .i64 x] 3 (0, 0))) (hb : base ≤ b) : RowG srtI 3 base W (fun _ => False) (.slice (some ⟨b, 0, none⟩) 1 1) [x] :=
  ⟨⟨[.int .i64 x], ⟨by simp [srtI], .inr ⟨b, 1, _, rfl, hb, h, Nat.le_refl _, by decide, by simp [srtI], by simp [srtI]⟩⟩, ⟨.int .i64 x, [], by simp [Value.cells], rfl, rfl⟩⟩, fun _ h => h.elim, fun _ h => h.elim⟩
section
variable {wC W : World} {S S2 : Nat → Prop} {g : RGr} {gv : Value} {M : List Int} {mA : Option Addr} {mc : Nat}
theorem generic_e (hS : ∀ k, S k → k < wC.heap.size) (hg : GrV wC S g gv) (hW : BelC wC W) (hS2 : ∀ k, S2 k → k < W.heap.size) (hI : IntsO W S2 M mA) (hmc : M.length ≤ mc) (hmm : mc ≤ maxLen) :
    Calls Try.prog 11 #[gv, .slice mA M.length mc] W fun e w' => ∃ A c, e = .returned (.tuple #[.slice A (g.genU M).length c, .int .i64 (g.mcode M)]) ∧ (g.genU M).length ≤ c ∧ c ≤ maxLen ∧ Stays w' ((g.genU M).map Int.ofNat) A ∧ BelC W w' :=
  (generic2_r W S S2 g gv M mA mc (fun k hk => Nat.lt_of_lt_of_le (hS k hk) (Below.size hW)) (hg.keep (fun k hk => ⟨hk, Below.block hW k (hS k hk)⟩)) hS2 hI hmc hmm).mono fun _ _ ⟨A, c, h1, h2, h3, h4, h5⟩ => ⟨A, c, h1, h2, h3, .of h4, h5⟩
theorem fixed_e (hS : ∀ k, S k → k < wC.heap.size) (hg : GrV wC S g gv) (hW : BelC wC W) (hS2 : ∀ k, S2 k → k < W.heap.size) (hI : IntsO W S2 M mA) (hmc : M.length ≤ mc) (hmm : mc ≤ maxLen) :
    Calls Try.prog 9 #[gv, .slice mA M.length mc] W fun e w' => ∃ A c, e = .returned (.tuple #[.slice A (g.fixU M).length c, .int .i64 (g.mcode M)]) ∧ (g.fixU M).length ≤ c ∧ c ≤ maxLen ∧ Stays w' ((g.fixU M).map Int.ofNat) A ∧ BelC W w' :=
  (fixed_r W S S2 g gv M mA mc (fun k hk => Nat.lt_of_lt_of_le (hS k hk) (Below.size hW)) (hg.keep (fun k hk => ⟨hk, Below.block hW k (hS k hk)⟩)) hS2 hI hmc hmm).mono fun _ _ ⟨A, c, h1, h2, h3, h4, h5⟩ => ⟨A, c, h1, h2, h3, .of h4, h5⟩
theorem check_e (hS : ∀ k, S k → k < wC.heap.size) (hg : GrV wC S g gv) (hW : BelC wC W) : Calls Try.prog 17 #[gv] W fun e w' => e = .returned (.int .i64 g.code) ∧ BelC W w' :=
  check_r W S g gv (fun k hk => Nat.lt_of_lt_of_le (hS k hk) (Below.size hW)) (hg.keep (fun k hk => ⟨hk, Below.block hW k (hS k hk)⟩))
theorem great_e (hS : ∀ k, S k → k < wC.heap.size) (hg : GrV wC S g gv) (hW : BelC wC W) : Calls Try.prog 22 #[gv] W fun e w' => (∃ z : Int, e = .returned (.int .i64 z)) ∧ BelC W w' :=
  great_r W S g gv (fun k hk => Nat.lt_of_lt_of_le (hS k hk) (Below.size hW)) (hg.keep (fun k hk => ⟨hk, Below.block hW k (hS k hk)⟩))
end

/-- What good answers. -/
def GoodAns (l : Nat) (e : Ending) : Prop := ∃ b : Bool, e = .returned (.bool b) ∧ (b = true → (l : Int) ≤ 60)

set_option maxRecDepth 100000 in
set_option maxHeartbeats 1000000 in
theorem good_r (w : World) (S : Nat → Prop) (g : RGr) (gv : Value) (A : Option Addr) (l c : Nat) (m : Int) (hS : ∀ k, S k → k < w.heap.size) (hg : GrV w S g gv) :
    Calls Try.prog 8 #[gv, .slice A l c, .int .i64 m] w fun e w' => GoodAns l e ∧ Below w.heap.size w w' := by
  have hgK := hg
  obtain ⟨gA, gc, rfl, hgc, hgm, _⟩ := hg
  obtain ⟨w1, hw1⟩ : ∃ w1, w1 = w.alloc (.cells #[.slice gA g.nodes.length gc, .int .i64 g.root] 24) := ⟨_, rfl⟩
  have hb1 : BelC w w1 := by rw [hw1]; exact (BelC.refl w).alloc _
  have hq0 : Blk w1 w.heap.size (.cells #[.slice gA g.nodes.length gc, .int .i64 g.root] 24 (0, 0)) := by rw [hw1]; exact Blk.new' _ _ _ rfl
  have HGg := Lib.hid (great_e hS hgK hb1)
  have HB1 := Lib.hid hb1
  have c0 := hq0.cells.1 0
  have c1 := hq0.cells.1 1
  unfold maxLen at hgm
  clear hgK hS hb1 hq0
  go_enter Try.func8, Try.ntmps8
  go_wp2_with fail
  rw [← hw1]
  clear hw1
  with_reducible refine HGg.out.mono ?_
  rintro e w2 ⟨⟨z, rfl⟩, hb2⟩
  have HB2 := Lib.hid hb2
  clear hb2 c0 c1
  by_cases h1 : z ≤ m
  · by_cases h2 : (l : Int) ≤ 60
    · go_wp2
      go_ret
      exact ⟨⟨_, rfl, fun _ => h2⟩, Below.trans HB1.out (Below.mono HB2.out (Below.size HB1.out))⟩
    · have h3 : decide ((l : Int) ≤ 60) = false := decide_eq_false h2
      go_wp2
      go_ret
      exact ⟨⟨_, rfl, fun h => by simp at h⟩, Below.trans HB1.out (Below.mono HB2.out (Below.size HB1.out))⟩
  · go_wp2
    go_ret
    exact ⟨⟨_, rfl, fun h => by simp at h⟩, Below.trans HB1.out (Below.mono HB2.out (Below.size HB1.out))⟩
theorem good_e {wC W : World} {S : Nat → Prop} {g : RGr} {gv : Value} {A : Option Addr} {l c : Nat} {m : Int} (hS : ∀ k, S k → k < wC.heap.size) (hg : GrV wC S g gv) (hW : BelC wC W) :
    Calls Try.prog 8 #[gv, .slice A l c, .int .i64 m] W fun e w' => GoodAns l e ∧ BelC W w' :=
  good_r W S g gv A l c m (fun k hk => Nat.lt_of_lt_of_le (hS k hk) (Below.size hW)) (hg.keep (fun k hk => ⟨hk, Below.block hW k (hS k hk)⟩))

theorem isHeld_iff {g : RGr} (h : g.ok = true) {M : List Nat} (hM : ∀ m, m ∈ M → m < g.nodes.length) (x : Nat) : g.isHeld M x = true ↔ ∃ m, m ∈ M ∧ G.Way g.fa m x := by
  unfold RGr.isHeld
  rw [decide_eq_true_eq, held_way h hM]
theorem isHeld_mono {g : RGr} (h : g.ok = true) {M M' : List Nat} (hM' : ∀ m, m ∈ M' → m < g.nodes.length) (hs : ∀ m, m ∈ M → m ∈ M') {x : Nat} (hx : g.isHeld M x = true) : g.isHeld M' x = true := by
  rw [isHeld_iff h (fun m hm => hM' m (hs m hm))] at hx
  rw [isHeld_iff h hM']
  obtain ⟨m, h1, h2⟩ := hx
  exact ⟨m, hs m h1, h2⟩
theorem genL_anti {g : RGr} (h : g.ok = true) {M M' : List Nat} (hM' : ∀ m, m ∈ M' → m < g.nodes.length) (hs : ∀ m, m ∈ M → m ∈ M') : ((g.genL M').all fun x => decide (x ∈ g.genL M)) = true := by
  rw [List.all_eq_true]
  intro x hx
  rw [decide_eq_true_eq]
  unfold RGr.genL at hx ⊢
  simp only [List.mem_filter, Bool.and_eq_true, Bool.not_eq_true', List.mem_range] at hx ⊢
  refine ⟨hx.1, hx.2.1, ?_, hx.2.2.2⟩
  rcases hh : g.isHeld M x with _ | _
  · rfl
  · have := isHeld_mono h hM' hs hh
    rw [hx.2.2.1] at this; cases this
theorem fixL_mono {g : RGr} (h : g.ok = true) {M M' : List Nat} (hM' : ∀ m, m ∈ M' → m < g.nodes.length) (hs : ∀ m, m ∈ M → m ∈ M') : ((g.fixL M).all fun x => decide (x ∈ g.fixL M')) = true := by
  rw [List.all_eq_true]
  intro x hx
  rw [decide_eq_true_eq]
  unfold RGr.fixL at hx ⊢
  simp only [List.mem_filter, Bool.and_eq_true, List.mem_range] at hx ⊢
  exact ⟨hx.1, isHeld_mono h hM' hs hx.2.1, hx.2.2⟩
theorem fixL_same {g : RGr} (h : g.ok = true) {M M' : List Nat} (hM : ∀ m, m ∈ M → m < g.nodes.length) (hM' : ∀ m, m ∈ M' → m < g.nodes.length) (hs : ∀ m, m ∈ M ↔ m ∈ M') : g.fixL M = g.fixL M' := by
  unfold RGr.fixL
  apply List.filter_congr
  intro x _
  have : g.isHeld M x = g.isHeld M' x := by
    rw [Bool.eq_iff_iff]
    exact ⟨isHeld_mono h hM' (fun m => (hs m).1), isHeld_mono h hM (fun m => (hs m).2)⟩
  rw [this]
theorem mono_app {g : RGr} {M M' : List Int} (h : g.monoOk M = true) (h' : g.monoOk M' = true) : g.monoOk (M ++ M') = true := by
  unfold RGr.monoOk at *
  rw [List.all_append, h, h']; rfl
end Go.Proofs.Ytnhdgndjpkdhdaa

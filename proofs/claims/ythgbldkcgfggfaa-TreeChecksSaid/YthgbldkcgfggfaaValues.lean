/-
  trefoillaw02.TreeValues: the walk.
-/
import Derived.Test.YthgbldkcgfggfaaOfAny
import Derived.Test.YthgbldkcgfggfaaAlive
namespace Go.Proofs.Ythgbldkcgfggfaa
open Go.RowKit

set_option maxRecDepth 100000 in
set_option maxHeartbeats 2000000 in
theorem valOf (w : World) (S : Nat → Prop) (k : Int) (l : List Ex) (A : Option Addr) (c : Nat) (hS : ∀ k, S k → k < w.heap.size) (he : ExsO w S l A) (hl : l.length ≤ c) (hc : c ≤ maxLen) (hN : 1 + Ex.sizes l ≤ 1000000) (r : Bool) (hr : (Ex.mk k ⟨#[120]⟩ 0 l [] [] []).value = r) :
    Calls Try.prog 27 #[.int .i64 k, .slice A l.length c] w fun e w' => e = .returned (.bool r) ∧ Below w.heap.size w w' := by
  subst hr
  have HE := Lib.hid he
  clear he
  go_enter Try.func27, Try.ntmps27
  go_wp2_with (go_at_call 18; refine (value_any _ S (Ex.mk k ⟨#[120]⟩ 0 l [] [] []) _ hS ?_ ?_).mono ?_; (· unfold ExV; exact ⟨A, c, none, 0, none, 0, none, 0, rfl, by decide, hl, hc, Nat.le_refl _, Nat.zero_le _, Nat.le_refl _, Nat.zero_le _, Nat.le_refl _, Nat.zero_le _, HE.out, by unfold StrsO; trivial, by unfold TysO; trivial, by unfold MmsO; trivial⟩); (· simp only [Ex.size, Mm.sizes]; omega); rintro e w' ⟨rfl, hb⟩)
  go_ret
  exact ⟨rfl, hb⟩

/-- What the laws do ahead of all else: the examples, and whether the parts are too many. -/
theorem pts_later {w W : World} {S : Nat → Prop} {l : List Part} {A : Option Addr} (hS : ∀ k, S k → k < w.heap.size) (hb : Below w.heap.size w W) (h : PtsO w S l A) : (∀ k, S k → k < W.heap.size) ∧ PtsO W S l A :=
  ⟨fun k hk => Nat.lt_of_lt_of_le (hS k hk) hb.size, PtsO.keep (fun k hk => ⟨hk, hb.block k (hS k hk)⟩) _ _ h⟩

/-- Values that were there in wB, in any later world. -/
theorem ExV.later {wB W : World} {a : Ex} {v : Value} (hb : BelC wB W) (h : ExV wB (fun k => k < wB.heap.size) a v) : ExV W (fun k => k < W.heap.size) a v :=
  ExV.keep (fun k hk => ⟨Nat.lt_of_lt_of_le hk hb.size, hb.block k hk⟩) _ _ h
section
variable {wB W : World} {x y : Ex} {ka na kb nb : Int} {sa sb : ByteArray} {aA aN aT aM bA bN bT bM : Option Addr} {nA cA nN cN nT cT nM cM mA dA mN dN mT dT mM dM : Nat}
theorem exs_one (hb : BelC wB W) (hx : ExV wB (fun k => k < wB.heap.size) x (.agg #[.int .i64 ka, .string sa, .int .i64 na, .slice aA nA cA, .slice aN nN cN, .slice aT nT cT, .slice aM nM cM])) {g : Nat} (hg : W.heap[g]? = some (.cells #[.int .i64 ka, .string sa, .int .i64 na, .slice aA nA cA, .slice aN nN cN, .slice aT nT cT, .slice aM nM cM] 31 (0, 0))) : ExsO W (fun k => k < W.heap.size) [x] (some ⟨g, 0, none⟩) := by
  unfold ExsO
  refine ⟨g, 0, _, rfl, (Array.getElem?_eq_some_iff.1 hg).1, cellsAt_of hg ?_, ExV.later hb hx, by unfold ExsO; trivial⟩
  intro j u hu
  simpa [Value.cells] using hu
theorem exs_two (hb : BelC wB W) (hx : ExV wB (fun k => k < wB.heap.size) x (.agg #[.int .i64 ka, .string sa, .int .i64 na, .slice aA nA cA, .slice aN nN cN, .slice aT nT cT, .slice aM nM cM])) (hy : ExV wB (fun k => k < wB.heap.size) y (.agg #[.int .i64 kb, .string sb, .int .i64 nb, .slice bA mA dA, .slice bN mN dN, .slice bT mT dT, .slice bM mM dM])) {g : Nat}
    (hg : W.heap[g]? = some (.cells #[.int .i64 ka, .string sa, .int .i64 na, .slice aA nA cA, .slice aN nN cN, .slice aT nT cT, .slice aM nM cM, .int .i64 kb, .string sb, .int .i64 nb, .slice bA mA dA, .slice bN mN dN, .slice bT mT dT, .slice bM mM dM] 31 (0, 0))) : ExsO W (fun k => k < W.heap.size) [x, y] (some ⟨g, 0, none⟩) := by
  have hlt := (Array.getElem?_eq_some_iff.1 hg).1
  unfold ExsO
  refine ⟨g, 0, _, rfl, hlt, cellsAt_of hg ?_, ExV.later hb hx, ?_⟩
  · intro j u hu
    rcases j with _ | _ | _ | _ | _ | _ | _ | j <;> simp_all [Value.cells]
  · unfold ExsO
    refine ⟨g, 7, _, rfl, hlt, cellsAt_of hg ?_, ExV.later hb hy, by unfold ExsO; trivial⟩
    intro j u hu
    rcases j with _ | _ | _ | _ | _ | _ | _ | j <;> simp_all [Value.cells]
theorem val0 (hb : BelC wB W) (k : Int) (r : Bool) (hr : (Ex.mk k ⟨#[120]⟩ 0 [] [] [] []).value = r) :
    Calls Try.prog 27 #[.int .i64 k, .slice none 0 0] W fun e w' => e = .returned (.bool r) ∧ BelC wB w' :=
  (valOf W (fun k => k < W.heap.size) k [] none 0 (fun _ h => h) (by unfold ExsO; trivial) (Nat.le_refl _) (Nat.zero_le _) (by simp [Ex.sizes]) r hr).mono fun _ _ h => ⟨h.1, Below.trans hb (h.2.mono hb.size)⟩
theorem val1 (hx : ExV wB (fun k => k < wB.heap.size) x (.agg #[.int .i64 ka, .string sa, .int .i64 na, .slice aA nA cA, .slice aN nN cN, .slice aT nT cT, .slice aM nM cM])) (hNx : x.size ≤ 400000) (k : Int) (r : Bool) (hr : (Ex.mk k ⟨#[120]⟩ 0 [x] [] [] []).value = r) (g : Nat) (hb : BelC wB W) (hg : W.heap[g]? = some (.cells #[.int .i64 ka, .string sa, .int .i64 na, .slice aA nA cA, .slice aN nN cN, .slice aT nT cT, .slice aM nM cM] 31 (0, 0))) :
    Calls Try.prog 27 #[.int .i64 k, .slice (some ⟨g, 0, none⟩) 1 1] W fun e w' => e = .returned (.bool r) ∧ BelC wB w' :=
  (valOf W (fun k => k < W.heap.size) k [x] _ 1 (fun _ h => h) (exs_one hb hx hg) (Nat.le_refl _) (by decide) (by simp only [Ex.sizes]; omega) r hr).mono fun _ _ h => ⟨h.1, Below.trans hb (h.2.mono hb.size)⟩
theorem val2 (hx : ExV wB (fun k => k < wB.heap.size) x (.agg #[.int .i64 ka, .string sa, .int .i64 na, .slice aA nA cA, .slice aN nN cN, .slice aT nT cT, .slice aM nM cM])) (hy : ExV wB (fun k => k < wB.heap.size) y (.agg #[.int .i64 kb, .string sb, .int .i64 nb, .slice bA mA dA, .slice bN mN dN, .slice bT mT dT, .slice bM mM dM])) (hNx : x.size ≤ 400000) (hNy : y.size ≤ 400000) (k : Int) (r : Bool) (hr : (Ex.mk k ⟨#[120]⟩ 0 [x, y] [] [] []).value = r) (g : Nat) (hb : BelC wB W)
    (hg : W.heap[g]? = some (.cells #[.int .i64 ka, .string sa, .int .i64 na, .slice aA nA cA, .slice aN nN cN, .slice aT nT cT, .slice aM nM cM, .int .i64 kb, .string sb, .int .i64 nb, .slice bA mA dA, .slice bN mN dN, .slice bT mT dT, .slice bM mM dM] 31 (0, 0))) :
    Calls Try.prog 27 #[.int .i64 k, .slice (some ⟨g, 0, none⟩) 2 2] W fun e w' => e = .returned (.bool r) ∧ BelC wB w' :=
  (valOf W (fun k => k < W.heap.size) k [x, y] _ 2 (fun _ h => h) (exs_two hb hx hy hg) (Nat.le_refl _) (by decide) (by simp only [Ex.sizes]; omega) r hr).mono fun _ _ h => ⟨h.1, Below.trans hb (h.2.mono hb.size)⟩
theorem valx (hx : ExV wB (fun k => k < wB.heap.size) x (.agg #[.int .i64 ka, .string sa, .int .i64 na, .slice aA nA cA, .slice aN nN cN, .slice aT nT cT, .slice aM nM cM])) (hNx : x.size ≤ 400000) (r : Bool) (hr : x.value = r) (hb : BelC wB W) :
    Calls Try.prog 18 #[.agg #[.int .i64 ka, .string sa, .int .i64 na, .slice aA nA cA, .slice aN nN cN, .slice aT nT cT, .slice aM nM cM]] W fun e w' => e = .returned (.bool r) ∧ BelC wB w' :=
  (value_any W (fun k => k < W.heap.size) x _ (fun _ h => h) (ExV.later hb hx) (by omega)).mono fun _ _ h => ⟨by rw [← hr]; exact h.1, Below.trans hb (h.2.mono hb.size)⟩
end
theorem heap_at' (w : World) (o : Obj) (k : Nat) (h : k = w.heap.size) : (w.alloc o).drew.heap[k]? = some o := heap_at w o k h

end Go.Proofs.Ythgbldkcgfggfaa

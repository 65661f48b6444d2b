/-
  trefoillaw02.TreeApart: plain facts, and what an empty row and a list put behind it come to.
-/
import Derived.Test.YthgbldkcgfggfaaParts1
namespace Go.Proofs.Ythgbldkcgfggfaa
open Go.RowKit

theorem wrap_ne (n : Int) : IntKind.i64.wrap (n + 1) ≠ n := by
  intro h
  have h1 : IntKind.i64.bits = 64 := rfl
  have h2 : IntKind.i64.signed = true := rfl
  unfold IntKind.wrap at h
  simp only [h1, h2, Bool.true_and] at h
  split at h <;> omega

theorem ExV.heads {w : World} {S : Nat → Prop} {x : Ex} {ka na : Int} {sa : ByteArray} {aA aN aT aM : Option Addr} {nA cA nN cN nT cT nM cM : Nat} (h : ExV w S x (.agg #[.int .i64 ka, .string sa, .int .i64 na, .slice aA nA cA, .slice aN nN cN, .slice aT nT cT, .slice aM nM cM])) : ka = x.kind ∧ sa = x.str ∧ na = x.num := by
  cases x
  unfold ExV at h
  obtain ⟨bA, dA, bN, dN, bT, dT, bM, dM, e, _⟩ := h
  simp only [Value.agg.injEq, Array.mk.injEq, List.cons.injEq, Value.int.injEq, Value.string.injEq, true_and] at e
  exact ⟨e.1, e.2.1, e.2.2.1⟩
theorem ExV.with3 {w : World} {S : Nat → Prop} {x : Ex} {ka na : Int} {sa : ByteArray} {aA aN aT aM : Option Addr} {nA cA nN cN nT cT nM cM : Nat} (h : ExV w S x (.agg #[.int .i64 ka, .string sa, .int .i64 na, .slice aA nA cA, .slice aN nN cN, .slice aT nT cT, .slice aM nM cM])) (k' n' : Int) (s' : ByteArray) (hs : s'.size ≤ maxLen) :
    ExV w S (.mk k' s' n' x.args x.names x.types x.mems) (.agg #[.int .i64 k', .string s', .int .i64 n', .slice aA nA cA, .slice aN nN cN, .slice aT nT cT, .slice aM nM cM]) := by
  cases x
  unfold ExV at h ⊢
  obtain ⟨bA, dA, bN, dN, bT, dT, bM, dM, e, h0, hrest⟩ := h
  simp only [Value.agg.injEq, Array.mk.injEq, List.cons.injEq, Value.slice.injEq, and_true] at e
  obtain ⟨_, _, _, ⟨rfl, rfl, rfl⟩, ⟨rfl, rfl, rfl⟩, ⟨rfl, rfl, rfl⟩, ⟨rfl, rfl, rfl⟩⟩ := e
  exact ⟨_, _, _, _, _, _, _, _, rfl, hs, hrest⟩
theorem Ex.eta (x : Ex) : x = .mk x.kind x.str x.num x.args x.names x.types x.mems := by cases x; rfl
theorem Ex.size_mk (x : Ex) (k n : Int) (s : ByteArray) : (Ex.mk k s n x.args x.names x.types x.mems).size = x.size ∧ (Ex.mk k s n x.args x.names x.types x.mems).tsize = x.tsize := by
  cases x; exact ⟨rfl, rfl⟩

theorem sameE {wB W : World} {x y : Ex} {ka na kb nb : Int} {sa sb : ByteArray} {aA aN aT aM bA bN bT bM : Option Addr} {nA cA nN cN nT cT nM cM mA dA mN dN mT dT mM dM : Nat}
    (hx : ExV wB (fun k => k < wB.heap.size) x (.agg #[.int .i64 ka, .string sa, .int .i64 na, .slice aA nA cA, .slice aN nN cN, .slice aT nT cT, .slice aM nM cM])) (hy : ExV wB (fun k => k < wB.heap.size) y (.agg #[.int .i64 kb, .string sb, .int .i64 nb, .slice bA mA dA, .slice bN mN dN, .slice bT mT dT, .slice bM mM dM])) (hN : x.size ≤ 1000000) (hN2 : y.size ≤ 1000000) (hNT : x.tsize ≤ 1000000) (r : Bool) (hr : r = true ↔ x = y) (hb : BelC wB W) :
    Calls Try.prog 21 #[.agg #[.int .i64 ka, .string sa, .int .i64 na, .slice aA nA cA, .slice aN nN cN, .slice aT nT cT, .slice aM nM cM], .agg #[.int .i64 kb, .string sb, .int .i64 nb, .slice bA mA dA, .slice bN mN dN, .slice bT mT dT, .slice bM mM dM]] W fun e w' => e = .returned (.bool r) ∧ BelC wB w' :=
  (same_any W (fun k => k < W.heap.size) (fun k => k < W.heap.size) x y _ _ (fun _ h => h) (fun _ h => h) (ExV.later hb hx) (ExV.later hb hy) hN hN2 hNT r hr).mono fun _ _ h => ⟨h.1, Below.trans hb (h.2.mono hb.size)⟩

theorem wrap64_ne (n : Int) : wrap64 (n + 1) ≠ n := by
  intro h
  unfold wrap64 at h
  omega

/-- A list's cells, one behind the other. -/
theorem items_of_exs {w : World} {S : Nat → Prop} : ∀ (l : List Ex) (b o : Nat), ExsO w S l (some ⟨b, o, none⟩) → ∃ xs, Items srtE w S l xs ∧ ∀ j u, xs[j]? = some u → w.cell? ⟨b, o + j, none⟩ = some u
  | [], _, _, _ => ⟨[], rfl, fun j u h => by simp at h⟩
  | e :: r, b, o, h => by
    unfold ExsO at h
    obtain ⟨b', o', v, hA, hb, hc, hv, hr⟩ := h
    simp only [Option.some.injEq, Addr.mk.injEq, and_true] at hA
    obtain ⟨rfl, rfl⟩ := hA
    obtain ⟨xs, h1, h2⟩ := items_of_exs r b (o + 7) hr
    have hl : v.cells.toList.length = 7 := srtE.cells _ _ _ _ hv
    refine ⟨v.cells.toList ++ xs, ⟨v, xs, rfl, hv, h1⟩, fun j u hu => ?_⟩
    by_cases hj : j < 7
    · rw [List.getElem?_append_left (by omega)] at hu
      exact hc j u (by simpa using hu)
    · rw [List.getElem?_append_right (by omega), hl] at hu
      have := h2 (j - 7) u hu
      rwa [show o + 7 + (j - 7) = o + j by omega] at this

theorem ofE_kind (l : List Part) : 0 ≤ (ofE l).kind ∧ (ofE l).kind ≤ 20 := by
  unfold ofE
  cases l with
  | nil => simp [ofN, Ex.kind]
  | cons p l =>
    have e : ofN ((p :: l).length + 1) (p :: l) = if p.k % 21 = 14 then (.mk 14 p.s p.n [] [] [] (ofMems (ofN (p :: l).length) (p.a % 4) l).1, (ofMems (ofN (p :: l).length) (p.a % 4) l).2)
      else (.mk ((p.k % 21 : Nat) : Int) (if p.k % 21 = 18 then ⟨#[]⟩ else p.s) p.n (ofList (ofN (p :: l).length) (p.a % 4) l).1 (if p.k % 21 = 18 then List.replicate (p.a % 4) p.s else []) (ofTypes (p.k % 21) p.t) [], (ofList (ofN (p :: l).length) (p.a % 4) l).2) := rfl
    rw [e]
    have := Nat.mod_lt p.k (show 0 < 21 by omega)
    by_cases h : p.k % 21 = 14
    · rw [if_pos h]; simp [Ex.kind]
    · rw [if_neg h]; simp only [Ex.kind]; omega
theorem ofE_str (l : List Part) (h : greatB l = false) : (ofE l).str.size ≤ 5000 := by
  unfold ofE
  cases l with
  | nil => simp [ofN, Ex.str, ByteArray.size]
  | cons p l =>
    have e : ofN ((p :: l).length + 1) (p :: l) = if p.k % 21 = 14 then (.mk 14 p.s p.n [] [] [] (ofMems (ofN (p :: l).length) (p.a % 4) l).1, (ofMems (ofN (p :: l).length) (p.a % 4) l).2)
      else (.mk ((p.k % 21 : Nat) : Int) (if p.k % 21 = 18 then ⟨#[]⟩ else p.s) p.n (ofList (ofN (p :: l).length) (p.a % 4) l).1 (if p.k % 21 = 18 then List.replicate (p.a % 4) p.s else []) (ofTypes (p.k % 21) p.t) [], (ofList (ofN (p :: l).length) (p.a % 4) l).2) := rfl
    have hs : p.s.size ≤ 5000 := by
      simp [greatB, bulk] at h
      omega
    rw [e]
    by_cases h : p.k % 21 = 14
    · rw [if_pos h]; simpa [Ex.str] using hs
    · rw [if_neg h]
      simp only [Ex.str]
      split
      · simp [ByteArray.size]
      · exact hs

end Go.Proofs.Ythgbldkcgfggfaa

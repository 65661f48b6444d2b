/-
  trefoilref02.Of in plain words: the term that parts stand for, and the parts that are left.
-/
import Derived.Test.YthgbldkcgfggfaaGreat
namespace Go.Proofs.Ythgbldkcgfggfaa
open Go.RowKit

def ofList (g : List Part → Ex × List Part) : Nat → List Part → List Ex × List Part
  | 0, l => ([], l)
  | n + 1, l => ((g l).1 :: (ofList g n (g l).2).1, (ofList g n (g l).2).2)
/-- The member that the first part tells, and the parts behind what it takes. -/
def ofMem (g : List Part → Ex × List Part) : List Part → Mm × List Part
  | [] => (.mk 3 ⟨#[109]⟩ ⟨#[]⟩ [(g []).1] [], (g []).2)
  | q :: l =>
    if q.a % 5 = 4 then (.mk 4 q.s ⟨#[]⟩ [] [typeOf q.t], l)
    else (.mk ((q.a % 5 : Nat) : Int) q.s (if q.a % 5 = 1 ∧ 0 < q.n then ⟨#[115, 117, 112, 101, 114]⟩ else ⟨#[]⟩) [(g l).1] [], (g l).2)
def ofMems (g : List Part → Ex × List Part) : Nat → List Part → List Mm × List Part
  | 0, l => ([], l)
  | n + 1, l => ((ofMem g l).1 :: (ofMems g n (ofMem g l).2).1, (ofMems g n (ofMem g l).2).2)
def ofTypes (k t : Nat) : List Ty := if k = 19 then [typeOf t] else if k = 20 then [typeOf t, typeOf (t / 8)] else []
def ofN : Nat → List Part → Ex × List Part
  | 0, _ => (.mk 5 ⟨#[]⟩ 0 [] [] [] [], [])
  | _ + 1, [] => (.mk 5 ⟨#[]⟩ 0 [] [] [] [], [])
  | f + 1, p :: l =>
    if p.k % 21 = 14 then (.mk 14 p.s p.n [] [] [] (ofMems (ofN f) (p.a % 4) l).1, (ofMems (ofN f) (p.a % 4) l).2)
    else (.mk ((p.k % 21 : Nat) : Int) (if p.k % 21 = 18 then ⟨#[]⟩ else p.s) p.n (ofList (ofN f) (p.a % 4) l).1 (if p.k % 21 = 18 then List.replicate (p.a % 4) p.s else []) (ofTypes (p.k % 21) p.t) [], (ofList (ofN f) (p.a % 4) l).2)

theorem typeOf_size (n : Nat) : (typeOf n).size ≤ 3 := by
  unfold typeOf
  split <;> decide

def OfOk (g : List Part → Ex × List Part) : Prop := ∀ l, (g l).2.length ≤ l.length ∧ (g l).1.size + 7 * (g l).2.length ≤ 1 + 7 * l.length ∧ (g l).1.tsize + 9 * (g l).2.length ≤ 9 * l.length
theorem ofList_ok {g : List Part → Ex × List Part} (h : OfOk g) : ∀ n l, (ofList g n l).1.length = n ∧ (ofList g n l).2.length ≤ l.length ∧ Ex.sizes (ofList g n l).1 + 7 * (ofList g n l).2.length ≤ n + 7 * l.length ∧ Ex.tsizes (ofList g n l).1 + 9 * (ofList g n l).2.length ≤ 9 * l.length
  | 0, l => by simp [ofList, Ex.sizes, Ex.tsizes]
  | n + 1, l => by
    have h1 := h l
    have h2 := ofList_ok h n (g l).2
    simp only [ofList, Ex.sizes, Ex.tsizes, List.length_cons]
    omega
theorem ofMem_ok {g : List Part → Ex × List Part} (h : OfOk g) (l : List Part) : (ofMem g l).2.length ≤ l.length ∧ (ofMem g l).1.size + 7 * (ofMem g l).2.length ≤ 2 + 7 * l.length ∧ (ofMem g l).1.tsize + 9 * (ofMem g l).2.length ≤ 3 + 9 * l.length := by
  cases l with
  | nil =>
    have h1 := h []
    simp only [ofMem, Mm.size, Mm.tsize, Ex.sizes, Ex.tsizes, Ty.sizes, List.length_nil] at h1 ⊢
    omega
  | cons q l =>
    have h1 := h l
    have h2 := typeOf_size q.t
    have e : ofMem g (q :: l) = if q.a % 5 = 4 then (.mk 4 q.s ⟨#[]⟩ [] [typeOf q.t], l)
      else (.mk ((q.a % 5 : Nat) : Int) q.s (if q.a % 5 = 1 ∧ 0 < q.n then ⟨#[115, 117, 112, 101, 114]⟩ else ⟨#[]⟩) [(g l).1] [], (g l).2) := rfl
    by_cases hc : q.a % 5 = 4
    · rw [e, if_pos hc]; simp only [Mm.size, Mm.tsize, Ex.sizes, Ex.tsizes, Ty.sizes, List.length_cons]; omega
    · rw [e, if_neg hc]; simp only [Mm.size, Mm.tsize, Ex.sizes, Ex.tsizes, Ty.sizes, List.length_cons]; omega
theorem ofMems_ok {g : List Part → Ex × List Part} (h : OfOk g) : ∀ n l, (ofMems g n l).1.length = n ∧ (ofMems g n l).2.length ≤ l.length ∧ Mm.sizes (ofMems g n l).1 + 7 * (ofMems g n l).2.length ≤ 2 * n + 7 * l.length ∧ Mm.tsizes (ofMems g n l).1 + 9 * (ofMems g n l).2.length ≤ 3 * n + 9 * l.length
  | 0, l => by simp [ofMems, Mm.sizes, Mm.tsizes]
  | n + 1, l => by
    have h1 := ofMem_ok h l
    have h2 := ofMems_ok h n (ofMem g l).2
    simp only [ofMems, Mm.sizes, Mm.tsizes, List.length_cons]
    omega
theorem ofTypes_size (k t : Nat) : Ty.sizes (ofTypes k t) ≤ 6 := by
  have h1 := typeOf_size t
  have h2 := typeOf_size (t / 8)
  unfold ofTypes
  split
  · simp only [Ty.sizes]; omega
  · split
    · simp only [Ty.sizes]; omega
    · simp [Ty.sizes]
/-- What Of makes is small. -/
theorem ofN_ok : ∀ f, OfOk (ofN f)
  | 0, l => by simp [ofN, Ex.size, Ex.tsize, Ex.sizes, Ex.tsizes, Mm.sizes, Mm.tsizes, Ty.sizes]
  | f + 1, [] => by simp [ofN, Ex.size, Ex.tsize, Ex.sizes, Ex.tsizes, Mm.sizes, Mm.tsizes, Ty.sizes]
  | f + 1, p :: l => by
    have h1 := ofList_ok (ofN_ok f) (p.a % 4) l
    have h2 := ofMems_ok (ofN_ok f) (p.a % 4) l
    have h3 := ofTypes_size (p.k % 21) p.t
    have h4 : p.a % 4 < 4 := Nat.mod_lt _ (by omega)
    have e : ofN (f + 1) (p :: l) = if p.k % 21 = 14 then (.mk 14 p.s p.n [] [] [] (ofMems (ofN f) (p.a % 4) l).1, (ofMems (ofN f) (p.a % 4) l).2)
      else (.mk ((p.k % 21 : Nat) : Int) (if p.k % 21 = 18 then ⟨#[]⟩ else p.s) p.n (ofList (ofN f) (p.a % 4) l).1 (if p.k % 21 = 18 then List.replicate (p.a % 4) p.s else []) (ofTypes (p.k % 21) p.t) [], (ofList (ofN f) (p.a % 4) l).2) := rfl
    by_cases hc : p.k % 21 = 14
    · rw [e, if_pos hc]; simp only [Ex.size, Ex.tsize, Ex.sizes, Ex.tsizes, Ty.sizes, List.length_cons]; omega
    · rw [e, if_neg hc]; simp only [Ex.size, Ex.tsize, Mm.sizes, Mm.tsizes, List.length_cons]; omega

end Go.Proofs.Ythgbldkcgfggfaa

/-
  Layer 6: graphs as they lie in memory. 'NdV w S x v': the value v reads as the node x in the world w, all memory that it leads to lies in blocks of S. Numbers of nodes are as they came: any integers.
-/
import Derived.Test.YtnhdgndjpkdhdaaApp
import Derived.Test.YtnhdgndjpkdhdaaGTurn
namespace Go.Proofs.Ytnhdgndjpkdhdaa
open Go.RowKit

/-- A node as it came. -/
structure RNd where
  kind : Int
  name : ByteArray
  args : List Int
  labels : List ByteArray
  op : Bool
structure RGr where
  nodes : List RNd
  root : Int
def RNd.nd (x : RNd) : G.Nd := ⟨x.kind, x.name, x.args.map Int.toNat, x.labels, x.op⟩
def RGr.gr (g : RGr) : G.Gr := ⟨g.nodes.map RNd.nd, g.root.toNat⟩

/-- Numbers in a row. -/
def IntsO (w : World) (S : Nat → Prop) : List Int → Option Addr → Prop
  | [], _ => True
  | n :: r, A => ∃ b o, A = some ⟨b, o, none⟩ ∧ S b ∧ w.cell? ⟨b, o, none⟩ = some (.int .i64 n) ∧ IntsO w S r (some ⟨b, o + 1, none⟩)
def NdV (w : World) (S : Nat → Prop) (x : RNd) (v : Value) : Prop :=
  ∃ aA cA aL cL, v = .agg #[.int .i64 x.kind, .string x.name, .slice aA x.args.length cA, .slice aL x.labels.length cL, .bool x.op] ∧ x.name.size ≤ maxLen ∧
    x.args.length ≤ cA ∧ cA ≤ maxLen ∧ x.labels.length ≤ cL ∧ cL ≤ maxLen ∧ IntsO w S x.args aA ∧ StrsO w S x.labels aL
def NdP (w : World) (S : Nat → Prop) (b o : Nat) (x : RNd) : Prop := S b ∧ ∃ v, CellsAt w b o v ∧ NdV w S x v
def NdsO (w : World) (S : Nat → Prop) : List RNd → Option Addr → Prop
  | [], _ => True
  | x :: r, A => ∃ b o, A = some ⟨b, o, none⟩ ∧ NdP w S b o x ∧ NdsO w S r (some ⟨b, o + 5, none⟩)
def GrV (w : World) (S : Nat → Prop) (g : RGr) (v : Value) : Prop :=
  ∃ A c, v = .agg #[.slice A g.nodes.length c, .int .i64 g.root] ∧ g.nodes.length ≤ c ∧ c ≤ maxLen ∧ NdsO w S g.nodes A

section
variable {w w' : World} {S S' : Nat → Prop}
theorem IntsO.keep (hS : ∀ k, S k → S' k ∧ w'.heap[k]? = w.heap[k]?) : ∀ (l : List Int) (A : Option Addr), IntsO w S l A → IntsO w' S' l A
  | [], _, _ => trivial
  | _ :: r, _, ⟨b, o, hA, hb, hc, hr⟩ => ⟨b, o, hA, (hS b hb).1, (World.cell?_of_block (a := ⟨b, o, none⟩) (hS b hb).2).trans hc, IntsO.keep hS r _ hr⟩
theorem NdV.keep (hS : ∀ k, S k → S' k ∧ w'.heap[k]? = w.heap[k]?) {x : RNd} {v : Value} (h : NdV w S x v) : NdV w' S' x v := by
  obtain ⟨aA, cA, aL, cL, hv, h1, h2, h3, h4, h5, h6, h7⟩ := h
  exact ⟨aA, cA, aL, cL, hv, h1, h2, h3, h4, h5, IntsO.keep hS _ _ h6, StrsO.keep hS _ _ h7⟩
theorem NdP.keep (hS : ∀ k, S k → S' k ∧ w'.heap[k]? = w.heap[k]?) {b o : Nat} {x : RNd} (h : NdP w S b o x) : NdP w' S' b o x := by
  obtain ⟨hb, v, hc, hv⟩ := h
  exact ⟨(hS b hb).1, v, hc.keep (hS b hb).2, hv.keep hS⟩
theorem NdsO.keep (hS : ∀ k, S k → S' k ∧ w'.heap[k]? = w.heap[k]?) : ∀ (l : List RNd) (A : Option Addr), NdsO w S l A → NdsO w' S' l A
  | [], _, _ => trivial
  | _ :: r, _, ⟨b, o, hA, hp, hr⟩ => ⟨b, o, hA, hp.keep hS, NdsO.keep hS r _ hr⟩
theorem GrV.keep (hS : ∀ k, S k → S' k ∧ w'.heap[k]? = w.heap[k]?) {g : RGr} {v : Value} (h : GrV w S g v) : GrV w' S' g v := by
  obtain ⟨A, c, hv, h1, h2, h3⟩ := h
  exact ⟨A, c, hv, h1, h2, NdsO.keep hS _ _ h3⟩
theorem IntsO.get : ∀ (l : List Int) (A : Option Addr), IntsO w S l A → ∀ i (hi : i < l.length), ∃ b o, A = some ⟨b, o, none⟩ ∧ S b ∧ w.cell? ⟨b, o + i, none⟩ = some (.int .i64 l[i])
  | t :: r, A, h, i, hi => by
    obtain ⟨b, o, hA, hb, hc, hr⟩ := h
    refine ⟨b, o, hA, hb, ?_⟩
    cases i with
    | zero => simpa using hc
    | succ j =>
      obtain ⟨b', o', e, _, hp⟩ := IntsO.get r _ hr j (by simpa using hi)
      simp only [Option.some.injEq, Addr.mk.injEq, and_true] at e
      obtain ⟨rfl, rfl⟩ := e
      have : o + 1 + j = o + (j + 1) := by omega
      rw [this] at hp
      exact hp
theorem NdsO.get : ∀ (l : List RNd) (A : Option Addr), NdsO w S l A → ∀ i (hi : i < l.length), ∃ b o, A = some ⟨b, o, none⟩ ∧ NdP w S b (o + i * 5) l[i]
  | t :: r, A, h, i, hi => by
    obtain ⟨b, o, hA, hp, hr⟩ := h
    refine ⟨b, o, hA, ?_⟩
    cases i with
    | zero => simpa using hp
    | succ j =>
      obtain ⟨b', o', e, hp'⟩ := NdsO.get r _ hr j (by simpa using hi)
      simp only [Option.some.injEq, Addr.mk.injEq, and_true] at e
      obtain ⟨rfl, rfl⟩ := e
      have : o + 5 + j * 5 = o + (j + 1) * 5 := by omega
      rw [this] at hp'
      exact hp'
theorem NdP.val {b o : Nat} {x : RNd} (h : NdP w S b o x) : ∃ aA cA aL cL, w.cell? ⟨b, o, none⟩ = some (.int .i64 x.kind) ∧ w.cell? ⟨b, o + 1, none⟩ = some (.string x.name) ∧
    w.cell? ⟨b, o + 2, none⟩ = some (.slice aA x.args.length cA) ∧ w.cell? ⟨b, o + 3, none⟩ = some (.slice aL x.labels.length cL) ∧ w.cell? ⟨b, o + 4, none⟩ = some (.bool x.op) ∧
    x.name.size ≤ maxLen ∧ x.args.length ≤ cA ∧ cA ≤ maxLen ∧ x.labels.length ≤ cL ∧ cL ≤ maxLen ∧ IntsO w S x.args aA ∧ StrsO w S x.labels aL ∧ S b := by
  obtain ⟨hb, v, hc, aA, cA, aL, cL, rfl, rest⟩ := h
  exact ⟨aA, cA, aL, cL, hc 0 _ rfl, hc 1 _ rfl, hc 2 _ rfl, hc 3 _ rfl, hc 4 _ rfl, rest.1, rest.2.1, rest.2.2.1, rest.2.2.2.1, rest.2.2.2.2.1, rest.2.2.2.2.2.1, rest.2.2.2.2.2.2, hb⟩
end

/-- A graph's numbers are within its nodes. -/
def RNd.within (N : Nat) (x : RNd) : Bool := x.args.all fun a => decide (0 ≤ a) && decide (a < N)
theorem RGr.fit {g : RGr} (hr : 0 ≤ g.root ∧ g.root < g.nodes.length) (h : g.nodes.all (RNd.within g.nodes.length) = true) : g.gr.Fit := by
  refine ⟨by simp only [RGr.gr, List.length_map]; omega, fun a ha y hy => ?_⟩
  simp only [RGr.gr, List.length_map] at ha ⊢
  have e : g.gr.f a = (g.nodes[a]).nd := by
    show List.getD (g.nodes.map RNd.nd) a _ = _
    rw [List.getD_eq_getElem?_getD, List.getElem?_map, List.getElem?_eq_getElem ha]
    rfl
  rw [e] at hy
  simp only [RNd.nd, List.mem_map] at hy
  obtain ⟨z, hz, rfl⟩ := hy
  have h1 := List.all_eq_true.1 h _ (List.getElem_mem ha)
  have h2 := List.all_eq_true.1 h1 z hz
  simp only [Bool.and_eq_true, decide_eq_true_eq] at h2
  omega

end Go.Proofs.Ytnhdgndjpkdhdaa

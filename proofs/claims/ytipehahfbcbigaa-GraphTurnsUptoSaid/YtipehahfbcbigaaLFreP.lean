/-
  Graphs with one or two variables more, and a pair of them: plain facts for the laws.
-/
import Derived.Test.YtipehahfbcbigaaLTrimP
import Derived.Test.YtipehahfbcbigaaGFree
import Derived.Test.YtipehahfbcbigaaRows
namespace Go.Proofs.Ytipehahfbcbigaa
open Go.RowKit

def varR : RNd := ⟨1, ⟨#[]⟩, [], [], false⟩
def pairR (a b : Int) : RNd := ⟨2, ⟨#[42]⟩, [a, b], [], false⟩
def RGr.one (g : RGr) : RGr := ⟨g.nodes ++ [varR, pairR g.nodes.length g.nodes.length], (g.nodes.length : Int) + 1⟩
def RGr.two (g : RGr) : RGr := ⟨g.nodes ++ [varR, varR, pairR g.nodes.length ((g.nodes.length : Int) + 1)], (g.nodes.length : Int) + 2⟩
theorem RNd.ok_more {N M : Nat} {x : RNd} (h : x.ok N = true) (hNM : N ≤ M) : x.ok M = true := by
  simp only [RNd.ok, RNd.within, Bool.and_eq_true, List.all_eq_true, decide_eq_true_eq] at h ⊢
  exact ⟨fun a ha => ⟨(h.1 a ha).1, by have := (h.1 a ha).2; omega⟩, h.2⟩
theorem varR_ok (N : Nat) : varR.ok N = true := rfl
theorem pairR_ok {N : Nat} {a b : Int} (ha : 0 ≤ a ∧ a < N) (hb : 0 ≤ b ∧ b < N) : (pairR a b).ok N = true := by
  have h1 : (pairR a b).own = true := by
    unfold RNd.own pairR
    rw [if_neg (by simp), if_pos rfl]
    have h2 : argsOfB (ByteArray.toList ⟨#[42]⟩) = some 2 := by decide +kernel
    simp only [h2]
    rfl
  simp only [RNd.ok, RNd.within, Bool.and_eq_true, List.all_eq_true, decide_eq_true_eq]
  refine ⟨fun z hz => ?_, h1⟩
  simp only [pairR, List.mem_cons, List.not_mem_nil, or_false] at hz
  rcases hz with rfl | rfl
  · exact ha
  · exact hb
theorem RGr.ok_mk {g : RGr} (h0 : g.nodes.length ≤ 1048576) (h1 : 0 ≤ g.root) (h2 : g.root < g.nodes.length) (h3 : ∀ x, x ∈ g.nodes → x.ok g.nodes.length = true) : g.ok = true := by
  simp only [RGr.ok, Bool.and_eq_true, decide_eq_true_eq, List.all_eq_true]
  exact ⟨h0, ⟨h1, h2⟩, h3⟩
theorem RGr.one_ok {g : RGr} (h : g.ok = true) (hn : g.nodes.length + 3 ≤ 1048576) : g.one.ok = true := by
  obtain ⟨_, _, _, h3⟩ := RGr.ok_parts h
  have hl : g.one.nodes.length = g.nodes.length + 2 := by simp [RGr.one]
  refine RGr.ok_mk (by omega) (by simp only [RGr.one]; omega) (by rw [hl]; simp only [RGr.one]; omega) ?_
  rw [hl]
  intro x hx
  rcases List.mem_append.1 hx with h | h
  · exact RNd.ok_more (h3 x h) (by omega)
  · simp only [List.mem_cons, List.not_mem_nil, or_false] at h
    rcases h with rfl | rfl
    · exact varR_ok _
    · exact pairR_ok (by omega) (by omega)
theorem RGr.two_ok {g : RGr} (h : g.ok = true) (hn : g.nodes.length + 3 ≤ 1048576) : g.two.ok = true := by
  obtain ⟨_, _, _, h3⟩ := RGr.ok_parts h
  have hl : g.two.nodes.length = g.nodes.length + 3 := by simp [RGr.two]
  refine RGr.ok_mk (by omega) (by simp only [RGr.two]; omega) (by rw [hl]; simp only [RGr.two]; omega) ?_
  rw [hl]
  intro x hx
  rcases List.mem_append.1 hx with h | h
  · exact RNd.ok_more (h3 x h) (by omega)
  · simp only [List.mem_cons, List.not_mem_nil, or_false] at h
    rcases h with rfl | rfl | rfl
    · exact varR_ok _
    · exact varR_ok _
    · exact pairR_ok (by omega) (by omega)
theorem RGr.one_gr (g : RGr) : g.one.gr = g.gr.one := by
  have h2 : ((g.nodes.length : Int) + 1).toNat = g.nodes.length + 1 := by omega
  simp [RGr.gr, RGr.one, G.Gr.one, RNd.nd, varR, pairR, G.varNd, G.pairNd, h2]
theorem RGr.two_gr (g : RGr) : g.two.gr = g.gr.two := by
  have h1 : ((g.nodes.length : Int) + 1).toNat = g.nodes.length + 1 := by omega
  have h2 : ((g.nodes.length : Int) + 2).toNat = g.nodes.length + 2 := by omega
  simp [RGr.gr, RGr.two, G.Gr.two, RNd.nd, varR, pairR, G.varNd, G.pairNd, h1, h2]
theorem RGr.one_two (g : RGr) : ¬ G.Same g.one.gr.f g.one.root.toNat g.two.gr.f g.two.root.toNat := by
  have h1 : g.one.root.toNat = g.one.gr.root := rfl
  have h2 : g.two.root.toNat = g.two.gr.root := rfl
  rw [h1, h2, g.one_gr, g.two_gr]
  exact g.gr.one_two
theorem app_fr (l r : List RNd) (n : Int) (a k : Nat) (ha : a = l.length + k) (x : RNd) (hx : r[k]? = some x) : (RGr.mk (l ++ r) n).fr a = x.free := by
  subst ha
  unfold RGr.fr
  rw [List.getD_eq_getElem?_getD, List.getElem?_append_right (by omega)]
  simp [hx]
theorem RGr.one_free {g : RGr} (h : g.ok = true) (hn : g.nodes.length + 3 ≤ 1048576) : (g.one.reachU.filter g.one.fr).length = 1 := by
  have h0 : g.gr.nodes.length = g.nodes.length := by simp [RGr.gr]
  have h1 : g.one.reachU = [g.nodes.length + 1, g.nodes.length] := by
    unfold RGr.reachU
    rw [if_pos (RGr.one_ok h hn)]
    unfold RGr.reach
    rw [g.one_gr, g.gr.one_reach, h0]
  have f0 : g.one.fr g.nodes.length = true := app_fr _ _ _ _ 0 rfl varR rfl
  have f1 : g.one.fr (g.nodes.length + 1) = false := app_fr _ _ _ _ 1 rfl (pairR g.nodes.length g.nodes.length) rfl
  rw [h1, List.filter_cons, f1, List.filter_cons, f0]
  rfl
theorem RGr.two_free {g : RGr} (h : g.ok = true) (hn : g.nodes.length + 3 ≤ 1048576) : (g.two.reachU.filter g.two.fr).length = 2 := by
  have h0 : g.gr.nodes.length = g.nodes.length := by simp [RGr.gr]
  have h1 : g.two.reachU = [g.nodes.length + 2, g.nodes.length, g.nodes.length + 1] := by
    unfold RGr.reachU
    rw [if_pos (RGr.two_ok h hn)]
    unfold RGr.reach
    rw [g.two_gr, g.gr.two_reach, h0]
  have f0 : g.two.fr g.nodes.length = true := app_fr _ _ _ _ 0 rfl varR rfl
  have f1 : g.two.fr (g.nodes.length + 1) = true := app_fr _ _ _ _ 1 rfl varR rfl
  have f2 : g.two.fr (g.nodes.length + 2) = false := app_fr _ _ _ _ 2 rfl (pairR g.nodes.length ((g.nodes.length : Int) + 1)) rfl
  rw [h1, List.filter_cons, f2, List.filter_cons, f0, List.filter_cons, f1]
  rfl

/-- What a bound on values and letters says of a list's length. -/
theorem bulk_pos {H : Type} (d : DataW H) : 1 ≤ Rows.uptoBulk d := by
  cases d with
  | lit l => cases l <;> simp [Rows.uptoBulk]
  | _ => simp [Rows.uptoBulk]
theorem bulk_len {H : Type} : ∀ l : List (DataW H), l.length ≤ Rows.uptoBulkAll l
  | [] => Nat.zero_le _
  | d :: r => by
    have h1 := bulk_pos d
    have h2 := bulk_len r
    simp only [List.length_cons, Rows.uptoBulkAll]
    omega
theorem bulk_graph {H : Type} {n : Nat} {dn dr : DataW H} {ds : List (DataW H)} (h : n = 0 ∨ ∃ elems sp, dn = .slice elems sp ∧ elems.length = n) (hk : Rows.uptoSmall H (.agg [dn, dr] :: ds) = true) : n + 3 ≤ 1048576 := by
  have h1 := of_decide_eq_true hk
  have h2 := bulk_pos dr
  rcases h with rfl | ⟨elems, sp, rfl, rfl⟩
  · decide
  · have h3 := bulk_len elems
    simp only [Rows.uptoBulkAll, Rows.uptoBulk] at h1
    omega
end Go.Proofs.Ytipehahfbcbigaa

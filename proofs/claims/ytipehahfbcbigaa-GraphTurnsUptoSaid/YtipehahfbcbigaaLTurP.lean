/-
  A graph that is turned, and one of whose nodes stands twice: plain facts for the laws.
-/
import Derived.Test.YtipehahfbcbigaaLFreP
namespace Go.Proofs.Ytipehahfbcbigaa
open Go.RowKit

theorem RNd.own_args {x : RNd} {l : List Int} (h : l.length = x.args.length) : RNd.own { x with args := l } = x.own := by
  have h0 : (l = []) ↔ (x.args = []) := by rw [← List.length_eq_zero_iff, h, List.length_eq_zero_iff]
  unfold RNd.own
  simp only [h, h0]
theorem RNd.ok_args {N M : Nat} {x : RNd} {l : List Int} (hx : x.ok N = true) (h : l.length = x.args.length) (hl : ∀ z, z ∈ l → 0 ≤ z ∧ z < M) : RNd.ok M { x with args := l } = true := by
  simp only [RNd.ok, RNd.within, Bool.and_eq_true, List.all_eq_true, decide_eq_true_eq] at hx ⊢
  exact ⟨hl, by rw [RNd.own_args h]; exact hx.2⟩

def RNd.turn (n b : Nat) (x : RNd) : RNd := { x with args := x.args.map fun z => (((z.toNat + b) % n : Nat) : Int) }
def RGr.turn (g : RGr) (b : Nat) : RGr := ⟨(List.range g.nodes.length).map fun j => (g.nd (G.unrot g.nodes.length b j)).turn g.nodes.length b, (((g.root.toNat + b) % g.nodes.length : Nat) : Int)⟩
theorem RGr.turn_len (g : RGr) (b : Nat) : (g.turn b).nodes.length = g.nodes.length := by simp [RGr.turn]
theorem RNd.turn_nd (n b : Nat) (x : RNd) : (x.turn n b).nd = G.turnNd n b x.nd := by
  simp only [RNd.turn, RNd.nd, G.turnNd, List.map_map, G.Nd.mk.injEq, true_and, and_true]
  apply List.map_congr_left
  intro z _
  show (((z.toNat + b) % n : Nat) : Int).toNat = (z.toNat + b) % n
  exact Int.toNat_natCast _
theorem RGr.turn_gr (g : RGr) (b : Nat) : (g.turn b).gr = g.gr.turn b := by
  have hl : g.gr.nodes.length = g.nodes.length := by simp [RGr.gr]
  unfold G.Gr.turn
  rw [hl]
  unfold RGr.turn
  simp only [gr_nd]
  unfold RGr.gr
  simp only [List.map_map, Function.comp_def, RNd.turn_nd, Int.toNat_natCast]
theorem RGr.turn_ok {g : RGr} (h : g.ok = true) (b : Nat) : (g.turn b).ok = true := by
  obtain ⟨h0, h1, h2, h3⟩ := RGr.ok_parts h
  have hn : 0 < g.nodes.length := by omega
  refine RGr.ok_mk (by rw [RGr.turn_len]; exact h0) (by simp only [RGr.turn]; omega) ?_ ?_
  · rw [RGr.turn_len]
    have := Nat.mod_lt (g.root.toNat + b) hn
    simp only [RGr.turn]
    omega
  · rw [RGr.turn_len]
    intro x hx
    obtain ⟨j, hj, rfl⟩ := List.mem_map.1 hx
    have hu := G.unrot_lt (b := b) (List.mem_range.1 hj)
    refine RNd.ok_args (h3 _ (by rw [g.nd_eq _ hu]; exact List.getElem_mem hu)) (by simp) ?_
    intro z hz
    obtain ⟨y, _, rfl⟩ := List.mem_map.1 hz
    have := Nat.mod_lt (y.toNat + b) hn
    omega
theorem RGr.turn_same {g : RGr} (h : g.ok = true) (b : Nat) : G.Same g.gr.f g.root.toNat (g.turn b).gr.f (g.turn b).root.toNat := by
  have e : (g.turn b).root.toNat = (g.gr.turn b).root := by rw [← RGr.turn_gr]; rfl
  rw [e, RGr.turn_gr]
  exact (RGr.ok_fit h).turn_same b
/-- The turned nodes under way: those that stood among the first i are laid. -/
def RGr.fillT (g : RGr) (b i : Nat) : List RNd := (List.range g.nodes.length).map fun j => if G.unrot g.nodes.length b j < i then (g.nd (G.unrot g.nodes.length b j)).turn g.nodes.length b else zeroN
theorem RGr.fillT_len (g : RGr) (b i : Nat) : (g.fillT b i).length = g.nodes.length := by simp [RGr.fillT]
theorem RGr.fillT_zero (g : RGr) (b : Nat) : g.fillT b 0 = List.replicate g.nodes.length zeroN := by
  unfold RGr.fillT
  apply List.ext_getElem
  · simp
  · intro j h1 h2
    simp
theorem RGr.fillT_all (g : RGr) (b : Nat) : g.fillT b g.nodes.length = (g.turn b).nodes := by
  unfold RGr.fillT RGr.turn
  apply List.map_congr_left
  intro j hj
  rw [if_pos (G.unrot_lt (List.mem_range.1 hj))]
theorem RGr.fillT_set (g : RGr) (b i : Nat) (hi : i < g.nodes.length) : (g.fillT b i).set ((i + b) % g.nodes.length) ((g.nd i).turn g.nodes.length b) = g.fillT b (i + 1) := by
  unfold RGr.fillT
  apply List.ext_getElem
  · simp
  · intro j h1 h2
    simp only [List.length_set, List.length_map, List.length_range] at h1
    rw [List.getElem_set]
    simp only [List.getElem_map, List.getElem_range]
    by_cases e : (i + b) % g.nodes.length = j
    · subst e
      rw [if_pos rfl, G.unrot_rot hi, if_pos (by omega)]
    · rw [if_neg e]
      have hne : G.unrot g.nodes.length b j ≠ i := fun h => e (by rw [← h]; exact G.rot_unrot h1)
      by_cases hlt : G.unrot g.nodes.length b j < i
      · rw [if_pos hlt, if_pos (by omega)]
      · rw [if_neg hlt, if_neg (by omega)]

def redirI (k n : Nat) : List Int → List Int
  | [] => []
  | a :: r => (if a = (k : Int) then (n : Int) else a) :: r
def RNd.redir (k n : Nat) (x : RNd) : RNd := { x with args := redirI k n x.args }
theorem redirI_len (k n : Nat) (l : List Int) : (redirI k n l).length = l.length := by cases l <;> rfl
theorem redirI_nat (k n : Nat) (l : List Int) (hl : ∀ z, z ∈ l → 0 ≤ z) : (redirI k n l).map Int.toNat = G.redir k n (l.map Int.toNat) := by
  cases l with
  | nil => rfl
  | cons a r =>
    have h0 := hl a (List.mem_cons_self ..)
    simp only [redirI, List.map_cons, G.redir]
    by_cases e : a = (k : Int)
    · rw [if_pos e, if_pos (by omega)]; rfl
    · rw [if_neg e, if_neg (by omega)]
theorem redirI_mem {k n : Nat} {l : List Int} {z : Int} (h : z ∈ redirI k n l) : z ∈ l ∨ z = (n : Int) := by
  cases l with
  | nil => cases h
  | cons a r =>
    simp only [redirI, List.mem_cons] at h
    rcases h with h | h
    · by_cases e : a = (k : Int)
      · rw [if_pos e] at h; exact .inr h
      · rw [if_neg e] at h; exact .inl (by rw [h]; exact List.mem_cons_self ..)
    · exact .inl (List.mem_cons_of_mem _ h)
def RGr.more (h : RGr) (k : Nat) : List RNd := h.nodes ++ [h.nd k]
def RGr.twice (h : RGr) (k : Nat) : RGr := ⟨(h.more k).map (RNd.redir k h.nodes.length), h.root⟩
theorem RGr.more_len (h : RGr) (k : Nat) : (h.more k).length = h.nodes.length + 1 := by simp [RGr.more]
theorem RGr.more_ok {h : RGr} {k : Nat} (hok : h.ok = true) (hk : k < h.nodes.length) : ∀ x, x ∈ h.more k → x.ok h.nodes.length = true := by
  obtain ⟨_, _, _, h3⟩ := RGr.ok_parts hok
  intro x hx
  rcases List.mem_append.1 hx with e | e
  · exact h3 x e
  · simp only [List.mem_cons, List.not_mem_nil, or_false] at e
    rw [e, h.nd_eq _ hk]
    exact h3 _ (List.getElem_mem hk)
theorem RGr.twice_ok {h : RGr} {k : Nat} (hok : h.ok = true) (hk : k < h.nodes.length) (hn : h.nodes.length + 1 ≤ 1048576) : (h.twice k).ok = true := by
  obtain ⟨_, h1, h2, _⟩ := RGr.ok_parts hok
  have hl : (h.twice k).nodes.length = h.nodes.length + 1 := by simp [RGr.twice, RGr.more_len]
  refine RGr.ok_mk (by omega) h1 (by rw [hl]; simp only [RGr.twice]; omega) ?_
  rw [hl]
  intro x hx
  obtain ⟨y, hy, rfl⟩ := List.mem_map.1 hx
  have hyok := RGr.more_ok hok hk y hy
  refine RNd.ok_args hyok (redirI_len ..) ?_
  intro z hz
  rcases redirI_mem hz with e | e
  · have := RNd.within_args hyok z e
    omega
  · omega
theorem RGr.twice_gr {h : RGr} {k : Nat} (hok : h.ok = true) (hk : k < h.nodes.length) : (h.twice k).gr = h.gr.twice k := by
  have hl : h.gr.nodes.length = h.nodes.length := by simp [RGr.gr]
  have e : ∀ x, x ∈ h.more k → (x.redir k h.nodes.length).nd = G.twiceNd k h.nodes.length x.nd := by
    intro x hx
    have hxok := RGr.more_ok hok hk x hx
    unfold RNd.redir RNd.nd G.twiceNd
    simp only []
    rw [redirI_nat _ _ _ (fun z hz => (RNd.within_args hxok z hz).1)]
  unfold G.Gr.twice
  rw [hl, gr_nd h k]
  unfold RGr.twice RGr.gr
  simp only [List.map_map]
  have e2 : (h.more k).map (RNd.nd ∘ RNd.redir k h.nodes.length) = (h.more k).map (G.twiceNd k h.nodes.length ∘ RNd.nd) := by
    apply List.map_congr_left
    intro x hx
    exact e x hx
  rw [e2, ← List.map_map]
  unfold RGr.more
  simp
theorem RGr.twice_same {g : RGr} {b k : Nat} (hok : g.ok = true) (hk : k < g.nodes.length) (hf : ((g.turn b).nd k).free = false) : G.Same g.gr.f g.root.toNat ((g.turn b).twice k).gr.f ((g.turn b).twice k).root.toNat := by
  have hk' : k < (g.turn b).nodes.length := by rw [RGr.turn_len]; exact hk
  have e1 := RGr.twice_gr (RGr.turn_ok hok b) hk'
  have e : ((g.turn b).twice k).root.toNat = ((g.turn b).gr.twice k).root := by rw [← e1]; rfl
  rw [e, e1, RGr.turn_gr]
  refine (RGr.ok_fit hok).twice_same b k ?_
  rw [← RGr.turn_gr, gr_nd]
  intro h
  simp only [RNd.free, Bool.or_eq_false_iff, Bool.and_eq_false_iff, decide_eq_false_iff_not] at hf
  rcases h with h | ⟨h, h'⟩
  · exact hf.1 h
  · rcases hf.2 with e2 | e2
    · exact e2 h
    · have h2 : ((g.turn b).nd k).op = true := h'
      rw [h2] at e2; cases e2
/-- The redirected nodes under way: the first i are done. -/
def RGr.fillR (h : RGr) (k i : Nat) : List RNd := (h.more k).mapIdx fun j x => if j < i then x.redir k h.nodes.length else x
theorem RGr.fillR_len (h : RGr) (k i : Nat) : (h.fillR k i).length = h.nodes.length + 1 := by simp [RGr.fillR, RGr.more_len]
theorem RGr.fillR_zero (h : RGr) (k : Nat) : h.fillR k 0 = h.more k := by
  unfold RGr.fillR
  apply List.ext_getElem
  · simp
  · intro j h1 h2
    simp
theorem RGr.fillR_all (h : RGr) (k : Nat) : h.fillR k (h.nodes.length + 1) = (h.twice k).nodes := by
  unfold RGr.fillR RGr.twice
  apply List.ext_getElem
  · simp
  · intro j h1 h2
    simp only [List.length_mapIdx, RGr.more_len] at h1
    simp only [List.getElem_mapIdx, List.getElem_map]
    rw [if_pos h1]
theorem RGr.fillR_set (h : RGr) (k i : Nat) (hi : i < h.nodes.length + 1) : (h.fillR k i).set i (((h.more k)[i]'(by rw [RGr.more_len]; exact hi)).redir k h.nodes.length) = h.fillR k (i + 1) := by
  unfold RGr.fillR
  apply List.ext_getElem
  · simp
  · intro j h1 h2
    rw [List.getElem_set]
    simp only [List.getElem_mapIdx]
    by_cases e : i = j
    · subst e
      rw [if_pos rfl, if_pos (by omega)]
    · rw [if_neg e]
      by_cases hlt : j < i
      · rw [if_pos hlt, if_pos (by omega)]
      · rw [if_neg hlt, if_neg (by omega)]
theorem RGr.fillR_get (h : RGr) (k i : Nat) (hi : i < h.nodes.length + 1) : (h.fillR k i)[i]'(by rw [RGr.fillR_len]; exact hi) = (h.more k)[i]'(by rw [RGr.more_len]; exact hi) := by
  unfold RGr.fillR
  simp
theorem redirI_set {k n : Nat} {l : List Int} (h0 : 0 < l.length) (h : l[0] = (k : Int)) : l.set 0 (n : Int) = redirI k n l := by
  cases l with
  | nil => simp at h0
  | cons a r =>
    have e : a = (k : Int) := h
    simp only [List.set_cons_zero, redirI]
    rw [if_pos e]
theorem redirI_not {k n : Nat} {l : List Int} (h0 : 0 < l.length) (h : ¬ l[0] = (k : Int)) : redirI k n l = l := by
  cases l with
  | nil => simp at h0
  | cons a r =>
    have e : ¬ a = (k : Int) := h
    simp only [redirI]
    rw [if_neg e]
theorem RGr.more_args {g : RGr} {b k : Nat} (hF : g.fits) (hk : k < g.nodes.length) : ∀ x, x ∈ (g.turn b).more k → x.args.length * 8 ≤ 140737488355328 := by
  have h1 : ∀ j, j < g.nodes.length → ((g.turn b).nd j).args.length * 8 ≤ 140737488355328 := fun j hj => by
    rw [RGr.nd_eq _ _ (by rw [RGr.turn_len]; exact hj)]
    have hu := G.unrot_lt (b := b) hj
    have := (hF (g.nodes[G.unrot g.nodes.length b j]) (List.getElem_mem hu)).1
    simp only [RGr.turn, RNd.turn, List.getElem_map, List.getElem_range, List.length_map]
    rw [g.nd_eq _ hu]
    exact this
  intro x hx
  rcases List.mem_append.1 hx with e | e
  · obtain ⟨j, hj, rfl⟩ := List.getElem_of_mem e
    have := h1 j (by rw [RGr.turn_len] at hj; exact hj)
    rwa [RGr.nd_eq _ _ hj] at this
  · simp only [List.mem_cons, List.not_mem_nil, or_false] at e
    rw [e]
    exact h1 k hk
end Go.Proofs.Ytipehahfbcbigaa

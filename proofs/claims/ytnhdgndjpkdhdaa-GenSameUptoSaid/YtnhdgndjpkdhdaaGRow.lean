/-
  A row of the call's own, of any sort of items, that append makes grow (made of Row); rows of numbers.
-/
import Derived.Test.YtnhdgndjpkdhdaaGMem
namespace Go.Proofs.Ytnhdgndjpkdhdaa
open Go.RowKit

/-- A sort of items: what it is for a value to be an item in a world, all memory that it leads to being in blocks of a set; and how many cells it has. -/
structure Srt (α : Type) where
  V : World → (Nat → Prop) → α → Value → Prop
  size : Nat
  pos : 0 < size
  keep : ∀ (w w' : World) (S S' : Nat → Prop), (∀ k, S k → S' k ∧ w'.heap[k]? = w.heap[k]?) → ∀ a v, V w S a v → V w' S' a v
  cells : ∀ (w : World) (S : Nat → Prop) a v, V w S a v → v.cells.toList.length = size
  flat : ∀ (w : World) (S : Nat → Prop) a v, V w S a v → ∀ u, u ∈ v.cells.toList → u.oneCell' = true

def srtI : Srt Int where
  V := fun _ _ n v => v = .int .i64 n
  size := 1
  pos := by decide
  keep := fun _ _ _ _ _ _ _ hv => hv
  cells := fun w S a v h => by rw [h]; rfl
  flat := fun w S a v h u hu => by
    rw [h] at hu
    simp [Value.cells] at hu
    subst hu
    rfl

section
variable {α : Type} (T : Srt α)

/-- Items in a row, cell by cell. -/
def Items (w : World) (S : Nat → Prop) : List α → List Value → Prop
  | [], xs => xs = []
  | a :: r, xs => ∃ v ys, xs = v.cells.toList ++ ys ∧ T.V w S a v ∧ Items w S r ys

theorem Items.keep {w w' : World} {S S' : Nat → Prop} (hS : ∀ k, S k → S' k ∧ w'.heap[k]? = w.heap[k]?) : ∀ (l : List α) (xs : List Value), Items T w S l xs → Items T w' S' l xs
  | [], _, h => h
  | _ :: r, _, ⟨v, ys, h1, h2, h3⟩ => ⟨v, ys, h1, T.keep _ _ _ _ hS _ _ h2, Items.keep hS r ys h3⟩
theorem Items.append {w : World} {S : Nat → Prop} : ∀ (l m : List α) (xs ys : List Value), Items T w S l xs → Items T w S m ys → Items T w S (l ++ m) (xs ++ ys)
  | [], _, _, _, h, k => by unfold Items at h; subst h; exact k
  | _ :: r, m, _, ys, ⟨v, zs, h1, h2, h3⟩, k => ⟨v, zs ++ ys, by rw [h1, List.append_assoc], h2, Items.append r m zs ys h3 k⟩
theorem Items.one {w : World} {S : Nat → Prop} {a : α} {v : Value} (h : T.V w S a v) : Items T w S [a] v.cells.toList := ⟨v, [], by simp, h, rfl⟩
theorem Items.length {w : World} {S : Nat → Prop} : ∀ (l : List α) (xs : List Value), Items T w S l xs → xs.length = l.length * T.size
  | [], _, h => by unfold Items at h; subst h; simp
  | _ :: r, _, ⟨v, ys, h1, h2, h3⟩ => by
    have e1 := T.cells _ _ _ _ h2
    have e2 := Items.length r ys h3
    rw [h1, List.length_append, e1, e2, List.length_cons, Nat.add_mul, Nat.one_mul, Nat.add_comm]
theorem Items.flat {w : World} {S : Nat → Prop} : ∀ (l : List α) (xs : List Value), Items T w S l xs → ∀ u, u ∈ xs → u.oneCell' = true
  | [], _, h, u, hu => by unfold Items at h; subst h; simp at hu
  | _ :: r, _, ⟨v, ys, h1, h2, h3⟩, u, hu => by
    subst h1
    rcases List.mem_append.1 hu with h | h
    · exact T.flat _ _ _ _ h2 u h
    · exact Items.flat r ys h3 u h

/-- A row of the call's own whose items are es; the memory that they lead to lies in blocks of S, of which the row's own is none. -/
structure RowG (t : TypeId) (base : Nat) (w : World) (S : Nat → Prop) (v : Value) (es : List α) : Prop where
  raw : ∃ xs, w.ownsRow base t T.size v es.length xs ∧ Items T w S es xs
  apart : ∀ k, S k → v.ownBlock ≠ some k
  old : ∀ k, S k → k < w.heap.size

variable {T} {t : TypeId} {base : Nat} {w w' : World} {S S' : Nat → Prop} {v : Value} {es ms : List α}
theorem RowG.nil (t : TypeId) (base : Nat) (w : World) : RowG T t base w (fun _ => False) (.slice none 0 0) [] :=
  ⟨⟨[], World.ownsRow_nil w base t T.size, rfl⟩, fun _ h => h.elim, fun _ h => h.elim⟩
theorem RowG.form (h : RowG T t base w S v es) : ∃ A cap, v = .slice A es.length cap ∧ es.length ≤ cap ∧ cap ≤ maxLen := by
  obtain ⟨xs, h1, _⟩ := h.raw
  exact own_form h1
theorem RowG.block (h : RowG T t base w S v es) {g : Nat} (hg : v.ownBlock = some g) : base ≤ g ∧ g < w.heap.size := by
  obtain ⟨xs, h1, _⟩ := h.raw
  exact h1.lt g hg
/-- Whatever leaves the row's block and the memory of its items as it is. -/
theorem RowG.keep (h : RowG T t base w S v es) {F : Nat → Prop} (hk : Keeps F w w') (hF : ∀ k, F k → k < w.heap.size → v.ownBlock ≠ some k ∧ ¬ S k) : RowG T t base w' S v es := by
  obtain ⟨xs, h1, h2⟩ := h.raw
  have hS : ∀ k, S k → S k ∧ w'.heap[k]? = w.heap[k]? := fun k hs => ⟨hs, hk.block k (h.old k hs) (fun hf => (hF k hf (h.old k hs)).2 hs)⟩
  refine ⟨⟨xs, hk.own h1 (fun k e hf => (hF k hf (h1.lt k e).2).1 e), Items.keep T hS _ _ h2⟩, h.apart, fun k hs => Nat.lt_of_lt_of_le (h.old k hs) hk.size⟩
theorem RowG.wide (h : RowG T t base w S v es) (hS : ∀ k, S k → S' k) (ho : ∀ k, S' k → k < w.heap.size ∧ v.ownBlock ≠ some k) : RowG T t base w S' v es := by
  obtain ⟨xs, h1, h2⟩ := h.raw
  exact ⟨⟨xs, h1, Items.keep T (fun k hs => ⟨hS k hs, rfl⟩) _ _ h2⟩, fun k hs => (ho k hs).2, fun k hs => (ho k hs).1⟩

/-- What append makes of it. -/
theorem RowG.grow {xs news : List Value} {v' : Value} (h : RowG T t base w S v es) (hn : Items T w S ms news) (h2 : Items T w S es xs)
    (ho : w'.ownsRow base t T.size v' (es.length + ms.length) (xs ++ news)) (hg : w.grownBy w' v.ownBlock) (hb : v'.ownBlock = v.ownBlock ∨ v'.ownBlock = some w.heap.size) : RowG T t base w' S v' (es ++ ms) := by
  have hS : ∀ k, S k → S k ∧ w'.heap[k]? = w.heap[k]? := fun k hs => ⟨hs, hg.block k (h.old k hs) (fun e => h.apart k hs e.symm)⟩
  refine ⟨⟨xs ++ news, by rw [List.length_append]; exact ho, Items.keep T hS _ _ (Items.append T _ _ _ _ h2 hn)⟩, fun k hs e => ?_, fun k hs => Nat.lt_of_lt_of_le (h.old k hs) hg.size⟩
  rcases hb with hb | hb
  · exact h.apart k hs (hb ▸ e)
  · rw [hb] at e
    injection e with e
    have := h.old k hs
    omega
theorem Keeps.of_grown {row : Option Nat} (hg : w.grownBy w' row) : Keeps (fun k => row = some k) w w' :=
  ⟨hg.os, hg.tape, hg.output, hg.size, fun k hk hn => hg.block k hk (fun e => hn e.symm)⟩

/-- append, as an operation of a walk: the row has the new items behind its own. -/
theorem wpList_grow {P : Program} {ops : Array Oper} {rest : List Oper} {o : Oper} {a : Act} {Q : Exit → Act → World → Prop} (hgd : o.guard = none) (s x : Operand) (ts e : TypeId)
    (ho : o.op = .call { callee := .builtin .append, args := #[s, x], argTypes := #[ts, ts] })
    (i : TypeInfo) (z : Value) (bytes : Nat) (ht : P.underlying ts = some (.slice e)) (hi : P.info? e = some i) (hz : i.zero = some z)
    (hsize : i.size = T.size) (hby : i.bytes = bytes) (hzs : z.cells.size = T.size)
    (hs : a.eval s = v) (h : RowG T e base w S v es)
    (ad : Addr) (c : Nat) (news : List Value) (hx : a.eval x = .slice (some ad) ms.length c) (hnews : ∀ j u, news[j]? = some u → w.cell? (ad.add j) = some u) (hit : Items T w S ms news)
    (h63 : es.length + ms.length ≤ 2000000) (hbt : bytes ≤ 1000) (hbase : base ≤ w.heap.size) (hm : 0 < ms.length)
    (hK : ∀ v' w', RowG T e base w' S v' (es ++ ms) → Keeps (fun k => v.ownBlock = some k) w w' → (v'.ownBlock = v.ownBlock ∨ v'.ownBlock = some w.heap.size) → wpList P ops Q rest (a.put o.dst v') w') : wpList P ops Q (o :: rest) a w := by
  obtain ⟨xs, h1, h2⟩ := h.raw
  refine wpList_append_at (P := P) w hgd s x ts ho base e i z T.size bytes ht hi hz hsize hby hzs T.pos v es.length xs hs h1 ad ms.length c news hx (Items.length T _ _ hit) hnews (Items.flat T _ _ hit) (by unfold maxLen; omega) (Nat.le_trans (Nat.mul_le_mul h63 hbt) (by decide)) hbase hm ?_
  intro v' w' ho hg hb
  exact hK v' w' (h.grow hit h2 ho hg hb) (Keeps.of_grown hg) hb

end

section
variable {α : Type} {T : Srt α} {t : TypeId} {base : Nat} {w : World} {S : Nat → Prop} {v : Value} {es : List α}
theorem RowG.shut (h : RowG T t base w S v es) : ∃ A cap, v = .slice A es.length cap ∧ es.length ≤ cap ∧ cap ≤ maxLen ∧ (es = [] ∨ ∃ g xs, A = some ⟨g, 0, none⟩ ∧ base ≤ g ∧ g < w.heap.size ∧ (∀ j u, xs[j]? = some u → w.cell? ⟨g, 0 + j, none⟩ = some u) ∧ Items T w S es xs) := by
  obtain ⟨xs, h1, h2⟩ := h.raw
  obtain ⟨A, cap, hv, hc, hm⟩ := own_form h1
  refine ⟨A, cap, hv, hc, hm, ?_⟩
  by_cases he : es = []
  · exact .inl he
  · obtain ⟨g, cap', hv', _⟩ := own_pos h1 (by cases es with | nil => exact absurd rfl he | cons => simp)
    rw [hv'] at hv
    simp only [Value.slice.injEq] at hv
    obtain ⟨rfl, _, _⟩ := hv
    subst hv'
    refine .inr ⟨g, xs, rfl, (h1.lt g rfl).1, (h1.lt g rfl).2, fun j u hu => ?_, h2⟩
    have := h1.cells (g := g) rfl j u hu
    unfold Addr.add at this
    split at this
    · rename_i hj
      have hj : j = 0 := by simpa using hj
      subst hj
      simpa using this
    · simpa using this
end
theorem intsO_of {w : World} {S : Nat → Prop} {b : Nat} (hb : S b) : ∀ (l : List Int) (xs : List Value) (o : Nat), Items srtI w S l xs → (∀ j u, xs[j]? = some u → w.cell? ⟨b, o + j, none⟩ = some u) → IntsO w S l (some ⟨b, o, none⟩)
  | [], _, _, _, _ => by unfold IntsO; trivial
  | a :: r, _, o, ⟨v, ys, h1, h2, h3⟩, hc => by
    have h2' : v = .int .i64 a := h2
    subst h2'
    subst h1
    unfold IntsO
    refine ⟨b, o, rfl, hb, hc 0 _ (by simp [Value.cells]), intsO_of hb r ys (o + 1) h3 fun j u hu => ?_⟩
    have := hc (1 + j) u (by rw [Nat.add_comm]; simpa [Value.cells] using hu)
    rwa [← Nat.add_assoc] at this
theorem RowG.ints {t : TypeId} {base : Nat} {w : World} {S S' : Nat → Prop} {v : Value} {es : List Int} (h : RowG srtI t base w S v es) (hS : ∀ k, S k → S' k) (hn : ∀ k, base ≤ k → k < w.heap.size → S' k) :
    ∃ A cap, v = .slice A es.length cap ∧ es.length ≤ cap ∧ cap ≤ maxLen ∧ IntsO w S' es A := by
  obtain ⟨A, cap, h1, h2, h3, h4⟩ := h.shut
  refine ⟨A, cap, h1, h2, h3, ?_⟩
  rcases h4 with rfl | ⟨g, xs, rfl, hb, hl, hc, hi⟩
  · unfold IntsO; trivial
  · exact intsO_of (hn g hb hl) _ _ 0 (Items.keep _ (fun k hs => ⟨hS k hs, rfl⟩) _ _ hi) hc

end Go.Proofs.Ytnhdgndjpkdhdaa

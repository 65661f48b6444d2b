/-
  append of a whole list behind a row of the call's own that has a block (made of Cat and RTys1); rows of strings.
-/
import Derived.Test.YtnhdgndjpkdhdaaGRow
import Derived.Deep.AppendLies
namespace Go.Proofs.Ytnhdgndjpkdhdaa
open Go.RowKit

def srtS : Srt ByteArray where
  V := fun _ _ s v => v = .string s ∧ s.size ≤ maxLen
  size := 1
  pos := by decide
  keep := fun _ _ _ _ _ _ _ hv => hv
  cells := fun w S a v h => by rw [h.1]; rfl
  flat := fun w S a v h u hu => by
    rw [h.1] at hu
    simp [Value.cells] at hu
    subst hu
    rfl

section
variable {P : Program} (w : World)
theorem run_append_none (t ty e : TypeId) (i : TypeInfo) (ht : P.underlying t = some (.slice e)) (hi : P.info? e = some i) (a : Addr) (n cap c : Nat) (hn : n ≤ cap) :
    (Builtin.append_ #[t, t] ty #[.slice (some a) n cap, .slice none 0 c]).run P w = .ok (.slice (some a) n cap) w := by
  simp [Builtin.append_, run_underlying ht, sizeOf, typeInfo, hi, Builtin.lenOf, Builtin.firstCells, storeCells, hn]

theorem run_append_at' (base : Nat) (t ty e : TypeId) (i : TypeInfo) (z : Value) (size bytes : Nat) (ht : P.underlying t = some (.slice e)) (hi : P.info? e = some i) (hz : i.zero = some z)
    (hsize : i.size = size) (hby : i.bytes = bytes) (hzs : z.cells.size = size) (hsz : 0 < size)
    (v : Value) (n : Nat) (xs : List Value) (hown : w.ownsRow base e size v n xs) (hv : v ≠ .slice none 0 0)
    (a : Addr) (m c : Nat) (news : List Value) (hl : news.length = m * size) (hnews : ∀ j u, news[j]? = some u → w.cell? (a.add j) = some u) (h1 : ∀ u ∈ news, u.oneCell' = true)
    (h63 : n + m ≤ maxLen) (hbytes : (n + m) * bytes ≤ 140737488355328) (hbase : base ≤ w.heap.size) :
    ∃ v' w', (Builtin.append_ #[t, t] ty #[v, .slice (some a) m c]).run P w = .ok v' w' ∧ w'.ownsRow base e size v' (n + m) (xs ++ news) ∧ w.grownBy w' v.ownBlock ∧
      (v'.ownBlock = v.ownBlock ∨ v'.ownBlock = some w.heap.size) := by
  obtain ⟨v', w', hr, h2, h3, h4⟩ := run_append_own (P := P) w base t ty e i z size bytes ht hi hz hsize hby hzs hsz v n xs hown a m c news hl hnews h1 h63 hbytes hbase
  refine ⟨v', w', hr, h2, h3, ?_⟩
  have hsmall : n + m ≤ 9223372036854775807 := by simp only [maxLen] at h63; omega
  subst hsize
  subst hby
  rcases hown.2 with ⟨rfl, rfl⟩ | ⟨g, cap, cur, rfl, hbg, hg, hnc, hcm, hcs, htake⟩
  · exact absurd rfl hv
  · by_cases hroom : n + m ≤ cap
    · have hfit : n * i.size + news.length ≤ cur.size := by rw [hl, hcs, ← Nat.add_mul]; exact Nat.mul_le_mul_right _ hroom
      have hr' := run_append_room (P := P) w t ty e i ht hi g n cap cur hg a m c news hl hnews h1 hroom hfit
      rw [hr] at hr'
      injection hr' with e1 e2
      subst e1
      exact .inl rfl
    · have holds : ∀ j u, xs[j]? = some u → w.cell? ((⟨g, 0, none⟩ : Addr).add j) = some u := hown.cells (g := g) rfl
      have hr' := run_append_grow (P := P) w t ty e i z ht hi hz ⟨g, 0, none⟩ n cap xs hown.1 holds a m c news hl hnews (by omega) (by omega) (growslice_fits (by omega) hbytes)
      rw [hr] at hr'
      injection hr' with e1 e2
      subst e1
      exact .inr rfl
end

/-- Where a list lies: nowhere, if it is empty; else cell by cell. -/
def LiesAt {α : Type} (T : Srt α) (w : World) (S : Nat → Prop) (l : List α) (A : Option Addr) : Prop :=
  A = none ∧ l = [] ∨ ∃ ad, A = some ad ∧ ∃ news, (∀ j u, news[j]? = some u → w.cell? (ad.add j) = some u) ∧ Items T w S l news

theorem wpList_cat2 {α : Type} {T : Srt α} {base : Nat} {w : World} {S : Nat → Prop} {v : Value} {es ms : List α} {P : Program} {ops : Array Oper} {rest : List Oper} {o : Oper} {a : Act} {Q : Exit → Act → World → Prop} (hgd : o.guard = none) (s x : Operand) (ts e : TypeId)
    (ho : o.op = .call { callee := .builtin .append, args := #[s, x], argTypes := #[ts, ts] })
    (i : TypeInfo) (z : Value) (bytes : Nat) (ht : P.underlying ts = some (.slice e)) (hi : P.info? e = some i) (hz : i.zero = some z)
    (hsize : i.size = T.size) (hby : i.bytes = bytes) (hzs : z.cells.size = T.size)
    (hs : a.eval s = v) (hv : v ≠ .slice none 0 0) (h : RowG T e base w S v es)
    (A : Option Addr) (c : Nat) (hx : a.eval x = .slice A ms.length c) (hl : LiesAt T w S ms A)
    (h63 : es.length + ms.length ≤ maxLen) (hbt : (es.length + ms.length) * bytes ≤ 140737488355328) (hbase : base ≤ w.heap.size)
    (hK : ∀ v' w', RowG T e base w' S v' (es ++ ms) → Keeps (fun k => v.ownBlock = some k) w w' → (v'.ownBlock = v.ownBlock ∨ v'.ownBlock = some w.heap.size) → wpList P ops Q rest (a.put o.dst v') w') : wpList P ops Q (o :: rest) a w := by
  obtain ⟨xs, h1, h2⟩ := h.raw
  refine wpList_plain hgd fun K hK' => ?_
  rcases hl with ⟨rfl, rfl⟩ | ⟨ad, rfl, news, hc, hit⟩
  · rcases h1.2 with ⟨hn, _⟩ | ⟨g, cap, cur, hvv, hbg, hg, hnc, hcm, hcs, htake⟩
    · exact absurd hn hv
    · have hr := run_append_none (P := P) w ts o.type e i ht hi ⟨g, 0, none⟩ es.length cap c hnc
      rw [← hvv] at hr
      unfold Oper.wp execOp
      simp only [List.length_nil] at hx
      simp only [ho, resolve, invoke, builtin, Sem.run_bind, Sem.run_pure, Result.andThen_ok, List.map_toArray, List.map_cons, List.map_nil, hs, hx, hr]
      exact hK' _ _ (hK _ _ (by rw [List.append_nil]; exact h) (Keeps.refl _ _) (.inl rfl))
  · obtain ⟨v', w', hr, g2, g3, g4⟩ := run_append_at' (P := P) w base ts o.type e i z T.size bytes ht hi hz hsize hby hzs T.pos v es.length xs h1 hv ad ms.length c news (Items.length T _ _ hit) hc (Items.flat T _ _ hit) h63 hbt hbase
    unfold Oper.wp execOp
    simp only [ho, resolve, invoke, builtin, Sem.run_bind, Sem.run_pure, Result.andThen_ok, List.map_toArray, List.map_cons, List.map_nil, hs, hx, hr]
    exact hK' _ _ (hK _ _ (h.grow hit h2 g2 g3 g4) (Keeps.of_grown g3) g4)

theorem wpList_growB {α : Type} {T : Srt α} {base : Nat} {w : World} {S : Nat → Prop} {v : Value} {es ms : List α} {P : Program} {ops : Array Oper} {rest : List Oper} {o : Oper} {a : Act} {Q : Exit → Act → World → Prop} (hgd : o.guard = none) (s x : Operand) (ts e : TypeId)
    (ho : o.op = .call { callee := .builtin .append, args := #[s, x], argTypes := #[ts, ts] })
    (i : TypeInfo) (z : Value) (bytes : Nat) (ht : P.underlying ts = some (.slice e)) (hi : P.info? e = some i) (hz : i.zero = some z)
    (hsize : i.size = T.size) (hby : i.bytes = bytes) (hzs : z.cells.size = T.size)
    (hs : a.eval s = v) (h : RowG T e base w S v es)
    (ad : Addr) (c : Nat) (news : List Value) (hx : a.eval x = .slice (some ad) ms.length c) (hnews : ∀ j u, news[j]? = some u → w.cell? (ad.add j) = some u) (hit : Items T w S ms news)
    (h63 : es.length + ms.length ≤ maxLen) (hbt : (es.length + ms.length) * bytes ≤ 140737488355328) (hbase : base ≤ w.heap.size) (hm : 0 < ms.length)
    (hK : ∀ v' w', RowG T e base w' S v' (es ++ ms) → Keeps (fun k => v.ownBlock = some k) w w' → (v'.ownBlock = v.ownBlock ∨ v'.ownBlock = some w.heap.size) → wpList P ops Q rest (a.put o.dst v') w') : wpList P ops Q (o :: rest) a w := by
  obtain ⟨xs, h1, h2⟩ := h.raw
  refine wpList_append_at (P := P) w hgd s x ts ho base e i z T.size bytes ht hi hz hsize hby hzs T.pos v es.length xs hs h1 ad ms.length c news hx (Items.length T _ _ hit) hnews (Items.flat T _ _ hit) h63 hbt hbase hm ?_
  intro v' w' ho hg hb
  exact hK v' w' (h.grow hit h2 ho hg hb) (Keeps.of_grown hg) hb

theorem step_cat2 {α : Type} {T : Srt α} {base : Nat} {w : World} {S : Nat → Prop} {v : Value} {es ms : List α} {P : Program} {ops : Array Oper} {o : Oper} {a : Act} {K : Act → World → Prop} {Q : Exit → Act → World → Prop} {E : Prop} (hgd : o.guard = none) (s x : Operand) (ts e : TypeId)
    (ho : o.op = .call { callee := .builtin .append, args := #[s, x], argTypes := #[ts, ts] })
    (i : TypeInfo) (z : Value) (bytes : Nat) (ht : P.underlying ts = some (.slice e)) (hi : P.info? e = some i) (hz : i.zero = some z)
    (hsize : i.size = T.size) (hby : i.bytes = bytes) (hzs : z.cells.size = T.size)
    (hs : a.eval s = v) (hv : v ≠ .slice none 0 0) (h : RowG T e base w S v es)
    (A : Option Addr) (c : Nat) (hx : a.eval x = .slice A ms.length c) (hl : LiesAt T w S ms A)
    (h63 : es.length + ms.length ≤ maxLen) (hbt : (es.length + ms.length) * bytes ≤ 140737488355328) (hbase : base ≤ w.heap.size)
    (hK : ∀ v' w', RowG T e base w' S v' (es ++ ms) → Keeps (fun k => v.ownBlock = some k) w w' → (v'.ownBlock = v.ownBlock ∨ v'.ownBlock = some w.heap.size) → K (a.put o.dst v') w') : if Region.wanted o (yielded ops a.tmps) = true then Oper.wp P o a w K Q else E := by
  have hwant : Region.wanted o (yielded ops a.tmps) = true := by simp [Region.wanted, hgd]
  rw [if_pos hwant]
  obtain ⟨xs, h1, h2⟩ := h.raw
  rcases hl with ⟨rfl, rfl⟩ | ⟨ad, rfl, news, hc, hit⟩
  · rcases h1.2 with ⟨hn, _⟩ | ⟨g, cap, cur, hvv, hbg, hg, hnc, hcm, hcs, htake⟩
    · exact absurd hn hv
    · have hr := run_append_none (P := P) w ts o.type e i ht hi ⟨g, 0, none⟩ es.length cap c hnc
      rw [← hvv] at hr
      unfold Oper.wp execOp
      simp only [List.length_nil] at hx
      simp only [ho, resolve, invoke, builtin, Sem.run_bind, Sem.run_pure, Result.andThen_ok, List.map_toArray, List.map_cons, List.map_nil, hs, hx, hr]
      exact (hK _ _ (by rw [List.append_nil]; exact h) (Keeps.refl _ _) (.inl rfl))
  · obtain ⟨v', w', hr, g2, g3, g4⟩ := run_append_at' (P := P) w base ts o.type e i z T.size bytes ht hi hz hsize hby hzs T.pos v es.length xs h1 hv ad ms.length c news (Items.length T _ _ hit) hc (Items.flat T _ _ hit) h63 hbt hbase
    unfold Oper.wp execOp
    simp only [ho, resolve, invoke, builtin, Sem.run_bind, Sem.run_pure, Result.andThen_ok, List.map_toArray, List.map_cons, List.map_nil, hs, hx, hr]
    exact (hK _ _ (h.grow hit h2 g2 g3 g4) (Keeps.of_grown g3) g4)

theorem step_growB {α : Type} {T : Srt α} {base : Nat} {w : World} {S : Nat → Prop} {v : Value} {es ms : List α} {P : Program} {ops : Array Oper} {o : Oper} {a : Act} {K : Act → World → Prop} {Q : Exit → Act → World → Prop} {E : Prop} (hgd : o.guard = none) (s x : Operand) (ts e : TypeId)
    (ho : o.op = .call { callee := .builtin .append, args := #[s, x], argTypes := #[ts, ts] })
    (i : TypeInfo) (z : Value) (bytes : Nat) (ht : P.underlying ts = some (.slice e)) (hi : P.info? e = some i) (hz : i.zero = some z)
    (hsize : i.size = T.size) (hby : i.bytes = bytes) (hzs : z.cells.size = T.size)
    (hs : a.eval s = v) (h : RowG T e base w S v es)
    (ad : Addr) (c : Nat) (news : List Value) (hx : a.eval x = .slice (some ad) ms.length c) (hnews : ∀ j u, news[j]? = some u → w.cell? (ad.add j) = some u) (hit : Items T w S ms news)
    (h63 : es.length + ms.length ≤ maxLen) (hbt : (es.length + ms.length) * bytes ≤ 140737488355328) (hbase : base ≤ w.heap.size) (hm : 0 < ms.length)
    (hK : ∀ v' w', RowG T e base w' S v' (es ++ ms) → Keeps (fun k => v.ownBlock = some k) w w' → (v'.ownBlock = v.ownBlock ∨ v'.ownBlock = some w.heap.size) → K (a.put o.dst v') w') : if Region.wanted o (yielded ops a.tmps) = true then Oper.wp P o a w K Q else E := by
  obtain ⟨xs, h1, h2⟩ := h.raw
  refine step_append_lies w hgd s x ts ho base e i z T.size bytes ht hi hz hsize hby hzs T.pos v es.length xs hs h1 ad ms.length c news hx (Items.length T _ _ hit) hnews (Items.flat T _ _ hit) hm h63 hbt hbase _ rfl ?_
  intro g cap w' hown hgrow hat _
  have hb : (Value.slice (some ⟨g, 0, none⟩) (es.length + ms.length) cap).ownBlock = v.ownBlock ∨ (Value.slice (some ⟨g, 0, none⟩) (es.length + ms.length) cap).ownBlock = some w.heap.size := by
    rcases hat with h | h
    · exact .inl (by rw [h]; rfl)
    · exact .inr (by rw [← h]; rfl)
  exact hK _ _ (h.grow hit h2 hown hgrow hb) (Keeps.of_grown hgrow) hb

theorem add_plain' (b o j : Nat) : (⟨b, o, none⟩ : Addr).add j = ⟨b, o + j, none⟩ := by
  unfold Addr.add
  split
  · rename_i hj
    have hj : j = 0 := by simpa using hj
    subst hj
    rfl
  · rfl
theorem items_of_strs {w : World} {S : Nat → Prop} : ∀ (l : List ByteArray) (b o : Nat), StrsO w S l (some ⟨b, o, none⟩) → ∃ xs, Items srtS w S l xs ∧ ∀ j u, xs[j]? = some u → w.cell? ⟨b, o + j, none⟩ = some u
  | [], _, _, _ => ⟨[], rfl, fun j u h => by simp at h⟩
  | e :: r, b, o, h => by
    unfold StrsO at h
    obtain ⟨b', o', hA, hb, hc, hv, hr⟩ := h
    simp only [Option.some.injEq, Addr.mk.injEq, and_true] at hA
    obtain ⟨rfl, rfl⟩ := hA
    obtain ⟨xs, h1, h2⟩ := items_of_strs r b (o + 1) hr
    refine ⟨.string e :: xs, ⟨.string e, xs, rfl, ⟨rfl, hv⟩, h1⟩, fun j u hu => ?_⟩
    cases j with
    | zero => simp at hu; subst hu; exact hc
    | succ j =>
      have := h2 j u (by simpa using hu)
      rwa [show o + 1 + j = o + (j + 1) by omega] at this
theorem lies_strs {w : World} {S : Nat → Prop} {l : List ByteArray} {A : Option Addr} (h : StrsO w S l A) : LiesAt srtS w S l A := by
  cases l with
  | nil =>
    cases A with
    | none => exact .inl ⟨rfl, rfl⟩
    | some ad => exact .inr ⟨ad, rfl, [], fun j u h => by simp at h, rfl⟩
  | cons e r =>
    have h' := h
    unfold StrsO at h'
    obtain ⟨b, o, h'⟩ := h'
    obtain rfl := h'.1
    obtain ⟨xs, h1, h2⟩ := items_of_strs _ _ _ h
    exact .inr ⟨_, rfl, xs, fun j u hu => by rw [add_plain']; exact h2 j u hu, h1⟩
theorem strsO_of {w : World} {S : Nat → Prop} {b : Nat} (hb : S b) : ∀ (l : List ByteArray) (xs : List Value) (o : Nat), Items srtS w S l xs → (∀ j u, xs[j]? = some u → w.cell? ⟨b, o + j, none⟩ = some u) → StrsO w S l (some ⟨b, o, none⟩)
  | [], _, _, _, _ => trivial
  | s :: r, xs, o, ⟨v, ys, h1, h2, h3⟩, hc => by
    obtain ⟨rfl, h4⟩ := h2
    subst h1
    refine ⟨b, o, rfl, hb, by simpa using hc 0 (.string s) rfl, h4, strsO_of hb r ys (o + 1) h3 fun j u hu => ?_⟩
    have := hc (j + 1) u (by simpa [Value.cells] using hu)
    rwa [show o + (j + 1) = o + 1 + j by omega] at this
theorem RowG.strs {t : TypeId} {base : Nat} {w : World} {S S' : Nat → Prop} {v : Value} {es : List ByteArray} (h : RowG srtS t base w S v es) (hS : ∀ k, S k → S' k) (hn : ∀ k, base ≤ k → k < w.heap.size → S' k) :
    ∃ A cap, v = .slice A es.length cap ∧ es.length ≤ cap ∧ cap ≤ maxLen ∧ StrsO w S' es A := by
  obtain ⟨A, cap, hv, h1, h2, h3⟩ := h.shut
  refine ⟨A, cap, hv, h1, h2, ?_⟩
  rcases h3 with rfl | ⟨g, xs, rfl, hb, hg, hc, hi⟩
  · exact trivial
  · exact strsO_of (hn g hb hg) _ _ 0 (Items.keep srtS (fun k hk => ⟨hS k hk, rfl⟩) _ _ hi) hc

end Go.Proofs.Ytnhdgndjpkdhdaa

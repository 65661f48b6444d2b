/-
  append of a whole list behind any row of the call's own, nil too.
-/
import Derived.Test.YtnhdgndjpkdhdaaGCat
namespace Go.Proofs.Ytnhdgndjpkdhdaa
open Go.RowKit

section
variable {P : Program} (w : World)
theorem run_append_nil0 (t ty e : TypeId) (i : TypeInfo) (ht : P.underlying t = some (.slice e)) (hi : P.info? e = some i) (A : Option Addr) (c : Nat) :
    (Builtin.append_ #[t, t] ty #[.slice none 0 0, .slice A 0 c]).run P w = .ok (.slice none 0 0) w := by
  cases A <;> simp [Builtin.append_, run_underlying ht, sizeOf, typeInfo, hi, Builtin.lenOf, Builtin.firstCells, loadCells, loadCellsFrom]

theorem run_append_any (base : Nat) (t ty e : TypeId) (i : TypeInfo) (z : Value) (size bytes : Nat) (ht : P.underlying t = some (.slice e)) (hi : P.info? e = some i) (hz : i.zero = some z)
    (hsize : i.size = size) (hby : i.bytes = bytes) (hzs : z.cells.size = size) (hsz : 0 < size)
    (v : Value) (n : Nat) (xs : List Value) (hown : w.ownsRow base e size v n xs)
    (a : Addr) (m c : Nat) (news : List Value) (hl : news.length = m * size) (hnews : ∀ j u, news[j]? = some u → w.cell? (a.add j) = some u) (h1 : ∀ u ∈ news, u.oneCell' = true)
    (h63 : n + m ≤ maxLen) (hbytes : (n + m) * bytes ≤ 140737488355328) (hbase : base ≤ w.heap.size) :
    ∃ v' w', (Builtin.append_ #[t, t] ty #[v, .slice (some a) m c]).run P w = .ok v' w' ∧ w'.ownsRow base e size v' (n + m) (xs ++ news) ∧ w.grownBy w' v.ownBlock ∧
      (v'.ownBlock = v.ownBlock ∨ v'.ownBlock = some w.heap.size) := by
  by_cases hv : v = .slice none 0 0
  · rcases hown.2 with ⟨_, h0⟩ | ⟨g, cap, cur, hvv, _⟩
    · subst hv
      subst h0
      by_cases hm : m = 0
      · subst hm
        have hn : news = [] := List.length_eq_zero_iff.1 (by rw [hl, Nat.zero_mul])
        have hx : xs = [] := List.length_eq_zero_iff.1 (by rw [hown.1, Nat.zero_mul])
        subst hn
        subst hx
        exact ⟨_, w, run_append_nil0 w t ty e i ht hi (some a) c, World.ownsRow_nil w base e size, ⟨rfl, rfl, rfl, Nat.le_refl _, fun _ _ _ => rfl⟩, .inl rfl⟩
      · exact run_append_at w base t ty e i z size bytes ht hi hz hsize hby hzs hsz _ 0 xs hown a m c news hl hnews h1 h63 hbytes hbase (Nat.pos_of_ne_zero hm)
    · rw [hv] at hvv; simp at hvv
  · exact run_append_at' w base t ty e i z size bytes ht hi hz hsize hby hzs hsz v n xs hown hv a m c news hl hnews h1 h63 hbytes hbase
end

theorem step_catA {α : Type} {T : Srt α} {base : Nat} {w : World} {S : Nat → Prop} {v : Value} {es ms : List α} {P : Program} {ops : Array Oper} {o : Oper} {a : Act} {K : Act → World → Prop} {Q : Exit → Act → World → Prop} {E : Prop} (hgd : o.guard = none) (s x : Operand) (ts e : TypeId)
    (ho : o.op = .call { callee := .builtin .append, args := #[s, x], argTypes := #[ts, ts] })
    (i : TypeInfo) (z : Value) (bytes : Nat) (ht : P.underlying ts = some (.slice e)) (hi : P.info? e = some i) (hz : i.zero = some z)
    (hsize : i.size = T.size) (hby : i.bytes = bytes) (hzs : z.cells.size = T.size)
    (hs : a.eval s = v) (h : RowG T e base w S v es)
    (A : Option Addr) (c : Nat) (hx : a.eval x = .slice A ms.length c) (hl : LiesAt T w S ms A)
    (h63 : es.length + ms.length ≤ maxLen) (hbt : (es.length + ms.length) * bytes ≤ 140737488355328) (hbase : base ≤ w.heap.size)
    (hK : ∀ v' w', RowG T e base w' S v' (es ++ ms) → Keeps (fun k => v.ownBlock = some k) w w' → (v'.ownBlock = v.ownBlock ∨ v'.ownBlock = some w.heap.size) → K (a.put o.dst v') w') : if Region.wanted o (yielded ops a.tmps) = true then Oper.wp P o a w K Q else E := by
  have hwant : Region.wanted o (yielded ops a.tmps) = true := by simp [Region.wanted, hgd]
  rw [if_pos hwant]
  obtain ⟨xs, h1, h2⟩ := h.raw
  rcases hl with ⟨rfl, rfl⟩ | ⟨ad, rfl, news, hc, hit⟩
  · rcases h1.2 with ⟨hn, h0⟩ | ⟨g, cap, cur, hvv, hbg, hg, hnc, hcm, hcs, htake⟩
    · have hr := run_append_nil0 (P := P) w ts o.type e i ht hi none c
      rw [← hn] at hr
      unfold Oper.wp execOp
      simp only [List.length_nil] at hx
      simp only [ho, resolve, invoke, builtin, Sem.run_bind, Sem.run_pure, Result.andThen_ok, List.map_toArray, List.map_cons, List.map_nil, hs, hx, hr]
      exact (hK _ _ (by rw [List.append_nil]; exact h) (Keeps.refl _ _) (.inl rfl))
    · have hr := run_append_none (P := P) w ts o.type e i ht hi ⟨g, 0, none⟩ es.length cap c hnc
      rw [← hvv] at hr
      unfold Oper.wp execOp
      simp only [List.length_nil] at hx
      simp only [ho, resolve, invoke, builtin, Sem.run_bind, Sem.run_pure, Result.andThen_ok, List.map_toArray, List.map_cons, List.map_nil, hs, hx, hr]
      exact (hK _ _ (by rw [List.append_nil]; exact h) (Keeps.refl _ _) (.inl rfl))
  · obtain ⟨v', w', hr, g2, g3, g4⟩ := run_append_any (P := P) w base ts o.type e i z T.size bytes ht hi hz hsize hby hzs T.pos v es.length xs h1 ad ms.length c news (Items.length T _ _ hit) hc (Items.flat T _ _ hit) h63 hbt hbase
    unfold Oper.wp execOp
    simp only [ho, resolve, invoke, builtin, Sem.run_bind, Sem.run_pure, Result.andThen_ok, List.map_toArray, List.map_cons, List.map_nil, hs, hx, hr]
    exact (hK _ _ (h.grow hit h2 g2 g3 g4) (Keeps.of_grown g3) g4)
theorem wpList_catA {α : Type} {T : Srt α} {base : Nat} {w : World} {S : Nat → Prop} {v : Value} {es ms : List α} {P : Program} {ops : Array Oper} {rest : List Oper} {o : Oper} {a : Act} {Q : Exit → Act → World → Prop} (hgd : o.guard = none) (s x : Operand) (ts e : TypeId)
    (ho : o.op = .call { callee := .builtin .append, args := #[s, x], argTypes := #[ts, ts] })
    (i : TypeInfo) (z : Value) (bytes : Nat) (ht : P.underlying ts = some (.slice e)) (hi : P.info? e = some i) (hz : i.zero = some z)
    (hsize : i.size = T.size) (hby : i.bytes = bytes) (hzs : z.cells.size = T.size)
    (hs : a.eval s = v) (h : RowG T e base w S v es)
    (A : Option Addr) (c : Nat) (hx : a.eval x = .slice A ms.length c) (hl : LiesAt T w S ms A)
    (h63 : es.length + ms.length ≤ maxLen) (hbt : (es.length + ms.length) * bytes ≤ 140737488355328) (hbase : base ≤ w.heap.size)
    (hK : ∀ v' w', RowG T e base w' S v' (es ++ ms) → Keeps (fun k => v.ownBlock = some k) w w' → (v'.ownBlock = v.ownBlock ∨ v'.ownBlock = some w.heap.size) → wpList P ops Q rest (a.put o.dst v') w') : wpList P ops Q (o :: rest) a w := by
  obtain ⟨xs, h1, h2⟩ := h.raw
  refine wpList_plain hgd fun K hK' => ?_
  rcases hl with ⟨rfl, rfl⟩ | ⟨ad, rfl, news, hc, hit⟩
  · have hr : (Builtin.append_ #[ts, ts] o.type #[v, .slice none 0 c]).run P w = .ok v w := by
      rcases h1.2 with ⟨hn, h0⟩ | ⟨g, cap, cur, hvv, hbg, hg, hnc, hcm, hcs, htake⟩
      · rw [hn]; exact run_append_nil0 (P := P) w ts o.type e i ht hi none c
      · rw [hvv]; exact run_append_none (P := P) w ts o.type e i ht hi ⟨g, 0, none⟩ es.length cap c hnc
    unfold Oper.wp execOp
    simp only [List.length_nil] at hx
    simp only [ho, resolve, invoke, builtin, Sem.run_bind, Sem.run_pure, Result.andThen_ok, List.map_toArray, List.map_cons, List.map_nil, hs, hx, hr]
    exact hK' _ _ (hK _ _ (by rw [List.append_nil]; exact h) (Keeps.refl _ _) (.inl rfl))
  · obtain ⟨v', w', hr, g2, g3, g4⟩ := run_append_any (P := P) w base ts o.type e i z T.size bytes ht hi hz hsize hby hzs T.pos v es.length xs h1 ad ms.length c news (Items.length T _ _ hit) hc (Items.flat T _ _ hit) h63 hbt hbase
    unfold Oper.wp execOp
    simp only [ho, resolve, invoke, builtin, Sem.run_bind, Sem.run_pure, Result.andThen_ok, List.map_toArray, List.map_cons, List.map_nil, hs, hx, hr]
    exact hK' _ _ (hK _ _ (h.grow hit h2 g2 g3 g4) (Keeps.of_grown g3) g4)
end Go.Proofs.Ytnhdgndjpkdhdaa

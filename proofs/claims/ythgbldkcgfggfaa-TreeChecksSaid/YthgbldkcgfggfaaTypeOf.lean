/-
  trefoilref02.TypeOf: one of a few types.
-/
import Derived.Test.YthgbldkcgfggfaaSpec
import Derived.Test.YthgbldkcgfggfaaByte
namespace Go.Proofs.Ythgbldkcgfggfaa
open Go.RowKit

def sInt : ByteArray := ⟨#[105, 110, 116]⟩
def tyInt : Ty := .mk 2 ⟨#[105, 110, 116]⟩ [] [] false
def tyA : Ty := .mk 1 ⟨#[97]⟩ [] [] false
def typeOf (n : Nat) : Ty :=
  match n % 8 with
  | 0 => tyInt
  | 1 => tyA
  | 2 => .mk 2 ⟨#[45, 62]⟩ [tyInt, tyA] [] false
  | 3 => .mk 3 ⟨#[]⟩ [tyInt, tyA] [⟨#[109]⟩, ⟨#[110]⟩] false
  | 4 => .mk 4 ⟨#[97]⟩ [.mk 3 ⟨#[]⟩ [tyA] [⟨#[109]⟩] true] [] false
  | 5 => .mk 3 ⟨#[]⟩ [tyInt, tyA] [⟨#[110]⟩, ⟨#[109]⟩] false
  | 6 => .mk 2 ⟨#[42]⟩ [tyInt] [] false
  | _ => .mk 3 ⟨#[]⟩ [] [] true

/-- The blocks that were made between two worlds. -/
def New (w w' : World) (k : Nat) : Prop := w.heap.size ≤ k ∧ k < w'.heap.size
theorem heap_at (w : World) (o : Obj) (k : Nat) (h : k = w.heap.size) : (w.alloc o).heap[k]? = some o := by subst h; exact heap_alloc_new w o
theorem heap_past (w : World) (o : Obj) (k : Nat) (h : k < w.heap.size) : (w.alloc o).heap[k]? = w.heap[k]? := Below.heap_alloc w o k h

theorem cellsAt_of {W : World} {b o : Nat} {v : Value} {cs : Array Value} {t : TypeId} {fz : Nat × Nat} (h : W.heap[b]? = some (.cells cs t fz)) (hc : ∀ j u, v.cells[j]? = some u → cs[o + j]? = some u) : CellsAt W b o v :=
  fun j u hu => (cell_of_row W b (o + j) cs t fz h).trans (hc j u hu)

/-- A type without parts, as a value. -/
def leafV (k : Int) (s : ByteArray) (op : Bool) : Value := .agg #[.int .i64 k, .string s, .slice none 0 0, .slice none 0 0, .bool op]
theorem leaf_V (W : World) (S : Nat → Prop) (k : Int) (s : ByteArray) (op : Bool) (hs : s.size ≤ maxLen) : TyV W S (.mk k s [] [] op) (leafV k s op) := by
  unfold TyV
  exact ⟨none, 0, none, 0, rfl, hs, Nat.le_refl _, Nat.zero_le _, Nat.le_refl _, Nat.zero_le _, by unfold TysO; trivial, by unfold StrsO; trivial⟩
theorem tyInt_V (W : World) (S : Nat → Prop) : TyV W S tyInt (leafV 2 ⟨#[105, 110, 116]⟩ false) := leaf_V W S _ _ _ (by decide)
theorem tyA_V (W : World) (S : Nat → Prop) : TyV W S tyA (leafV 1 ⟨#[97]⟩ false) := leaf_V W S _ _ _ (by decide)

theorem tys_two (W : World) (S : Nat → Prop) (b : Nat) (hb : S b) (h : W.heap[b]? = some (.cells #[.int .i64 2, .string ⟨#[105, 110, 116]⟩, .slice none 0 0, .slice none 0 0, .bool false, .int .i64 1, .string ⟨#[97]⟩, .slice none 0 0, .slice none 0 0, .bool false] 42 (0, 0))) : TysO W S [tyInt, tyA] (some ⟨b, 0, none⟩) := by
  unfold TysO
  refine ⟨b, 0, _, rfl, hb, cellsAt_of h ?_, tyInt_V W S, ?_⟩
  · intro j u hu
    rcases j with _ | _ | _ | _ | _ | j <;> simp_all [leafV, Value.cells]
  · unfold TysO
    refine ⟨b, 5, _, rfl, hb, cellsAt_of h ?_, tyA_V W S, by unfold TysO; trivial⟩
    intro j u hu
    rcases j with _ | _ | _ | _ | _ | j <;> simp_all [leafV, Value.cells]
theorem tys_int (W : World) (S : Nat → Prop) (b : Nat) (hb : S b) (h : W.heap[b]? = some (.cells #[.int .i64 2, .string ⟨#[105, 110, 116]⟩, .slice none 0 0, .slice none 0 0, .bool false] 42 (0, 0))) : TysO W S [tyInt] (some ⟨b, 0, none⟩) := by
  unfold TysO
  refine ⟨b, 0, _, rfl, hb, cellsAt_of h ?_, tyInt_V W S, by unfold TysO; trivial⟩
  intro j u hu
  rcases j with _ | _ | _ | _ | _ | j <;> simp_all [leafV, Value.cells]
theorem tys_a (W : World) (S : Nat → Prop) (b : Nat) (hb : S b) (h : W.heap[b]? = some (.cells #[.int .i64 1, .string ⟨#[97]⟩, .slice none 0 0, .slice none 0 0, .bool false] 42 (0, 0))) : TysO W S [tyA] (some ⟨b, 0, none⟩) := by
  unfold TysO
  refine ⟨b, 0, _, rfl, hb, cellsAt_of h ?_, tyA_V W S, by unfold TysO; trivial⟩
  intro j u hu
  rcases j with _ | _ | _ | _ | _ | j <;> simp_all [leafV, Value.cells]
theorem strs_one (W : World) (S : Nat → Prop) (b : Nat) (hb : S b) (s : ByteArray) (hs : s.size ≤ maxLen) (t : TypeId) (h : W.heap[b]? = some (.cells #[.string s] t (0, 0))) : StrsO W S [s] (some ⟨b, 0, none⟩) := by
  unfold StrsO
  exact ⟨b, 0, rfl, hb, by rw [cell_of_row W b 0 _ _ _ h]; rfl, hs, by unfold StrsO; trivial⟩
theorem strs_two (W : World) (S : Nat → Prop) (b : Nat) (hb : S b) (s s' : ByteArray) (hs : s.size ≤ maxLen) (hs' : s'.size ≤ maxLen) (t : TypeId) (h : W.heap[b]? = some (.cells #[.string s, .string s'] t (0, 0))) : StrsO W S [s, s'] (some ⟨b, 0, none⟩) := by
  unfold StrsO
  refine ⟨b, 0, rfl, hb, by rw [cell_of_row W b 0 _ _ _ h]; rfl, hs, ?_⟩
  unfold StrsO
  exact ⟨b, 1, rfl, hb, by rw [cell_of_row W b 1 _ _ _ h]; rfl, hs', by unfold StrsO; trivial⟩

set_option maxRecDepth 100000 in
set_option maxHeartbeats 1000000 in
theorem typeOf_0 (n : Nat) (w : World) (h : n % 8 = 0) :
    Calls Try.prog 20 #[.int .u8 n] w fun e w' => ∃ v, e = .returned v ∧ TyV w' (New w w') (typeOf n) v ∧ Below w.heap.size w w' := by
  have h1 : ((n : Int) % 8) = 0 := by omega
  have ht : typeOf n = typeOf 0 := by unfold typeOf; rw [h]
  rw [ht]
  clear ht h
  go_enter Try.func20, Try.ntmps20
  go_wp2
  refine bodyPost_ret (v := .agg #[.int .i64 2, .string ⟨#[105, 110, 116]⟩, .slice none 0 0, .slice none 0 0, .bool false]) (by simp [results, Try.results20, go_sem]) rfl ?_
  refine ⟨_, rfl, ?_, ?_⟩
  · exact tyInt_V _ _
  · repeat (first | exact Below.refl _ _ | refine Below.alloc ?_ (by simp <;> omega) _ | refine Below.setCell ?_ (by simp <;> omega) _)

set_option maxRecDepth 100000 in
set_option maxHeartbeats 1000000 in
theorem typeOf_1 (n : Nat) (w : World) (h : n % 8 = 1) :
    Calls Try.prog 20 #[.int .u8 n] w fun e w' => ∃ v, e = .returned v ∧ TyV w' (New w w') (typeOf n) v ∧ Below w.heap.size w w' := by
  have h1 : ((n : Int) % 8) = 1 := by omega
  have ht : typeOf n = typeOf 1 := by unfold typeOf; rw [h]
  rw [ht]
  clear ht h
  go_enter Try.func20, Try.ntmps20
  go_wp2
  refine bodyPost_ret (v := .agg #[.int .i64 1, .string ⟨#[97]⟩, .slice none 0 0, .slice none 0 0, .bool false]) (by simp [results, Try.results20, go_sem]) rfl ?_
  refine ⟨_, rfl, ?_, ?_⟩
  · exact tyA_V _ _
  · repeat (first | exact Below.refl _ _ | refine Below.alloc ?_ (by simp <;> omega) _ | refine Below.setCell ?_ (by simp <;> omega) _)

set_option maxRecDepth 100000 in
set_option maxHeartbeats 1000000 in
theorem typeOf_2 (n : Nat) (w : World) (h : n % 8 = 2) :
    Calls Try.prog 20 #[.int .u8 n] w fun e w' => ∃ v, e = .returned v ∧ TyV w' (New w w') (typeOf n) v ∧ Below w.heap.size w w' := by
  have h1 : ((n : Int) % 8) = 2 := by omega
  have ht : typeOf n = typeOf 2 := by unfold typeOf; rw [h]
  rw [ht]
  clear ht h
  go_enter Try.func20, Try.ntmps20
  go_wp2
  refine bodyPost_ret (v := .agg #[.int .i64 2, .string ⟨#[45, 62]⟩, .slice (some ⟨w.heap.size + 1 + 1 + 1, 0, none⟩) 2 2, .slice none 0 0, .bool false]) (by simp [results, Try.results20, go_sem]) rfl ?_
  refine ⟨_, rfl, ?_, ?_⟩
  · unfold typeOf TyV; exact ⟨_, 2, none, 0, rfl, by decide, Nat.le_refl _, by decide, Nat.le_refl _, by decide, tys_two _ _ _ (by refine ⟨?_, ?_⟩ <;> (try simp) <;> (try omega)) (by repeat (first | exact heap_at _ _ _ (by simp) | rw [heap_past _ _ _ (by simp <;> omega)])), by unfold StrsO; trivial⟩
  · repeat (first | exact Below.refl _ _ | refine Below.alloc ?_ (by simp <;> omega) _ | refine Below.setCell ?_ (by simp <;> omega) _)

set_option maxRecDepth 100000 in
set_option maxHeartbeats 1000000 in
theorem typeOf_3 (n : Nat) (w : World) (h : n % 8 = 3) :
    Calls Try.prog 20 #[.int .u8 n] w fun e w' => ∃ v, e = .returned v ∧ TyV w' (New w w') (typeOf n) v ∧ Below w.heap.size w w' := by
  have h1 : ((n : Int) % 8) = 3 := by omega
  have ht : typeOf n = typeOf 3 := by unfold typeOf; rw [h]
  rw [ht]
  clear ht h
  go_enter Try.func20, Try.ntmps20
  go_wp2
  refine bodyPost_ret (v := .agg #[.int .i64 3, .string ⟨#[]⟩, .slice (some ⟨w.heap.size + 1 + 1 + 1 + 1, 0, none⟩) 2 2, .slice (some ⟨w.heap.size + 1 + 1 + 1, 0, none⟩) 2 2, .bool false]) (by simp [results, Try.results20, go_sem]) rfl ?_
  refine ⟨_, rfl, ?_, ?_⟩
  · unfold typeOf TyV; exact ⟨_, 2, _, 2, rfl, by decide, Nat.le_refl _, by decide, Nat.le_refl _, by decide, tys_two _ _ _ (by refine ⟨?_, ?_⟩ <;> (try simp) <;> (try omega)) (by repeat (first | exact heap_at _ _ _ (by simp) | rw [heap_past _ _ _ (by simp <;> omega)])), strs_two _ _ _ (by refine ⟨?_, ?_⟩ <;> (try simp) <;> (try omega)) _ _ (by decide) (by decide) _ (by repeat (first | exact heap_at _ _ _ (by simp) | rw [heap_past _ _ _ (by simp <;> omega)]))⟩
  · repeat (first | exact Below.refl _ _ | refine Below.alloc ?_ (by simp <;> omega) _ | refine Below.setCell ?_ (by simp <;> omega) _)

set_option maxRecDepth 100000 in
set_option maxHeartbeats 1000000 in
theorem typeOf_5 (n : Nat) (w : World) (h : n % 8 = 5) :
    Calls Try.prog 20 #[.int .u8 n] w fun e w' => ∃ v, e = .returned v ∧ TyV w' (New w w') (typeOf n) v ∧ Below w.heap.size w w' := by
  have h1 : ((n : Int) % 8) = 5 := by omega
  have ht : typeOf n = typeOf 5 := by unfold typeOf; rw [h]
  rw [ht]
  clear ht h
  go_enter Try.func20, Try.ntmps20
  go_wp2
  refine bodyPost_ret (v := .agg #[.int .i64 3, .string ⟨#[]⟩, .slice (some ⟨w.heap.size + 1 + 1 + 1 + 1, 0, none⟩) 2 2, .slice (some ⟨w.heap.size + 1 + 1 + 1, 0, none⟩) 2 2, .bool false]) (by simp [results, Try.results20, go_sem]) rfl ?_
  refine ⟨_, rfl, ?_, ?_⟩
  · unfold typeOf TyV; exact ⟨_, 2, _, 2, rfl, by decide, Nat.le_refl _, by decide, Nat.le_refl _, by decide, tys_two _ _ _ (by refine ⟨?_, ?_⟩ <;> (try simp) <;> (try omega)) (by repeat (first | exact heap_at _ _ _ (by simp) | rw [heap_past _ _ _ (by simp <;> omega)])), strs_two _ _ _ (by refine ⟨?_, ?_⟩ <;> (try simp) <;> (try omega)) _ _ (by decide) (by decide) _ (by repeat (first | exact heap_at _ _ _ (by simp) | rw [heap_past _ _ _ (by simp <;> omega)]))⟩
  · repeat (first | exact Below.refl _ _ | refine Below.alloc ?_ (by simp <;> omega) _ | refine Below.setCell ?_ (by simp <;> omega) _)

set_option maxRecDepth 100000 in
set_option maxHeartbeats 1000000 in
theorem typeOf_6 (n : Nat) (w : World) (h : n % 8 = 6) :
    Calls Try.prog 20 #[.int .u8 n] w fun e w' => ∃ v, e = .returned v ∧ TyV w' (New w w') (typeOf n) v ∧ Below w.heap.size w w' := by
  have h1 : ((n : Int) % 8) = 6 := by omega
  have ht : typeOf n = typeOf 6 := by unfold typeOf; rw [h]
  rw [ht]
  clear ht h
  go_enter Try.func20, Try.ntmps20
  go_wp2
  refine bodyPost_ret (v := .agg #[.int .i64 2, .string ⟨#[42]⟩, .slice (some ⟨w.heap.size + 1 + 1 + 1, 0, none⟩) 1 1, .slice none 0 0, .bool false]) (by simp [results, Try.results20, go_sem]) rfl ?_
  refine ⟨_, rfl, ?_, ?_⟩
  · unfold typeOf TyV; exact ⟨_, 1, none, 0, rfl, by decide, Nat.le_refl _, by decide, Nat.le_refl _, by decide, tys_int _ _ _ (by refine ⟨?_, ?_⟩ <;> (try simp) <;> (try omega)) (by repeat (first | exact heap_at _ _ _ (by simp) | rw [heap_past _ _ _ (by simp <;> omega)])), by unfold StrsO; trivial⟩
  · repeat (first | exact Below.refl _ _ | refine Below.alloc ?_ (by simp <;> omega) _ | refine Below.setCell ?_ (by simp <;> omega) _)

set_option maxRecDepth 100000 in
set_option maxHeartbeats 1000000 in
theorem typeOf_7 (n : Nat) (w : World) (h : n % 8 = 7) :
    Calls Try.prog 20 #[.int .u8 n] w fun e w' => ∃ v, e = .returned v ∧ TyV w' (New w w') (typeOf n) v ∧ Below w.heap.size w w' := by
  have h1 : ((n : Int) % 8) = 7 := by omega
  have ht : typeOf n = typeOf 7 := by unfold typeOf; rw [h]
  rw [ht]
  clear ht h
  go_enter Try.func20, Try.ntmps20
  go_wp2
  refine bodyPost_ret (v := .agg #[.int .i64 3, .string ⟨#[]⟩, .slice none 0 0, .slice none 0 0, .bool true]) (by simp [results, Try.results20, go_sem]) rfl ?_
  refine ⟨_, rfl, ?_, ?_⟩
  · exact leaf_V _ _ _ _ _ (by decide)
  · repeat (first | exact Below.refl _ _ | refine Below.alloc ?_ (by simp <;> omega) _ | refine Below.setCell ?_ (by simp <;> omega) _)

set_option maxRecDepth 100000 in
set_option maxHeartbeats 1000000 in
theorem typeOf_4 (n : Nat) (w : World) (h : n % 8 = 4) :
    Calls Try.prog 20 #[.int .u8 n] w fun e w' => ∃ v, e = .returned v ∧ TyV w' (New w w') (typeOf n) v ∧ Below w.heap.size w w' := by
  have h1 : ((n : Int) % 8) = 4 := by omega
  have ht : typeOf n = typeOf 4 := by unfold typeOf; rw [h]
  rw [ht]
  clear ht h
  go_enter Try.func20, Try.ntmps20
  go_wp2
  refine bodyPost_ret (v := .agg #[.int .i64 4, .string ⟨#[97]⟩, .slice (some ⟨w.heap.size + 1 + 1 + 1 + 1 + 1, 0, none⟩) 1 1, .slice none 0 0, .bool false]) (by simp [results, Try.results20, go_sem]) rfl ?_
  refine ⟨_, rfl, ?_, ?_⟩
  · unfold typeOf TyV
    refine ⟨_, 1, none, 0, rfl, by decide, Nat.le_refl _, by decide, Nat.le_refl _, by decide, ?_, by unfold StrsO; trivial⟩
    unfold TysO
    refine ⟨_, 0, .agg #[.int .i64 3, .string ⟨#[]⟩, .slice (some ⟨w.heap.size + 1 + 1 + 1 + 1, 0, none⟩) 1 1, .slice (some ⟨w.heap.size + 1 + 1 + 1, 0, none⟩) 1 1, .bool true], rfl, (by refine ⟨?_, ?_⟩ <;> (try simp) <;> (try omega)), cellsAt_of (cs := #[.int .i64 3, .string ⟨#[]⟩, .slice (some ⟨w.heap.size + 1 + 1 + 1 + 1, 0, none⟩) 1 1, .slice (some ⟨w.heap.size + 1 + 1 + 1, 0, none⟩) 1 1, .bool true]) (by repeat (first | exact heap_at _ _ _ (by simp) | rw [heap_past _ _ _ (by simp <;> omega)])) ?_, ?_, by unfold TysO; trivial⟩
    · intro j u hu
      rcases j with _ | _ | _ | _ | _ | j <;> simp_all [Value.cells]
    · unfold TyV
      exact ⟨_, 1, _, 1, rfl, by decide, Nat.le_refl _, by decide, Nat.le_refl _, by decide, tys_a _ _ _ (by refine ⟨?_, ?_⟩ <;> (try simp) <;> (try omega)) (by repeat (first | exact heap_at _ _ _ (by simp) | rw [heap_past _ _ _ (by simp <;> omega)])), strs_one _ _ _ (by refine ⟨?_, ?_⟩ <;> (try simp) <;> (try omega)) _ (by decide) _ (by repeat (first | exact heap_at _ _ _ (by simp) | rw [heap_past _ _ _ (by simp <;> omega)]))⟩
  · repeat (first | exact Below.refl _ _ | refine Below.alloc ?_ (by simp <;> omega) _ | refine Below.setCell ?_ (by simp <;> omega) _)

theorem typeOf_any (n : Nat) (w : World) :
    Calls Try.prog 20 #[.int .u8 n] w fun e w' => ∃ v, e = .returned v ∧ TyV w' (New w w') (typeOf n) v ∧ Below w.heap.size w w' := by
  have h : n % 8 < 8 := Nat.mod_lt _ (by omega)
  rcases (by omega : n % 8 = 0 ∨ n % 8 = 1 ∨ n % 8 = 2 ∨ n % 8 = 3 ∨ n % 8 = 4 ∨ n % 8 = 5 ∨ n % 8 = 6 ∨ n % 8 = 7) with h | h | h | h | h | h | h | h
  · exact typeOf_0 n w h
  · exact typeOf_1 n w h
  · exact typeOf_2 n w h
  · exact typeOf_3 n w h
  · exact typeOf_4 n w h
  · exact typeOf_5 n w h
  · exact typeOf_6 n w h
  · exact typeOf_7 n w h

end Go.Proofs.Ythgbldkcgfggfaa

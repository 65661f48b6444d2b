/-
  The parts that a law is handed, as they lie in memory, and trefoillaw02.great.
-/
import Derived.Test.YthgbldkcgfggfaaTypeOf
namespace Go.Proofs.Ythgbldkcgfggfaa
open Go.RowKit

structure Part where
  k : Nat
  s : ByteArray
  n : Int
  a : Nat
  t : Nat

def PtsO (w : World) (S : Nat → Prop) : List Part → Option Addr → Prop
  | [], _ => True
  | p :: r, A => ∃ b o, A = some ⟨b, o, none⟩ ∧ S b ∧ w.cell? ⟨b, o, none⟩ = some (.int .u8 p.k) ∧ w.cell? ⟨b, o + 1, none⟩ = some (.string p.s) ∧ w.cell? ⟨b, o + 2, none⟩ = some (.int .i64 p.n) ∧
      w.cell? ⟨b, o + 3, none⟩ = some (.int .u8 p.a) ∧ w.cell? ⟨b, o + 4, none⟩ = some (.int .u8 p.t) ∧ (p.k < 256 ∧ p.a < 256 ∧ p.t < 256 ∧ p.s.size ≤ maxLen) ∧ PtsO w S r (some ⟨b, o + 5, none⟩)

theorem PtsO.keep {w w' : World} {S S' : Nat → Prop} (hS : ∀ k, S k → S' k ∧ w'.heap[k]? = w.heap[k]?) : ∀ (l : List Part) (A : Option Addr), PtsO w S l A → PtsO w' S' l A
  | [], _, _ => trivial
  | _ :: r, _, ⟨b, o, hA, hb, h0, h1, h2, h3, h4, h5, hr⟩ =>
    ⟨b, o, hA, (hS b hb).1, (World.cell?_of_block (a := ⟨b, _, none⟩) (hS b hb).2).trans h0, (World.cell?_of_block (a := ⟨b, _, none⟩) (hS b hb).2).trans h1, (World.cell?_of_block (a := ⟨b, _, none⟩) (hS b hb).2).trans h2,
      (World.cell?_of_block (a := ⟨b, _, none⟩) (hS b hb).2).trans h3, (World.cell?_of_block (a := ⟨b, _, none⟩) (hS b hb).2).trans h4, h5, PtsO.keep hS r _ hr⟩

theorem PtsO.get {w : World} {S : Nat → Prop} : ∀ (l : List Part) (A : Option Addr), PtsO w S l A → ∀ i (hi : i < l.length), ∃ b o, A = some ⟨b, o, none⟩ ∧ S b ∧ w.cell? ⟨b, o + i * 5, none⟩ = some (.int .u8 l[i].k) ∧ w.cell? ⟨b, o + i * 5 + 1, none⟩ = some (.string l[i].s) ∧ w.cell? ⟨b, o + i * 5 + 2, none⟩ = some (.int .i64 l[i].n) ∧
      w.cell? ⟨b, o + i * 5 + 3, none⟩ = some (.int .u8 l[i].a) ∧ w.cell? ⟨b, o + i * 5 + 4, none⟩ = some (.int .u8 l[i].t) ∧ (l[i].k < 256 ∧ l[i].a < 256 ∧ l[i].t < 256 ∧ l[i].s.size ≤ maxLen)
  | p :: r, A, ⟨b, o, hA, hb, h0, h1, h2, h3, h4, h5, hr⟩, i, hi => by
    refine ⟨b, o, hA, hb, ?_⟩
    cases i with
    | zero => simp only [Nat.zero_mul, Nat.add_zero, List.getElem_cons_zero]; exact ⟨h0, h1, h2, h3, h4, h5⟩
    | succ j =>
      obtain ⟨b', o', e, _, g⟩ := PtsO.get r _ hr j (by simpa using hi)
      simp only [Option.some.injEq, Addr.mk.injEq, and_true] at e
      obtain ⟨rfl, rfl⟩ := e
      have : o + 5 + j * 5 = o + (j + 1) * 5 := by omega
      rw [this] at g
      exact g

def bulk (l : List Part) : Nat := (l.map fun p => min p.s.size 10000).sum
theorem bulk_snoc (l : List Part) (k : Nat) (hk : k < l.length) : bulk (l.take (k + 1)) = bulk (l.take k) + min l[k].s.size 10000 := by
  unfold bulk
  rw [List.take_succ_eq_append_getElem hk, List.map_append, List.sum_append]
  simp only [List.map_cons, List.map_nil, List.sum_cons, List.sum_nil, Nat.add_zero]
theorem bulk_le (l : List Part) : bulk l ≤ 10000 * l.length := by
  unfold bulk
  induction l with
  | nil => simp
  | cons a r ih => simp only [List.map_cons, List.sum_cons, List.length_cons]; omega
theorem bulk_take_le (l : List Part) (k : Nat) (hk : k ≤ l.length) : bulk (l.take k) ≤ 10000 * k := by
  have := bulk_le (l.take k)
  rw [List.length_take, Nat.min_eq_left hk] at this
  exact this

def greatB (l : List Part) : Bool := decide (150 < l.length) || decide (5000 < bulk l)

set_option maxRecDepth 100000 in
set_option maxHeartbeats 1000000 in
theorem great_r (w : World) (S : Nat → Prop) (l : List Part) (A : Option Addr) (c : Nat) (r : Bool) (hS : ∀ k, S k → k < w.heap.size) (hl : PtsO w S l A) (hlc : l.length ≤ c) (hc : c ≤ 10000000000000) (hr : greatB l = r) :
    Calls Try.prog 10 #[.slice A l.length c] w fun e w' => e = .returned (.bool r) ∧ Below w.heap.size w w' := by
  have HR := Lib.hid hr
  have HL := Lib.hid hl
  clear hr hl
  go_enter Try.func10, Try.ntmps10
  go_wp2
  go_loopw [3, 5, 8] (fun s _ i wr => ∃ k : Nat, s = .int .i64 (bulk (l.take k)) ∧ i = .int .i64 k ∧ k ≤ l.length ∧ Below w.heap.size w wr) (fun _ _ i _ => l.length - (intOf i).toNat)
  case atStart => exact ⟨0, rfl, rfl, Nat.zero_le _, Below.refl _ _⟩
  case round =>
    obtain ⟨k, rfl, rfl, hk, hb⟩ := hrel
    have HB := Lib.hid hb
    clear hb
    obtain ⟨q, hq⟩ : ∃ q, q = bulk (l.take k) := ⟨_, rfl⟩
    have hq1 : q ≤ 10000 * k := by rw [hq]; exact bulk_take_le l k hk
    rw [← hq]
    have Hq := Lib.hid hq
    clear hq
    by_cases hlt : k < l.length
    · obtain ⟨b, o, rfl, hsb, f0, f1, f2, f3, f4, g1, g2, g3, g4⟩ := PtsO.get _ _ (PtsO.keep (fun k hk => ⟨hk, HB.out.block k (hS k hk)⟩) _ _ HL.out) k hlt
      have hsn := bulk_snoc l k hlt
      obtain ⟨p, hp⟩ : ∃ p, p = l[k] := ⟨_, rfl⟩
      rw [← hp] at f0 f1 f2 f3 f4 g4 hsn
      rw [← Hq.out] at hsn
      have Hsn := Lib.hid hsn
      unfold maxLen at g4
      clear hp hsn g1 g2 g3
      go_wp2
      all_goals
        go_roundw
        case rel => exact ⟨k + 1, by rw [Hsn.out]; go_num, by go_num, by omega, (HB.out.alloc HB.out.size _)⟩
        case measure => simp [intOf]; omega
    · have hk' : k = l.length := by omega
      have hfin : bulk l = q := by rw [Hq.out, hk', List.take_length]
      by_cases h1 : 150 < l.length
      · have hrr : true = r := by rw [← HR.out]; simp [greatB, h1]
        subst hrr
        clear hk' hfin
        go_wp2
        go_ret
        exact ⟨rfl, HB.out⟩
      · by_cases h2 : 5000 < q
        · have hrr : true = r := by rw [← HR.out]; simp [greatB, hfin, h2]
          subst hrr
          clear hk' hfin
          go_wp2
          go_ret
          exact ⟨ret_bool (by simp; omega), HB.out⟩
        · have hrr : false = r := by rw [← HR.out]; simp [greatB, hfin, h1, h2]
          subst hrr
          clear hk' hfin
          go_wp2
          go_ret
          exact ⟨ret_bool (by simp; omega), HB.out⟩

end Go.Proofs.Ythgbldkcgfggfaa

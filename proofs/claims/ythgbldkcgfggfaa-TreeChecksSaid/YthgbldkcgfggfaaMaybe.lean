/-
  The small functions that Check leans on: each takes a field off, and says whether it was as it should be.
-/
import Derived.Test.YthgbldkcgfggfaaValue
namespace Go.Proofs.Ythgbldkcgfggfaa
open Go.RowKit

/-- Leaving blocks, one level at a time. -/
theorem then_exit {K : Act → World → Prop} {Q : Exit → Act → World → Prop} {n : Nat} {a : Act} {w : World} (h : Q (.exit n) a w) : Exit.then K Q (.exit n) a w := h
theorem then_normal {K : Act → World → Prop} {Q : Exit → Act → World → Prop} {a : Act} {w : World} (h : K a w) : Exit.then K Q .normal a w := h
theorem then_ret {K : Act → World → Prop} {Q : Exit → Act → World → Prop} {a : Act} {w : World} (h : Q .ret a w) : Exit.then K Q .ret a w := h
theorem leave_ne {Q : Exit → Act → World → Prop} {m n : Nat} {a : Act} {w : World} (hn : n ≠ m) (h : Q (.exit n) a w) : Exit.inBlock m Q (.exit n) a w := by
  show (if n = m then _ else _)
  rw [if_neg hn]; exact h
theorem leave_eq {Q : Exit → Act → World → Prop} {m : Nat} {a : Act} {w : World} (h : Q .normal a w) : Exit.inBlock m Q (.exit m) a w := by
  show (if m = m then _ else _)
  rw [if_pos rfl]; exact h
theorem leave_normal {Q : Exit → Act → World → Prop} {m : Nat} {a : Act} {w : World} (h : Q .normal a w) : Exit.inBlock m Q .normal a w := h
theorem leave_ret {Q : Exit → Act → World → Prop} {m : Nat} {a : Act} {w : World} (h : Q .ret a w) : Exit.inBlock m Q .ret a w := h

set_option maxHeartbeats 400000 in
theorem takeE_r (b o m k : Nat) (A : Option Addr) (c : Nat) (r : Bool) (w : World) (hc : w.cell? ⟨b, o, none⟩ = some (.slice A m c)) (hf : w.frozen? ⟨b, o, none⟩ = false) (hr : decide (m = k) = r) :
    Calls Try.prog 49 #[.pointer (some ⟨b, o, none⟩), .int .i64 k] w fun e w' => e = .returned (.bool r) ∧ w.setCell ⟨b, o, none⟩ (.slice none 0 0) = w' := by
  have h : ((m : Int) == (k : Int)) = r := by rw [← hr]; by_cases e : m = k <;> simp [e]; omega
  clear hr
  cases r <;>
  · go_enter Try.func49, Try.ntmps49
    go_wp2
    go_ret
    exact ⟨rfl, rfl⟩

set_option maxHeartbeats 400000 in
theorem takeT_r (b o m k : Nat) (A : Option Addr) (c : Nat) (r : Bool) (w : World) (hc : w.cell? ⟨b, o, none⟩ = some (.slice A m c)) (hf : w.frozen? ⟨b, o, none⟩ = false) (hr : decide (m = k) = r) :
    Calls Try.prog 52 #[.pointer (some ⟨b, o, none⟩), .int .i64 k] w fun e w' => e = .returned (.bool r) ∧ w.setCell ⟨b, o, none⟩ (.slice none 0 0) = w' := by
  have h : ((m : Int) == (k : Int)) = r := by rw [← hr]; by_cases e : m = k <;> simp [e]; omega
  clear hr
  cases r <;>
  · go_enter Try.func52, Try.ntmps52
    go_wp2
    go_ret
    exact ⟨rfl, rfl⟩

set_option maxHeartbeats 400000 in
theorem takeName_r (b o : Nat) (s : ByteArray) (r : Bool) (w : World) (hc : w.cell? ⟨b, o, none⟩ = some (.string s)) (hf : w.frozen? ⟨b, o, none⟩ = false) (hr : Pl.nameB s.data.toList = r) (hs : s.size ≤ maxLen) :
    Calls Try.prog 48 #[.pointer (some ⟨b, o, none⟩)] w fun e w' => e = .returned (.bool r) ∧ w.setCell ⟨b, o, none⟩ (.string ⟨#[]⟩) = w' := by
  have HR := Lib.hid hr
  clear hr
  go_enter Try.func48, Try.ntmps48
  go_wp2_with (go_at_call 66; refine (isName_r s r HR.out _ hs).mono ?_; rintro e w' ⟨rfl, rfl⟩)
  go_ret
  exact ⟨rfl, rfl⟩

set_option maxHeartbeats 400000 in
theorem takeWord_r (b o : Nat) (s : ByteArray) (r : Bool) (w : World) (hc : w.cell? ⟨b, o, none⟩ = some (.string s)) (hf : w.frozen? ⟨b, o, none⟩ = false) (hr : (Pl.nameB s.data.toList || Pl.keyB s.data.toList) = r) (hs : s.size ≤ maxLen) :
    Calls Try.prog 68 #[.pointer (some ⟨b, o, none⟩)] w fun e w' => e = .returned (.bool r) ∧ w.setCell ⟨b, o, none⟩ (.string ⟨#[]⟩) = w' := by
  rcases hn : Pl.nameB s.data.toList with _ | _
  · rw [hn, Bool.false_or] at hr
    have HN := Lib.hid hn
    have HR := Lib.hid hr
    clear hr hn
    go_enter Try.func68, Try.ntmps68
    go_wp2_with (first | (go_at_call 66; refine (isName_r s _ HN.out _ hs).mono ?_; rintro e w' ⟨rfl, rfl⟩) | (go_at_call 74; refine (isKey_r s _ HR.out _).mono ?_; rintro e w' ⟨rfl, rfl⟩))
    go_ret
    exact ⟨rfl, rfl⟩
  · have hr' : true = r := by rw [← hr, hn]; rfl
    subst hr'
    have HN := Lib.hid hn
    clear hr hn
    go_enter Try.func68, Try.ntmps68
    go_wp2_with (go_at_call 66; refine (isName_r s _ HN.out _ hs).mono ?_; rintro e w' ⟨rfl, rfl⟩)
    go_ret
    exact ⟨rfl, rfl⟩

def opB (l : List UInt8) : Bool := [[43], [45], [42], [47], [61], [60]].contains l

set_option maxHeartbeats 1000000 in
theorem takeOp_r (b o : Nat) (s : ByteArray) (r : Bool) (w : World) (hc : w.cell? ⟨b, o, none⟩ = some (.string s)) (hf : w.frozen? ⟨b, o, none⟩ = false) (hr : opB s.data.toList = r) :
    Calls Try.prog 50 #[.pointer (some ⟨b, o, none⟩)] w fun e w' => e = .returned (.bool r) ∧ w.setCell ⟨b, o, none⟩ (.string ⟨#[]⟩) = w' := by
  rw [← Lib.toList_data] at hr
  have HR := Lib.hid hr
  clear hr
  go_enter Try.func50, Try.ntmps50
  go_wp2
  all_goals go_ret
  all_goals refine ⟨ret_bool ?_, rfl⟩
  all_goals rw [← HR.out]
  all_goals clear HR
  all_goals go_light
  all_goals simp_all [opB]

def argsOfB (l : List UInt8) : Option Nat :=
  if l = [105, 110, 116] ∨ l = [98, 111, 111, 108] ∨ l = [115, 116, 114, 105, 110, 103] ∨ l = [117, 110, 105, 116] then some 0
  else if l = [45, 62] ∨ l = [42] then some 2 else none

set_option maxHeartbeats 1000000 in
theorem argsOf_r (s : ByteArray) (r : Option Nat) (w : World) (hr : argsOfB s.data.toList = r) :
    Calls Try.prog 69 #[.string s] w fun e w' => e = .returned (.tuple #[.int .i64 (r.getD 0 : Nat), .bool r.isSome]) ∧ w = w' := by
  rw [← Lib.toList_data] at hr
  have HR := Lib.hid hr
  clear hr
  go_enter Try.func69, Try.ntmps69
  go_wp2
  all_goals go_ret2
  all_goals refine ⟨?_, rfl⟩
  all_goals rw [← HR.out]
  all_goals clear HR
  all_goals go_light
  all_goals simp_all [argsOfB]

/-- Whether the first one is a function. -/
def begins : List Ex → Bool
  | [] => false
  | e :: _ => decide (e.kind = 6)

set_option maxHeartbeats 400000 in
theorem beginsWithFun_r (w : World) (S : Nat → Prop) (l : List Ex) (A : Option Addr) (c : Nat) (r : Bool) (he : ExsO w S l A) (hlc : l.length ≤ c) (hr : begins l = r) :
    Calls Try.prog 47 #[.slice A l.length c] w fun e w' => e = .returned (.bool r) ∧ w = w' := by
  cases l with
  | nil =>
    subst hr
    go_enter Try.func47, Try.ntmps47
    go_wp2
    go_ret
    exact ⟨rfl, rfl⟩
  | cons e0 l =>
    obtain ⟨b, o, rfl, hp⟩ := ExsO.get _ _ he 0 (by simp)
    obtain ⟨xA, yA, xN, yN, xT, yT, xM, yM, f0, _⟩ := hp.fields
    simp only [Nat.zero_mul, Nat.add_zero, List.getElem_cons_zero] at f0
    obtain ⟨kk, hkk⟩ : ∃ kk, kk = e0.kind := ⟨_, rfl⟩
    simp only [begins] at hr
    rw [← hkk] at f0 hr
    have hb : (kk == 6) = r := by rw [← hr]; by_cases e : kk = 6 <;> simp [e]
    have hpos : 0 < (e0 :: l).length := by simp
    obtain ⟨n, hn⟩ : ∃ n, n = (e0 :: l).length := ⟨_, rfl⟩
    rw [← hn] at hpos hlc ⊢
    clear hkk hn hp hr he
    cases r <;>
    · go_enter Try.func47, Try.ntmps47
      go_wp2
      go_ret
      exact ⟨rfl, rfl⟩

def namesB (l : List ByteArray) : Bool := l.all fun s => Pl.nameB s.data.toList

theorem namesB_drop (l : List ByteArray) (k : Nat) (hk : k < l.length) : namesB (l.drop k) = (Pl.nameB l[k].data.toList && namesB (l.drop (k + 1))) := by
  rw [List.drop_eq_getElem_cons hk]; rfl

set_option maxHeartbeats 400000 in
theorem takeNames_r (b o : Nat) (l : List ByteArray) (A : Option Addr) (c : Nat) (S : Nat → Prop) (r : Bool) (w : World) (hc : w.cell? ⟨b, o, none⟩ = some (.slice A l.length c)) (hf : w.frozen? ⟨b, o, none⟩ = false)
    (hl : StrsO w S l A) (hlc : l.length ≤ c) (hcm : c ≤ maxLen) (hr : namesB l = r) :
    Calls Try.prog 51 #[.pointer (some ⟨b, o, none⟩)] w fun e w' => e = .returned (.bool r) ∧ (if r = true then w.setCell ⟨b, o, none⟩ (.slice none 0 0) else w) = w' := by
  unfold maxLen at hcm
  have HR := Lib.hid hr
  have HL := Lib.hid hl
  clear hr hl
  go_enter Try.func51, Try.ntmps51
  go_wp2
  go_loop [4, 9] (fun _ i => ∃ k : Nat, i = .int .i64 k ∧ k ≤ l.length ∧ namesB (l.drop k) = r) (fun _ i => l.length - (intOf i).toNat)
  case atStart => exact ⟨0, rfl, Nat.zero_le _, by simpa using HR.out⟩
  case round =>
    obtain ⟨k, rfl, hk, hq⟩ := hrel
    have Hq := Lib.hid hq
    clear hq
    by_cases hlt : k < l.length
    · obtain ⟨bl, ol, rfl, _, hcell, hsz⟩ := StrsO.get _ _ HL.out k hlt
      have hd := namesB_drop l k hlt
      rw [Hq.out] at hd
      obtain ⟨s, hs⟩ : ∃ s, s = l[k] := ⟨_, rfl⟩
      rw [← hs] at hcell hsz hd
      rcases hn : Pl.nameB s.data.toList with _ | _
      · have hrr : false = r := by rw [hd, hn]; rfl
        subst hrr
        have HN := Lib.hid hn
        clear hn hd hs
        go_wp2_with (go_at_call 66; refine (isName_r s _ HN.out _ hsz).mono ?_; rintro e w' ⟨rfl, rfl⟩)
        go_ret
        exact ⟨rfl, rfl⟩
      · rw [hn, Bool.true_and] at hd
        have HN := Lib.hid hn
        have HD := Lib.hid hd
        clear hn hd hs
        go_wp2_with (go_at_call 66; refine (isName_r s _ HN.out _ hsz).mono ?_; rintro e w' ⟨rfl, rfl⟩)
        go_round
        case rel => exact ⟨k + 1, by go_num, by omega, HD.out.symm⟩
        case measure => simp [intOf]; omega
    · have hk' : k = l.length := by omega
      have hrr : true = r := by rw [← Hq.out, hk', List.drop_length]; rfl
      subst hrr
      clear hk'
      go_wp2
      go_ret
      exact ⟨rfl, rfl⟩

def risesB : List ByteArray → Bool
  | a :: b :: r => Op.bytesLess a.toList b.toList && risesB (b :: r)
  | _ => true

theorem risesB_drop (l : List ByteArray) (k : Nat) (hk : k + 1 < l.length) : risesB (l.drop k) = (Op.bytesLess l[k].toList l[k + 1].toList && risesB (l.drop (k + 1))) := by
  rw [List.drop_eq_getElem_cons (by omega), List.drop_eq_getElem_cons hk]
  rfl
theorem risesB_end (l : List ByteArray) (k : Nat) (hk : l.length ≤ k + 1) : risesB (l.drop k) = true := by
  rcases h : l.drop k with _ | ⟨a, r⟩
  · rfl
  · have : (l.drop k).length ≤ 1 := by simp; omega
    rw [h] at this
    have : r = [] := by cases r; rfl; simp at this
    subst this; rfl

set_option maxHeartbeats 400000 in
theorem rise_r (l : List ByteArray) (A : Option Addr) (c : Nat) (S : Nat → Prop) (r : Bool) (w : World) (hl : StrsO w S l A) (hlc : l.length ≤ c) (hcm : c ≤ maxLen) (hr : risesB l = r) :
    Calls Try.prog 70 #[.slice A l.length c] w fun e w' => e = .returned (.bool r) ∧ ∃ n, w' = w.drewN n := by
  unfold maxLen at hcm
  have HR := Lib.hid hr
  have HL := Lib.hid hl
  clear hr hl
  go_enter Try.func70, Try.ntmps70
  go_wp2
  go_loopw [3] (fun i wr => ∃ k n : Nat, i = .int .i64 (k + 1) ∧ k ≤ l.length ∧ risesB (l.drop k) = r ∧ wr = w.drewN n) (fun i _ => l.length + 1 - (intOf i).toNat)
  case atStart => exact ⟨0, 0, rfl, Nat.zero_le _, by simpa using HR.out, rfl⟩
  case round =>
    obtain ⟨k, n, rfl, hk, hq, rfl⟩ := hrel
    have Hq := Lib.hid hq
    clear hq
    by_cases hlt : k + 1 < l.length
    · obtain ⟨bl, ol, rfl, _, hcell, hsz⟩ := StrsO.get _ _ HL.out k (by omega)
      obtain ⟨bl', ol', e', _, hcell', hsz'⟩ := StrsO.get _ _ HL.out (k + 1) hlt
      simp only [Option.some.injEq, Addr.mk.injEq, and_true] at e'
      obtain ⟨rfl, rfl⟩ := e'
      have hd := risesB_drop l k hlt
      rw [Hq.out] at hd
      obtain ⟨s, hs⟩ : ∃ s, s = l[k] := ⟨_, rfl⟩
      obtain ⟨t, ht⟩ : ∃ t, t = l[k + 1] := ⟨_, rfl⟩
      rw [← hs] at hcell hsz hd
      rw [← ht] at hcell' hsz' hd
      have hi1 : (k : Int) + 1 < l.length := by omega
      rcases hn : Op.bytesLess s.toList t.toList with _ | _
      · have hrr : false = r := by rw [hd, hn]; rfl
        subst hrr
        clear hd hs ht
        go_wp2
        go_quiet (fail)
        go_wp2
        go_ret
        exact ⟨rfl, n + nq, World.drewN_drewN ..⟩
      · rw [hn, Bool.true_and] at hd
        have HD := Lib.hid hd
        clear hd hs ht
        go_wp2
        go_quiet (fail)
        go_wp2
        go_roundw
        case rel => exact ⟨k + 1, n + nq, by go_num, by omega, HD.out.symm, rfl⟩
        case measure => simp [intOf]; omega
    · have hrr : true = r := by rw [← Hq.out]; exact (risesB_end l k (by omega)).symm
      subst hrr
      go_wp2
      go_ret
      exact ⟨rfl, _, rfl⟩

def leftB (s : ByteArray) (n : Int) (a nn t m : Nat) : Bool := decide (s.size = 0) && (decide (n = 0) && (decide (a = 0) && (decide (nn = 0) && (decide (t = 0) && decide (m = 0)))))

set_option maxRecDepth 100000 in
set_option maxHeartbeats 1000000 in
theorem nothingLeft_r (k n : Int) (s : ByteArray) (a nn t m cA cN cT cM : Nat) (aA aN aT aM : Option Addr) (r : Bool) (w : World) (hr : leftB s n a nn t m = r) :
    Calls Try.prog 53 #[.agg #[.int .i64 k, .string s, .int .i64 n, .slice aA a cA, .slice aN nn cN, .slice aT t cT, .slice aM m cM]] w fun e w' => e = .returned (.bool r) ∧ Below w.heap.size w w' := by
  by_cases hs : s.size = 0
  rotate_left
  · have es : s.toList.isEmpty = false := toList_isEmpty s (by omega)
    have hr' : false = r := by rw [← hr]; simp [leftB, hs]
    subst hr'
    clear hr hs
    go_enter Try.func53, Try.ntmps53
    go_wp2
    go_ret
    exact ⟨rfl, (Below.refl _ _).alloc (Nat.le_refl _) _⟩
  have es : s.toList = [] := toList_nil s hs
  by_cases hn : n = 0
  rotate_left
  · have en : (n == 0) = false := by rw [beq_eq_false_iff_ne]; exact hn
    have hr' : false = r := by rw [← hr]; simp [leftB, hs, hn]
    subst hr'
    clear hr hs hn
    go_enter Try.func53, Try.ntmps53
    go_wp2
    go_ret
    exact ⟨rfl, (Below.refl _ _).alloc (Nat.le_refl _) _⟩
  have en : (n == 0) = true := by rw [beq_iff_eq]; exact hn
  by_cases ha : a = 0
  rotate_left
  · have ea : ((a : Int) == 0) = false := by rw [beq_eq_false_iff_ne]; omega
    have hr' : false = r := by rw [← hr]; simp [leftB, hs, hn, ha]
    subst hr'
    clear hr hs hn ha
    go_enter Try.func53, Try.ntmps53
    go_wp2
    go_ret
    exact ⟨rfl, (Below.refl _ _).alloc (Nat.le_refl _) _⟩
  have ea : ((a : Int) == 0) = true := by rw [beq_iff_eq]; omega
  by_cases hnn : nn = 0
  rotate_left
  · have enn : ((nn : Int) == 0) = false := by rw [beq_eq_false_iff_ne]; omega
    have hr' : false = r := by rw [← hr]; simp [leftB, hs, hn, ha, hnn]
    subst hr'
    clear hr hs hn ha hnn
    go_enter Try.func53, Try.ntmps53
    go_wp2
    go_ret
    exact ⟨rfl, (Below.refl _ _).alloc (Nat.le_refl _) _⟩
  have enn : ((nn : Int) == 0) = true := by rw [beq_iff_eq]; omega
  by_cases ht : t = 0
  rotate_left
  · have et : ((t : Int) == 0) = false := by rw [beq_eq_false_iff_ne]; omega
    have hr' : false = r := by rw [← hr]; simp [leftB, hs, hn, ha, hnn, ht]
    subst hr'
    clear hr hs hn ha hnn ht
    go_enter Try.func53, Try.ntmps53
    go_wp2
    go_ret
    exact ⟨rfl, (Below.refl _ _).alloc (Nat.le_refl _) _⟩
  have et : ((t : Int) == 0) = true := by rw [beq_iff_eq]; omega
  by_cases hm : m = 0
  rotate_left
  · have em : ((m : Int) == 0) = false := by rw [beq_eq_false_iff_ne]; omega
    have hr' : false = r := by rw [← hr]; simp [leftB, hs, hn, ha, hnn, ht, hm]
    subst hr'
    clear hr hs hn ha hnn ht hm
    go_enter Try.func53, Try.ntmps53
    go_wp2
    go_ret
    exact ⟨rfl, (Below.refl _ _).alloc (Nat.le_refl _) _⟩
  have em : ((m : Int) == 0) = true := by rw [beq_iff_eq]; omega
  have hr' : true = r := by rw [← hr]; simp [leftB, hs, hn, ha, hnn, ht, hm]
  subst hr'
  clear hr hs hn ha hnn ht hm
  go_enter Try.func53, Try.ntmps53
  go_wp2
  go_ret
  exact ⟨rfl, (Below.refl _ _).alloc (Nat.le_refl _) _⟩

end Go.Proofs.Ythgbldkcgfggfaa

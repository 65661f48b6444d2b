/-
  lex.isDigit, isWordStart, isWordPart, wordSize, IsKey, isWord, IsName (made of Byte, over GByte).
-/
import Derived.Test.YtnhdgndjpkdhdaaGByte
namespace Go.Proofs.Ytnhdgndjpkdhdaa
open Go.RowKit

set_option maxHeartbeats 400000 in
theorem isDigit_any (c : UInt8) (w : World) :
    Calls Try.prog 99 #[.int .u8 c.toNat] w fun e w' => e = .returned (.bool (Pl.digitB c)) ∧ w = w' := by
  unfold Pl.digitB
  by_cases h1 : (48 : Int) ≤ (c.toNat : Int) <;> by_cases h2 : (c.toNat : Int) ≤ 57 <;>
  · go_enter Try.func99, Try.ntmps99
    go_wp2
    go_ret
    exact ⟨by simp [h1, h2], rfl⟩

set_option maxHeartbeats 400000 in
theorem isWordStart_any (c : UInt8) (w : World) :
    Calls Try.prog 97 #[.int .u8 c.toNat] w fun e w' => e = .returned (.bool (Pl.smallB c)) ∧ w = w' := by
  unfold Pl.smallB
  by_cases h1 : (97 : Int) ≤ (c.toNat : Int) <;> by_cases h2 : (c.toNat : Int) ≤ 122 <;> by_cases h3 : (c.toNat : Int) = 95 <;>
  · have h4 : ((c.toNat : Int) == 95) = decide ((c.toNat : Int) = 95) := by simp [h3]
    simp only [h3, decide_true, decide_false] at h4
    go_enter Try.func97, Try.ntmps97
    go_wp2
    go_ret
    exact ⟨by simp [h1, h2, h3], rfl⟩

theorem isDigit_b (c : UInt8) (b : Bool) (h : Pl.digitB c = b) (w : World) :
    Calls Try.prog 99 #[.int .u8 c.toNat] w fun e w' => e = .returned (.bool b) ∧ w = w' := by
  subst h; exact isDigit_any c w
theorem isWordStart_b (c : UInt8) (b : Bool) (h : Pl.smallB c = b) (w : World) :
    Calls Try.prog 97 #[.int .u8 c.toNat] w fun e w' => e = .returned (.bool b) ∧ w = w' := by
  subst h; exact isWordStart_any c w

set_option maxHeartbeats 400000 in
theorem isWordPart_any (c : UInt8) (w : World) :
    Calls Try.prog 98 #[.int .u8 c.toNat] w fun e w' => e = .returned (.bool (Pl.partB c)) ∧ w = w' := by
  unfold Pl.partB Pl.upperB
  rcases hs : Pl.smallB c with _ | _
  · have Hs := Lib.hid hs
    clear hs
    rcases hd : Pl.digitB c with _ | _ <;>
    · have Hd := Lib.hid hd
      clear hd
      by_cases h1 : (65 : Int) ≤ (c.toNat : Int) <;> by_cases h2 : (c.toNat : Int) ≤ 90 <;>
      ·
        go_enter Try.func98, Try.ntmps98
        go_wp2_with (first | (go_at_call 97; refine (isWordStart_b c _ Hs.out _).mono ?_; rintro e w' ⟨rfl, rfl⟩) | (go_at_call 99; refine (isDigit_b c _ Hd.out _).mono ?_; rintro e w' ⟨rfl, rfl⟩))
        all_goals go_ret
        all_goals exact ⟨ret_bool (by simp_all), rfl⟩
  · have Hs := Lib.hid hs
    clear hs
    go_enter Try.func98, Try.ntmps98
    go_wp2_with (go_at_call 97; refine (isWordStart_b c _ Hs.out _).mono ?_; rintro e w' ⟨rfl, rfl⟩)
    go_ret
    exact ⟨ret_bool (by simp), rfl⟩

theorem isWordPart_b (c : UInt8) (b : Bool) (h : Pl.partB c = b) (w : World) :
    Calls Try.prog 98 #[.int .u8 c.toNat] w fun e w' => e = .returned (.bool b) ∧ w = w' := by
  subst h; exact isWordPart_any c w

set_option maxHeartbeats 400000 in
theorem wordSize_r (s : ByteArray) (n : Nat) (hn : Pl.wordSize s.data.toList = n) (w : World) (hs : s.size ≤ maxLen) :
    Calls Try.prog 92 #[.string s] w fun e w' => e = .returned (.int .i64 n) ∧ w = w' := by
  unfold maxLen at hs
  rcases Nat.eq_zero_or_pos s.size with h0 | h0
  · have he := toList_nil s h0
    have hw : 0 = n := by rw [← hn, ← Lib.toList_data, he]; rfl
    subst hw
    clear hn h0
    go_enter Try.func92, Try.ntmps92
    go_wp2
    go_ret
    exact ⟨rfl, rfl⟩
  · have he := toList_isEmpty s h0
    rcases hs0 : Pl.smallB s[0] with _ | _
    · have hw := wordSize_of_none s h0 hs0
      rw [hw] at hn
      subst hn
      have Hs := Lib.hid hs0
      clear hs0 hw
      go_enter Try.func92, Try.ntmps92
      go_wp2_with (go_at_call 97; refine (isWordStart_b _ _ Hs.out _).mono ?_; rintro e w' ⟨rfl, rfl⟩)
      go_ret
      exact ⟨rfl, rfl⟩
    · have hw := wordSize_of_some s h0 hs0
      rw [hw] at hn
      have Hn := Lib.hid hn
      have Hs := Lib.hid hs0
      clear hs0 hw hn
      go_enter Try.func92, Try.ntmps92
      go_wp2_with (go_at_call 97; refine (isWordStart_b _ _ Hs.out _).mono ?_; rintro e w' ⟨rfl, rfl⟩)
      go_loop [3] (fun x => ∃ k : Nat, k ≤ s.size ∧ x = .int .i64 k ∧ n = k + ((s.data.toList.drop k).takeWhile Pl.partB).length) (fun x => s.size - (intOf x).toNat)
      case atStart => exact ⟨1, by omega, rfl, Hn.out.symm⟩
      case round =>
        obtain ⟨k, hk, rfl, hq⟩ := hrel
        have Hq := Lib.hid hq
        clear hq
        by_cases hlt : k < s.size
        · rcases hp : Pl.partB s[k] with _ | _
          · have ht := take_stop s.data.toList k (by simpa using hlt) hp
            have Ht := Lib.hid ht
            have Hp := Lib.hid hp
            clear ht hp
            go_wp2_with (go_at_call 98; refine (isWordPart_b _ _ Hp.out _).mono ?_; rintro e w' ⟨rfl, rfl⟩)
            go_ret
            exact ⟨ret_int (by rw [Hq.out, Ht.out]; simp), rfl⟩
          · have ht := take_part s.data.toList k (by simpa using hlt) hp
            have Ht := Lib.hid ht
            have Hp := Lib.hid hp
            clear ht hp
            go_wp2_with (go_at_call 98; refine (isWordPart_b _ _ Hp.out _).mono ?_; rintro e w' ⟨rfl, rfl⟩)
            go_round
            case rel => exact ⟨k + 1, by omega, by go_num, by rw [Hq.out, Ht.out]; omega⟩
            case measure => simp [intOf]; omega
        · have hk' : k = s.size := by omega
          have hd : s.data.toList.drop k = [] := List.drop_eq_nil_of_le (by simp [hk'])
          have Hd := Lib.hid hd
          clear hd hk'
          go_wp2
          go_ret
          exact ⟨ret_int (by rw [Hq.out, Hd.out]; simp), rfl⟩

set_option maxHeartbeats 1000000 in
theorem isKey_r (s : ByteArray) (b : Bool) (hb : Pl.keyB s.data.toList = b) (w : World) :
    Calls Try.prog 82 #[.string s] w fun e w' => e = .returned (.bool b) ∧ w = w' := by
  rw [← Lib.toList_data] at hb
  have Hb := Lib.hid hb
  clear hb
  go_enter Try.func82, Try.ntmps82
  go_wp2

  all_goals go_ret
  all_goals refine ⟨ret_bool ?_, rfl⟩
  all_goals rw [← Hb.out]
  all_goals clear Hb
  all_goals go_light
  all_goals simp_all [Pl.keyB, Pl.keys]

set_option maxHeartbeats 400000 in
theorem isWord_r (s : ByteArray) (b : Bool) (hb : Pl.wordB s.data.toList = b) (w : World) (hs : s.size ≤ maxLen) :
    Calls Try.prog 81 #[.string s] w fun e w' => e = .returned (.bool b) ∧ w = w' := by
  have hs' := hs
  unfold maxLen at hs
  have hlen : s.data.toList.length = s.size := by simp
  rcases Nat.eq_zero_or_pos s.size with h0 | h0
  · have he := toList_nil s h0
    have hw : false = b := by rw [← hb, ← Lib.toList_data, he]; rfl
    subst hw
    clear hb hlen
    go_enter Try.func81, Try.ntmps81
    go_wp2
    go_ret
    exact ⟨rfl, rfl⟩
  · have he := toList_isEmpty s h0
    have he' : s.data.toList.isEmpty = false := by rw [← Lib.toList_data]; exact he
    by_cases h1 : s.size ≤ 100
    · obtain ⟨n, hn⟩ : ∃ n, Pl.wordSize s.data.toList = n := ⟨_, rfl⟩
      have hb' : decide (n = s.size) = b := by rw [← hb]; simp [Pl.wordB, hn, he', hlen, h1]
      have Hn := Lib.hid hn
      clear hb hn he' hlen
      have h1' : (s.size : Int) ≤ 100 := by omega
      clear h1
      by_cases h2 : n = s.size
      · have hbb : true = b := by rw [← hb']; simp [h2]
        subst hbb
        clear hb'
        have h3 : ((n : Int) == (s.size : Int)) = true := by simp [h2]
        clear h2
        go_enter Try.func81, Try.ntmps81
        go_wp2_with (go_at_call 92; refine (wordSize_r s n Hn.out _ hs').mono ?_; rintro e w' ⟨rfl, rfl⟩)
        go_ret
        exact ⟨rfl, rfl⟩
      · have hbb : false = b := by rw [← hb']; simp [h2]
        subst hbb
        clear hb'
        have h3 : ((n : Int) == (s.size : Int)) = false := by simp; omega
        clear h2
        go_enter Try.func81, Try.ntmps81
        go_wp2_with (go_at_call 92; refine (wordSize_r s n Hn.out _ hs').mono ?_; rintro e w' ⟨rfl, rfl⟩)
        go_ret
        exact ⟨rfl, rfl⟩
    · have hw : false = b := by rw [← hb]; simp [Pl.wordB, hlen, h1]
      subst hw
      have h1' : ¬ (s.size : Int) ≤ 100 := by omega
      clear hb hlen h1
      go_enter Try.func81, Try.ntmps81
      go_wp2
      go_ret
      exact ⟨rfl, rfl⟩

set_option maxHeartbeats 400000 in
theorem isName_r (s : ByteArray) (b : Bool) (hb : Pl.nameB s.data.toList = b) (w : World) (hs : s.size ≤ maxLen) :
    Calls Try.prog 64 #[.string s] w fun e w' => e = .returned (.bool b) ∧ w = w' := by
  rcases hw : Pl.wordB s.data.toList with _ | _
  · have hbb : false = b := by rw [← hb]; simp [Pl.nameB, hw]
    subst hbb
    have Hw := Lib.hid hw
    clear hb hw
    go_enter Try.func64, Try.ntmps64
    go_wp2_with (go_at_call 81; refine (isWord_r s _ Hw.out _ hs).mono ?_; rintro e w' ⟨rfl, rfl⟩)
    go_ret
    exact ⟨rfl, rfl⟩
  · rcases hk : Pl.keyB s.data.toList with _ | _ <;>
    · have hbb := hb
      simp only [Pl.nameB, hw, hk, Bool.true_and, Bool.not_true, Bool.not_false] at hbb
      subst hbb
      have Hw := Lib.hid hw
      have Hk := Lib.hid hk
      clear hb hw hk
      go_enter Try.func64, Try.ntmps64
      go_wp2_with (first | (go_at_call 81; refine (isWord_r s _ Hw.out _ hs).mono ?_; rintro e w' ⟨rfl, rfl⟩) | (go_at_call 82; refine (isKey_r s _ Hk.out _).mono ?_; rintro e w' ⟨rfl, rfl⟩))
      go_ret
      exact ⟨rfl, rfl⟩

end Go.Proofs.Ytnhdgndjpkdhdaa

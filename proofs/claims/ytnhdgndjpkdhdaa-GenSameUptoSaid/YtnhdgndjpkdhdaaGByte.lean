/-
  trefoilref01.letter, digit, small, word, IsKey, IsName, without any function of the program's own (made of Byte and RByte).
-/
import Derived.Test.YtnhdgndjpkdhdaaRows
import Derived.Test.YtnhdgndjpkdhdaaPlain
import Derived.WalkKit
import Derived.WalkSpells
import Derived.WalkLawsBesides
import Derived.Lib.Hide
import Derived.Deep.QuietTactic
import Derived.BigQuiet
import Derived.Outline
import Derived.Deep.Light
import Derived.Lib.Strings
import Derived.ChangeKeysEq
namespace Go.Proofs.Ytnhdgndjpkdhdaa
open Go.RowKit

theorem ret_int {k : IntKind} {a b : Int} (h : a = b) : Ending.returned (.int k a) = .returned (.int k b) := by rw [h]
theorem ret_bool {a b : Bool} (h : a = b) : Ending.returned (.bool a) = .returned (.bool b) := by rw [h]

/-- The part of a text that goes on from k, and what is left. -/
theorem take_part (l : List UInt8) (k : Nat) (hk : k < l.length) (h : Pl.partB l[k] = true) : ((l.drop k).takeWhile Pl.partB).length = 1 + ((l.drop (k + 1)).takeWhile Pl.partB).length := by
  rw [List.drop_eq_getElem_cons hk, List.takeWhile_cons_of_pos h]
  simp; omega
theorem take_stop (l : List UInt8) (k : Nat) (hk : k < l.length) (h : Pl.partB l[k] = false) : ((l.drop k).takeWhile Pl.partB).length = 0 := by
  rw [List.drop_eq_getElem_cons hk, List.takeWhile_cons_of_neg (by simp [h])]
  rfl

theorem data_cons (s : ByteArray) (h : 0 < s.size) : s.data.toList = s[0] :: s.data.toList.drop 1 := by
  have hl : 0 < s.data.toList.length := by simpa using h
  have := List.drop_eq_getElem_cons (l := s.data.toList) (i := 0) hl
  show s.data.toList = s.data[0] :: _
  simpa using this
theorem wordSize_of_some (s : ByteArray) (h : 0 < s.size) (h1 : Pl.smallB s[0] = true) : Pl.wordSize s.data.toList = 1 + ((s.data.toList.drop 1).takeWhile Pl.partB).length := by
  rw [data_cons s h]
  simp [Pl.wordSize, h1]
theorem wordSize_of_none (s : ByteArray) (h : 0 < s.size) (h1 : Pl.smallB s[0] = false) : Pl.wordSize s.data.toList = 0 := by
  rw [data_cons s h]
  simp [Pl.wordSize, h1]
theorem toList_isEmpty (s : ByteArray) (h0 : 0 < s.size) : s.toList.isEmpty = false := by
  rw [Lib.toList_data]; simp; intro h; simp [ByteArray.size, h] at h0
theorem toList_nil (s : ByteArray) (h0 : s.size = 0) : s.toList = [] := by
  rw [Lib.toList_data, List.eq_nil_iff_length_eq_zero]; simpa using h0

def letterB (c : UInt8) : Bool := Pl.smallB c || Pl.upperB c

set_option maxHeartbeats 400000 in
theorem rdigit_b (c : UInt8) (b : Bool) (h : Pl.digitB c = b) (w : World) :
    Calls Try.prog 95 #[.int .u8 c.toNat] w fun e w' => e = .returned (.bool b) ∧ w = w' := by
  subst h
  unfold Pl.digitB
  by_cases h1 : (48 : Int) ≤ (c.toNat : Int) <;> by_cases h2 : (c.toNat : Int) ≤ 57 <;>
  · go_enter Try.func95, Try.ntmps95
    go_wp2
    go_ret
    exact ⟨by simp [h1, h2], rfl⟩

set_option maxHeartbeats 400000 in
theorem rsmall_b (c : UInt8) (b : Bool) (h : Pl.smallB c = b) (w : World) :
    Calls Try.prog 93 #[.int .u8 c.toNat] w fun e w' => e = .returned (.bool b) ∧ w = w' := by
  subst h
  unfold Pl.smallB
  by_cases h1 : (97 : Int) ≤ (c.toNat : Int) <;> by_cases h2 : (c.toNat : Int) ≤ 122 <;> by_cases h3 : (c.toNat : Int) = 95 <;>
  · have h4 : ((c.toNat : Int) == 95) = decide ((c.toNat : Int) = 95) := by simp [h3]
    simp only [h3, decide_true, decide_false] at h4
    go_enter Try.func93, Try.ntmps93
    go_wp2
    go_ret
    exact ⟨by simp [h1, h2, h3], rfl⟩

set_option maxHeartbeats 400000 in
theorem rletter_b (c : UInt8) (b : Bool) (h : letterB c = b) (w : World) :
    Calls Try.prog 94 #[.int .u8 c.toNat] w fun e w' => e = .returned (.bool b) ∧ w = w' := by
  subst h
  unfold letterB Pl.smallB Pl.upperB
  by_cases h1 : (97 : Int) ≤ (c.toNat : Int) <;> by_cases h2 : (c.toNat : Int) ≤ 122 <;> by_cases h3 : (c.toNat : Int) = 95 <;> by_cases h5 : (65 : Int) ≤ (c.toNat : Int) <;> by_cases h6 : (c.toNat : Int) ≤ 90 <;>
  · have h4 : ((c.toNat : Int) == 95) = decide ((c.toNat : Int) = 95) := by simp [h3]
    simp only [h3, decide_true, decide_false] at h4
    go_enter Try.func94, Try.ntmps94
    go_wp2
    go_ret
    exact ⟨by simp [h1, h2, h3, h5, h6], rfl⟩

theorem partB_eq (c : UInt8) : Pl.partB c = (letterB c || Pl.digitB c) := by simp [Pl.partB, letterB]

set_option maxHeartbeats 400000 in
theorem rword_r (s : ByteArray) (n : Nat) (hn : Pl.wordSize s.data.toList = n) (w : World) (hs : s.size ≤ maxLen) :
    Calls Try.prog 84 #[.string s] w fun e w' => e = .returned (.int .i64 n) ∧ w = w' := by
  unfold maxLen at hs
  rcases Nat.eq_zero_or_pos s.size with h0 | h0
  · have he := toList_nil s h0
    have hw : 0 = n := by rw [← hn, ← Lib.toList_data, he]; rfl
    subst hw
    clear hn he
    have h0' : (s.size : Int) = 0 := by omega
    go_enter Try.func84, Try.ntmps84
    go_wp2
    go_ret
    exact ⟨rfl, rfl⟩
  · have h00 : ((s.size : Int) == 0) = false := by rw [beq_eq_false_iff_ne]; omega
    rcases hs0 : Pl.smallB s[0] with _ | _
    · have hw := wordSize_of_none s h0 hs0
      rw [hw] at hn
      subst hn
      have Hs := Lib.hid hs0
      clear hs0 hw
      go_enter Try.func84, Try.ntmps84
      go_wp2_with (go_at_call 93; refine (rsmall_b _ _ Hs.out _).mono ?_; rintro e w' ⟨rfl, rfl⟩)
      go_ret
      exact ⟨rfl, rfl⟩
    · have hw := wordSize_of_some s h0 hs0
      rw [hw] at hn
      have Hn := Lib.hid hn
      have Hs := Lib.hid hs0
      clear hs0 hw hn
      go_enter Try.func84, Try.ntmps84
      go_wp2_with (go_at_call 93; refine (rsmall_b _ _ Hs.out _).mono ?_; rintro e w' ⟨rfl, rfl⟩)
      go_loop [3] (fun x => ∃ k : Nat, k ≤ s.size ∧ x = .int .i64 k ∧ n = k + ((s.data.toList.drop k).takeWhile Pl.partB).length) (fun x => s.size - (intOf x).toNat)
      case atStart => exact ⟨1, by omega, rfl, Hn.out.symm⟩
      case round =>
        obtain ⟨k, hk, rfl, hq⟩ := hrel
        have Hq := Lib.hid hq
        clear hq
        by_cases hlt : k < s.size
        · rcases hp : Pl.partB s[k] with _ | _
          · have ht := take_stop s.data.toList k (by simpa using hlt) hp
            have hl : letterB s[k] = false := by rw [partB_eq] at hp; revert hp; cases letterB s[k] <;> simp
            have hd : Pl.digitB s[k] = false := by rw [partB_eq] at hp; revert hp; cases Pl.digitB s[k] <;> simp
            have Ht := Lib.hid ht
            have Hl := Lib.hid hl
            have Hd := Lib.hid hd
            clear ht hp hl hd
            go_wp2_with (first | (go_at_call 94; refine (rletter_b _ _ Hl.out _).mono ?_; rintro e w' ⟨rfl, rfl⟩) | (go_at_call 95; refine (rdigit_b _ _ Hd.out _).mono ?_; rintro e w' ⟨rfl, rfl⟩))
            go_ret
            exact ⟨ret_int (by rw [Hq.out, Ht.out]; simp), rfl⟩
          · have ht := take_part s.data.toList k (by simpa using hlt) hp
            have Ht := Lib.hid ht
            rcases hl : letterB s[k] with _ | _
            · have hd : Pl.digitB s[k] = true := by rw [partB_eq, hl] at hp; simpa using hp
              have Hl := Lib.hid hl
              have Hd := Lib.hid hd
              clear ht hp hl hd
              go_wp2_with (first | (go_at_call 94; refine (rletter_b _ _ Hl.out _).mono ?_; rintro e w' ⟨rfl, rfl⟩) | (go_at_call 95; refine (rdigit_b _ _ Hd.out _).mono ?_; rintro e w' ⟨rfl, rfl⟩))
              go_round
              case rel => exact ⟨k + 1, by omega, by go_num, by rw [Hq.out, Ht.out]; omega⟩
              case measure => simp [intOf]; omega
            · have Hl := Lib.hid hl
              clear ht hp hl
              go_wp2_with (go_at_call 94; refine (rletter_b _ _ Hl.out _).mono ?_; rintro e w' ⟨rfl, rfl⟩)
              go_round
              case rel => exact ⟨k + 1, by omega, by go_num, by rw [Hq.out, Ht.out]; omega⟩
              case measure => simp [intOf]; omega
        · have hk' : k = s.size := by omega
          have hd : s.data.toList.drop k = [] := List.drop_eq_nil_of_le (by simp [hk'])
          have Hd := Lib.hid hd
          clear hd hk'
          go_wp2
          go_ret
          exact ⟨ret_int (by rw [Hq.out, Hd.out]; simp), rfl⟩

theorem run_nth (w : World) (i : Int) (k : Nat) (cs : Array Value) (v : Value) (hi : i = k) (hk : k < 19) (hv : cs[k]? = some v) : (Instr.index 115 (.agg cs) (.int .i64 i)).run Try.prog w = .ok v w := by
  have hu : Try.prog.underlying 115 = some (.array 19 9) := by kernel_rfl
  have hp : Try.prog.plainKey 9 = true := by kernel_rfl
  have hc : Try.prog.cellsOf 9 = 1 := by kernel_rfl
  obtain ⟨info, hinfo⟩ : ∃ x, Try.prog.info? 9 = some x := Option.isSome_iff_exists.1 (by kernel_rfl : (Try.prog.info? 9).isSome = true)
  have hr := run_part_plain w hp hv
  subst hi
  have h0 : (0 : Int) ≤ (k : Int) ∧ (k : Int) < 19 := by omega
  simp [Instr.index, asIntOf, run_underlying hu, run_sizeOf w hinfo, hc, hr]
  exact fun h => absurd h (by omega)

def keyTexts : List ByteArray := Pl.keys.map fun l => ⟨l.toArray⟩
def keyCells : Array Value := #[.string ⟨#[97, 110, 100]⟩, .string ⟨#[97, 115]⟩, .string ⟨#[99, 108, 97, 115, 115]⟩, .string ⟨#[101, 108, 115, 101]⟩, .string ⟨#[101, 110, 100]⟩, .string ⟨#[102, 97, 108, 115, 101]⟩, .string ⟨#[102, 117, 110]⟩, .string ⟨#[105, 102]⟩, .string ⟨#[105, 110]⟩, .string ⟨#[105, 110, 104, 101, 114, 105, 116]⟩, .string ⟨#[108, 101, 116]⟩, .string ⟨#[109, 101, 116, 104, 111, 100]⟩, .string ⟨#[110, 101, 119]⟩, .string ⟨#[111, 98, 106, 101, 99, 116]⟩, .string ⟨#[114, 101, 99]⟩, .string ⟨#[116, 104, 101, 110]⟩, .string ⟨#[116, 114, 117, 101]⟩, .string ⟨#[118, 97, 108]⟩, .string ⟨#[118, 105, 114, 116, 117, 97, 108]⟩]
theorem keyCells_at (k : Nat) (hk : k < 19) : ∃ t : ByteArray, keyCells[k]? = some (.string t) ∧ t.toList = Pl.keys[k]'hk := by
  have h19 : k = 0 ∨ k = 1 ∨ k = 2 ∨ k = 3 ∨ k = 4 ∨ k = 5 ∨ k = 6 ∨ k = 7 ∨ k = 8 ∨ k = 9 ∨ k = 10 ∨ k = 11 ∨ k = 12 ∨ k = 13 ∨ k = 14 ∨ k = 15 ∨ k = 16 ∨ k = 17 ∨ k = 18 := by omega
  rcases h19 with rfl | rfl | rfl | rfl | rfl | rfl | rfl | rfl | rfl | rfl | rfl | rfl | rfl | rfl | rfl | rfl | rfl | rfl | rfl <;> exact ⟨_, rfl, by rw [Lib.toList_data]; rfl⟩

set_option maxRecDepth 100000 in
set_option maxHeartbeats 1000000 in
theorem rIsKey_r (s : ByteArray) (b : Bool) (hb : Pl.keyB s.data.toList = b) (w : World) :
    Calls Try.prog 85 #[.string s] w fun e w' => e = .returned (.bool b) ∧ w = w' := by
  rw [← Lib.toList_data] at hb
  have Hb := Lib.hid hb
  clear hb
  go_enter Try.func85, Try.ntmps85
  go_wp2
  obtain ⟨cs, hcs⟩ : ∃ cs, cs = keyCells := ⟨_, rfl⟩
  have HCS := Lib.hid hcs
  change Code.wp _ _ _ ⟨#[.string s, _, _, _, _, .agg keyCells, _, _, _, _, _, _, _], _⟩ _
  rw [← hcs]
  clear hcs
  go_loop [4, 6] (fun _ x => ∃ k : Nat, k ≤ 19 ∧ x = .int .i64 k ∧ (Pl.keys.drop k).contains s.toList = b) (fun _ x => 19 - (intOf x).toNat)
  case atStart => exact ⟨0, by omega, rfl, by rw [List.drop_zero]; exact Hb.out⟩
  case round =>
    obtain ⟨k, hk, rfl, hq⟩ := hrel
    have Hq := Lib.hid hq
    clear hq
    by_cases hlt : k < 19
    · have hd : (Pl.keys.drop k).contains s.toList = ((s.toList == Pl.keys[k]'hlt) || (Pl.keys.drop (k + 1)).contains s.toList) := by
        rw [List.drop_eq_getElem_cons (show k < Pl.keys.length from hlt), List.contains_cons]; rfl
      rw [Hq.out] at hd
      obtain ⟨t, ht, htl⟩ := keyCells_at k hlt
      rw [← htl] at hd
      rw [← HCS.out] at ht
      have hrun := run_nth w k k cs _ rfl hlt ht
      have HRun := Lib.hid hrun
      clear htl ht hrun
      rcases hc : (t.toList == s.toList) with _ | _
      · rw [show (s.toList == t.toList) = false by rw [Bool.beq_comm]; exact hc, Bool.false_or] at hd
        have HD := Lib.hid hd
        clear hd
        go_wp2
        rw [HRun.out]
        go_wp2
        go_round
        case rel => exact ⟨k + 1, by omega, by go_num, HD.out.symm⟩
        case measure => simp [intOf]; omega
      · rw [show (s.toList == t.toList) = true by rw [Bool.beq_comm]; exact hc, Bool.true_or] at hd
        subst hd
        go_wp2
        rw [HRun.out]
        go_wp2
        go_ret
        exact ⟨rfl, rfl⟩
    · have hk' : k = 19 := by omega
      subst hk'
      have hbb : false = b := by rw [← Hq.out]; rfl
      subst hbb
      go_wp2
      go_ret
      exact ⟨rfl, rfl⟩

set_option maxHeartbeats 400000 in
theorem rIsName_r (s : ByteArray) (b : Bool) (hb : Pl.nameB s.data.toList = b) (w : World) (hs : s.size ≤ maxLen) :
    Calls Try.prog 69 #[.string s] w fun e w' => e = .returned (.bool b) ∧ w = w' := by
  have hs' := hs
  unfold maxLen at hs
  have hlen : s.data.toList.length = s.size := by simp
  rcases Nat.eq_zero_or_pos s.size with h0 | h0
  · have he := toList_nil s h0
    have hw : false = b := by rw [← hb, ← Lib.toList_data, he]; rfl
    subst hw
    have h0' : ¬ (0 : Int) < (s.size : Int) := by omega
    clear hb hlen he
    go_enter Try.func69, Try.ntmps69
    go_wp2
    go_ret
    exact ⟨rfl, rfl⟩
  · have he := toList_isEmpty s h0
    have he' : s.data.toList.isEmpty = false := by rw [← Lib.toList_data]; exact he
    have h0' : (0 : Int) < (s.size : Int) := by omega
    clear he
    by_cases h1 : s.size ≤ 100
    · obtain ⟨n, hn⟩ : ∃ n, Pl.wordSize s.data.toList = n := ⟨_, rfl⟩
      obtain ⟨q, hk⟩ : ∃ q, Pl.keyB s.data.toList = q := ⟨_, rfl⟩
      have hb' : (decide (n = s.size) && !q) = b := by rw [← hb]; simp [Pl.nameB, Pl.wordB, hn, hk, he', hlen, h1]
      have Hn := Lib.hid hn
      have Hk := Lib.hid hk
      clear hb hn he' hlen hk
      have h1' : (s.size : Int) ≤ 100 := by omega
      clear h1
      by_cases h2 : n = s.size
      · have hbb : (!q) = b := by rw [← hb']; simp [h2]
        subst hbb
        clear hb'
        have h3 : ((n : Int) == (s.size : Int)) = true := by simp [h2]
        clear h2
        cases q <;>
        · go_enter Try.func69, Try.ntmps69
          go_wp2_with (first | (go_at_call 84; refine (rword_r s n Hn.out _ hs').mono ?_; rintro e w' ⟨rfl, rfl⟩) | (go_at_call 85; refine (rIsKey_r s _ Hk.out _).mono ?_; rintro e w' ⟨rfl, rfl⟩))
          go_ret
          exact ⟨rfl, rfl⟩
      · have hbb : false = b := by rw [← hb']; simp [h2]
        subst hbb
        clear hb'
        have h3 : ((n : Int) == (s.size : Int)) = false := by rw [beq_eq_false_iff_ne]; omega
        clear h2
        go_enter Try.func69, Try.ntmps69
        go_wp2_with (go_at_call 84; refine (rword_r s n Hn.out _ hs').mono ?_; rintro e w' ⟨rfl, rfl⟩)
        go_ret
        exact ⟨rfl, rfl⟩
    · have hw : false = b := by rw [← hb]; simp [Pl.nameB, Pl.wordB, hlen, h1]
      subst hw
      have h1' : ¬ (s.size : Int) ≤ 100 := by omega
      clear hb hlen h1 he'
      go_enter Try.func69, Try.ntmps69
      go_wp2
      go_ret
      exact ⟨rfl, rfl⟩

end Go.Proofs.Ytnhdgndjpkdhdaa

/-
  Plain functions of layer 1 and 2, without any program: which texts are words, keys and names.
-/
import Init
namespace Go.Proofs.Ytnhdgndjpkdhdaa
namespace Pl

def smallB (c : UInt8) : Bool := (decide ((97 : Int) ≤ (c.toNat : Int)) && decide ((c.toNat : Int) ≤ 122)) || decide ((c.toNat : Int) = 95)
def digitB (c : UInt8) : Bool := decide ((48 : Int) ≤ (c.toNat : Int)) && decide ((c.toNat : Int) ≤ 57)
def upperB (c : UInt8) : Bool := decide ((65 : Int) ≤ (c.toNat : Int)) && decide ((c.toNat : Int) ≤ 90)
def partB (c : UInt8) : Bool := smallB c || upperB c || digitB c

/-- How many bytes the word has that a text begins with. -/
def wordSize : List UInt8 → Nat
  | [] => 0
  | c :: r => if smallB c then 1 + (r.takeWhile partB).length else 0

def keys : List (List UInt8) := [[97, 110, 100], [97, 115], [99, 108, 97, 115, 115], [101, 108, 115, 101], [101, 110, 100], [102, 97, 108, 115, 101], [102, 117, 110], [105, 102], [105, 110], [105, 110, 104, 101, 114, 105, 116], [108, 101, 116], [109, 101, 116, 104, 111, 100], [110, 101, 119], [111, 98, 106, 101, 99, 116], [114, 101, 99], [116, 104, 101, 110], [116, 114, 117, 101], [118, 97, 108], [118, 105, 114, 116, 117, 97, 108]]

def keyB (l : List UInt8) : Bool := keys.contains l
def wordB (l : List UInt8) : Bool := !l.isEmpty && decide (l.length ≤ 100) && decide (wordSize l = l.length)
def nameB (l : List UInt8) : Bool := wordB l && !keyB l

theorem wordSize_le (l : List UInt8) : wordSize l ≤ l.length := by
  cases l with
  | nil => simp [wordSize]
  | cons c r =>
    unfold wordSize
    have := (List.takeWhile_prefix (l := r) partB).length_le
    by_cases h : smallB c = true
    · simp [h]; omega
    · simp [h]

end Pl
end Go.Proofs.Ytnhdgndjpkdhdaa

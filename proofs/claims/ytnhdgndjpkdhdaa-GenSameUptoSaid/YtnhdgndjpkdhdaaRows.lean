/-
  No cell of these rows narrows 'for every input' (looked for: loops, veiled, ifaces, maps, wideKeys, modest, calm, conditions, laid).
  DERIVED. THE GIVEN ROWS OF THIS SEAT. 4 by the template 'for every input the law returns true; each argument reads behind the call as it read before'; 0 by the template 'total and deterministic' (their statements: YtnhdgndjpkdhdaaTotals.lean).
  GIVEN WITH THE SEED: the statements are not yours to turn. If you find one false, say at which input.
  Laid BY PROGRAM, IN A SANDBOX (cutbox-rows.mjs): the forced cells as the released guide's own fill.sh prints them over the translation 5e2644516ea9bdb1… (all of the seat's roots in one cut). By AI agents, Wed Nov 11 2026. No macro, syntax, notation, axiom, sorry.
-/
import Derived.Test.YtnhdgndjpkdhdaaChecked
import GoSem.Claim
import GoSem.ClaimJoined
import GoSem.ClaimMapViews
import Derived.JoinedTies
import Derived.KernelRfl
namespace Go.Proofs.Ytnhdgndjpkdhdaa
/- THE CELL 'sum', in the pinned program and in every row, IS THE sha256 OF THE DUMP (.gsa) THAT YtnhdgndjpkdhdaaProg.lean LOADS. Nothing in Lean hashes anything: it is a label: what it is worth is what the hold of that sum in a sandbox is worth. -/
noncomputable def Try.pinned : Pinned := { name := "ytnhdgndjpkdhdaa", sum := "5e2644516ea9bdb1736d6d6ee28469ba61ee1bd63a2cf1978bf81ba3174fddf0", checked := Try.checked }
namespace Rows
def none {H : Type} : Left H := { results := [], args := [] }

/-- 'trefoillaw13.GenFresh': WHATEVER THE INPUT: true; the input reads as it did. -/
def genFreshSpec : ChangeSpec := { name := "genFresh", fn := fun _ => fun
  | [d1, d2] => { results := [.lit (.bool true)], args := [d1, d2] }
  | _ => none }
def genFreshRow : OpenClaim := { program := "ytnhdgndjpkdhdaa", sum := "5e2644516ea9bdb1736d6d6ee28469ba61ee1bd63a2cf1978bf81ba3174fddf0", func := "trefoil/trefoillaw13.GenFresh", spec := "genFresh", unfollowed := true, recurses := true, plainKeys := false, apart := false }
def GenFreshSaid : Prop := genFreshRow.holds Try.pinned (OpenSpec.ofChange genFreshSpec)

/-- ITS FALSE NEIGHBOUR: 'it returns false'. Refute it at one input. -/
def genFreshWrong : ChangeSpec := { name := "genFresh", fn := fun _ => fun
  | [d1, d2] => { results := [.lit (.bool false)], args := [d1, d2] }
  | _ => none }
def GenFreshWrongFalsely : Prop := genFreshRow.holds Try.pinned (OpenSpec.ofChange genFreshWrong)

/-- 'trefoillaw13.GenSame': WHATEVER THE INPUT: true; the input reads as it did. -/
def genSameSpec : ChangeSpec := { name := "genSame", fn := fun _ => fun
  | [d] => { results := [.lit (.bool true)], args := [d] }
  | _ => none }
def genSameRow : OpenClaim := { program := "ytnhdgndjpkdhdaa", sum := "5e2644516ea9bdb1736d6d6ee28469ba61ee1bd63a2cf1978bf81ba3174fddf0", func := "trefoil/trefoillaw13.GenSame", spec := "genSame", unfollowed := true, recurses := true, plainKeys := false, apart := false }
def GenSameSaid : Prop := genSameRow.holds Try.pinned (OpenSpec.ofChange genSameSpec)

/-- ITS FALSE NEIGHBOUR: 'it returns false'. Refute it at one input. -/
def genSameWrong : ChangeSpec := { name := "genSame", fn := fun _ => fun
  | [d] => { results := [.lit (.bool false)], args := [d] }
  | _ => none }
def GenSameWrongFalsely : Prop := genSameRow.holds Try.pinned (OpenSpec.ofChange genSameWrong)

/-- 'trefoillaw13.GenPairs': WHATEVER THE INPUT: true; the input reads as it did. -/
def genPairsSpec : ChangeSpec := { name := "genPairs", fn := fun _ => fun
  | [d1, d2] => { results := [.lit (.bool true)], args := [d1, d2] }
  | _ => none }
def genPairsRow : OpenClaim := { program := "ytnhdgndjpkdhdaa", sum := "5e2644516ea9bdb1736d6d6ee28469ba61ee1bd63a2cf1978bf81ba3174fddf0", func := "trefoil/trefoillaw13.GenPairs", spec := "genPairs", unfollowed := true, recurses := true, plainKeys := false, apart := false }
def GenPairsSaid : Prop := genPairsRow.holds Try.pinned (OpenSpec.ofChange genPairsSpec)

/-- ITS FALSE NEIGHBOUR: 'it returns false'. Refute it at one input. -/
def genPairsWrong : ChangeSpec := { name := "genPairs", fn := fun _ => fun
  | [d1, d2] => { results := [.lit (.bool false)], args := [d1, d2] }
  | _ => none }
def GenPairsWrongFalsely : Prop := genPairsRow.holds Try.pinned (OpenSpec.ofChange genPairsWrong)

/-- 'trefoillaw13.GenMore': WHATEVER THE INPUT: true; the input reads as it did. -/
def genMoreSpec : ChangeSpec := { name := "genMore", fn := fun _ => fun
  | [d1, d2, d3] => { results := [.lit (.bool true)], args := [d1, d2, d3] }
  | _ => none }
def genMoreRow : OpenClaim := { program := "ytnhdgndjpkdhdaa", sum := "5e2644516ea9bdb1736d6d6ee28469ba61ee1bd63a2cf1978bf81ba3174fddf0", func := "trefoil/trefoillaw13.GenMore", spec := "genMore", unfollowed := true, recurses := true, plainKeys := false, apart := false }
def GenMoreSaid : Prop := genMoreRow.holds Try.pinned (OpenSpec.ofChange genMoreSpec)

/-- ITS FALSE NEIGHBOUR: 'it returns false'. Refute it at one input. -/
def genMoreWrong : ChangeSpec := { name := "genMore", fn := fun _ => fun
  | [d1, d2, d3] => { results := [.lit (.bool false)], args := [d1, d2, d3] }
  | _ => none }
def GenMoreWrongFalsely : Prop := genMoreRow.holds Try.pinned (OpenSpec.ofChange genMoreWrong)

/- THE SECOND FORM. 'bulk': how many values and letters a reading holds, each counted each time it is reached (what is shared counts as often as it is met; a slice's spare places count too). A statement '..UptoSaid' is the law's where the arguments, and the package variables that the reading takes, are together of bulk at most 1048576: NARROWER than '..Said'. Prove '..Said' where nothing that the law and all that it calls make is longer than what came in: it says more and counts as full. Else prove '..UptoSaid'. A law counts once. -/
mutual
def uptoBulk {H : Type} : DataW H → Nat
  | .lit (.string bytes) => bytes.length + 1
  | .lit _ => 1
  | .nil => 1
  | .ptr d => uptoBulk d + 1
  | .slice elems spare => uptoBulkAll elems + uptoBulkAll spare + 1
  | .agg parts => uptoBulkAll parts + 1
  | .iface _ d => uptoBulk d + 1
  | .map entries => uptoBulkEntries entries + 1
  | .held _ => 1
def uptoBulkAll {H : Type} : List (DataW H) → Nat
  | [] => 0
  | d :: r => uptoBulk d + uptoBulkAll r
def uptoBulkEntries {H : Type} : List (Lit × DataW H) → Nat
  | [] => 0
  | x :: r => uptoBulkEntry x + uptoBulkEntries r
def uptoBulkEntry {H : Type} : Lit × DataW H → Nat
  | (.string bytes, d) => bytes.length + uptoBulk d + 1
  | (_, d) => uptoBulk d + 1
 end
def uptoSmall : (H : Type) → List (DataW H) → Bool := fun _ ds => decide (uptoBulkAll ds ≤ 1048576)
def OpenSpec.upto (s : _root_.Go.ChangeSpec) : _root_.Go.OpenSpec := { _root_.Go.OpenSpec.ofChange s with cond := some uptoSmall }

/-- 'trefoillaw13.GenFresh', WHERE WHAT IT READS IS OF BULK AT MOST 1048576: true; the input reads as it did. -/
def genFreshUptoRow : OpenClaim := { program := "ytnhdgndjpkdhdaa", sum := "5e2644516ea9bdb1736d6d6ee28469ba61ee1bd63a2cf1978bf81ba3174fddf0", func := "trefoil/trefoillaw13.GenFresh", spec := "genFresh", unfollowed := true, recurses := true, plainKeys := false, apart := false, narrowed := true }
def GenFreshUptoSaid : Prop := genFreshUptoRow.holds Try.pinned (OpenSpec.upto genFreshSpec)

/-- 'trefoillaw13.GenSame', WHERE WHAT IT READS IS OF BULK AT MOST 1048576: true; the input reads as it did. -/
def genSameUptoRow : OpenClaim := { program := "ytnhdgndjpkdhdaa", sum := "5e2644516ea9bdb1736d6d6ee28469ba61ee1bd63a2cf1978bf81ba3174fddf0", func := "trefoil/trefoillaw13.GenSame", spec := "genSame", unfollowed := true, recurses := true, plainKeys := false, apart := false, narrowed := true }
def GenSameUptoSaid : Prop := genSameUptoRow.holds Try.pinned (OpenSpec.upto genSameSpec)

/-- 'trefoillaw13.GenPairs', WHERE WHAT IT READS IS OF BULK AT MOST 1048576: true; the input reads as it did. -/
def genPairsUptoRow : OpenClaim := { program := "ytnhdgndjpkdhdaa", sum := "5e2644516ea9bdb1736d6d6ee28469ba61ee1bd63a2cf1978bf81ba3174fddf0", func := "trefoil/trefoillaw13.GenPairs", spec := "genPairs", unfollowed := true, recurses := true, plainKeys := false, apart := false, narrowed := true }
def GenPairsUptoSaid : Prop := genPairsUptoRow.holds Try.pinned (OpenSpec.upto genPairsSpec)

/-- 'trefoillaw13.GenMore', WHERE WHAT IT READS IS OF BULK AT MOST 1048576: true; the input reads as it did. -/
def genMoreUptoRow : OpenClaim := { program := "ytnhdgndjpkdhdaa", sum := "5e2644516ea9bdb1736d6d6ee28469ba61ee1bd63a2cf1978bf81ba3174fddf0", func := "trefoil/trefoillaw13.GenMore", spec := "genMore", unfollowed := true, recurses := true, plainKeys := false, apart := false, narrowed := true }
def GenMoreUptoSaid : Prop := genMoreUptoRow.holds Try.pinned (OpenSpec.upto genMoreSpec)

end Rows
end Go.Proofs.Ytnhdgndjpkdhdaa

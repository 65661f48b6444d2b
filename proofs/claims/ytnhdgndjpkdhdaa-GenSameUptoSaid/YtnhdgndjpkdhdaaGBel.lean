/-
  What no call of ours touches: worlds that have all that w had.
-/
import Derived.Test.YtnhdgndjpkdhdaaGRef1M
import Derived.Deep.RegionWith
import Derived.Deep.RegionHeld3
namespace Go.Proofs.Ytnhdgndjpkdhdaa
open Go.RowKit

def BelC (w w' : World) : Prop := Below w.heap.size w w'
theorem BelC.refl (w : World) : BelC w w := Below.refl _ _
theorem BelC.alloc {w W : World} (h : BelC w W) (o : Obj) : BelC w (W.alloc o) := Below.alloc h (Below.size h) o
theorem BelC.drew {w W : World} (h : BelC w W) : BelC w W.drew := Below.drew h
theorem BelC.drewN {w W : World} (h : BelC w W) (n : Nat) : BelC w (W.drewN n) := ⟨h.os, h.tape, h.output, h.size, h.block⟩
theorem BelC.old {w W : World} (h : BelC w W) {p : Addr} {v : Value} (hc : w.cell? p = some v) : W.cell? p = some v := (Below.cell h (World.block_lt_of_cell? w _ hc)).trans hc
end Go.Proofs.Ytnhdgndjpkdhdaa

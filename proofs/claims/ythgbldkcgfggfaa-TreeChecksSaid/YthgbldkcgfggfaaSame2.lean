/-
  tree.sameExpr: two expressions' own fields and their members' own fields.
-/
import Derived.Test.YthgbldkcgfggfaaSame
namespace Go.Proofs.Ythgbldkcgfggfaa
open Go.RowKit

set_option maxRecDepth 100000 in
set_option maxHeartbeats 1000000 in
theorem equalFunc_r (w : World) (S1 S2 : Nat → Prop) (l1 l2 : List Mm) (A1 A2 : Option Addr) (c1 c2 : Nat) (r : Bool) (hS1 : ∀ k, S1 k → k < w.heap.size) (hS2 : ∀ k, S2 k → k < w.heap.size) (h1 : MmsO w S1 l1 A1) (h2 : MmsO w S2 l2 A2) (hc1 : l1.length ≤ c1) (hm1 : c1 ≤ maxLen) (hr : mmsLoc l1 l2 = r) :
    Calls Try.prog 63 #[.slice A1 l1.length c1, .slice A2 l2.length c2, .func (.func 64) #[] #[]] w fun e w' => e = .returned (.bool r) ∧ Below w.heap.size w w' := by
  unfold maxLen at hm1
  have H1 := Lib.hid h1
  have H2 := Lib.hid h2
  have HR := Lib.hid hr
  clear h1 h2 hr
  by_cases hlen : l1.length = l2.length
  · have hne : ((l1.length : Int) != (l2.length : Int)) = false := by rw [bne_eq_false_iff_eq]; omega
    have HLen := Lib.hid hlen
    clear hlen
    go_enter Try.func63, Try.ntmps63
    go_wp2
    go_loopw [7, 8, 9, 17] (fun _ _ _ i wr => ∃ k : Nat, i = .int .i64 k ∧ k ≤ l1.length ∧ mmsLoc (l1.drop k) (l2.drop k) = r ∧ Below w.heap.size w wr) (fun _ _ _ i _ => l1.length - (intOf i).toNat)
    case atStart => exact ⟨0, rfl, Nat.zero_le _, by simpa using HR.out, Below.refl _ _⟩
    case round =>
      obtain ⟨k, rfl, hk, hq, hb⟩ := hrel
      have Hq := Lib.hid hq
      have HB := Lib.hid hb
      clear hq hb
      by_cases hlt : k < l1.length
      · have hlt2 : k < l2.length := by rw [← HLen.out]; exact hlt
        obtain ⟨b1, o1, rfl, hp1⟩ := MmsO.get _ _ (MmsO.keep (fun k hk => ⟨hk, HB.out.block k (hS1 k hk)⟩) _ _ H1.out) k hlt
        obtain ⟨b2, o2, rfl, hp2⟩ := MmsO.get _ _ (MmsO.keep (fun k hk => ⟨hk, HB.out.block k (hS2 k hk)⟩) _ _ H2.out) k hlt2
        have hd := mmsLoc_drop l1 l2 k hlt hlt2
        rw [Hq.out] at hd
        obtain ⟨x, hx⟩ : ∃ x, x = l1[k] := ⟨_, rfl⟩
        obtain ⟨y, hy⟩ : ∃ y, y = l2[k] := ⟨_, rfl⟩
        rw [← hx] at hp1 hd
        rw [← hy] at hp2 hd
        have hb2 : b2 < wr.heap.size := Nat.lt_of_lt_of_le (hS2 b2 hp2.1) HB.out.size
        obtain ⟨aA, cA, aT, cT, f0, f1, f2, f3, f4, _⟩ := hp1.val
        obtain ⟨aA', cA', aT', cT', g0, g1, g2, g3, g4, _⟩ := hp2.val
        have k0 : ∀ ob, (wr.alloc ob).cell? ⟨b2, o2 + k * 5, none⟩ = some (.int .i64 y.kind) := fun ob => (World.cell?_alloc_lt wr ob ⟨b2, _, none⟩ hb2).trans g0
        have k1 : ∀ ob, (wr.alloc ob).cell? ⟨b2, o2 + k * 5 + 1, none⟩ = some (.string y.name) := fun ob => (World.cell?_alloc_lt wr ob ⟨b2, _, none⟩ hb2).trans g1
        have k2 : ∀ ob, (wr.alloc ob).cell? ⟨b2, o2 + k * 5 + 2, none⟩ = some (.string y.as') := fun ob => (World.cell?_alloc_lt wr ob ⟨b2, _, none⟩ hb2).trans g2
        have k3 : ∀ ob, (wr.alloc ob).cell? ⟨b2, o2 + k * 5 + 3, none⟩ = some (.slice aA' y.args.length cA') := fun ob => (World.cell?_alloc_lt wr ob ⟨b2, _, none⟩ hb2).trans g3
        have k4 : ∀ ob, (wr.alloc ob).cell? ⟨b2, o2 + k * 5 + 4, none⟩ = some (.slice aT' y.types.length cT') := fun ob => (World.cell?_alloc_lt wr ob ⟨b2, _, none⟩ hb2).trans g4
        clear hx hy hp1 hp2 hb2
        rcases hn : mmLoc x y with _ | _
        · have hrr : false = r := by rw [hd, hn]; rfl
          subst hrr
          have HN := Lib.hid hn
          clear hn hd
          go_wp2_with (go_at_call 64; refine (sameMember_r _ x y _ _ _ _ _ _ _ _ false HN.out).mono ?_; rintro e w' ⟨rfl, hb2⟩; have HB2 := Lib.hid hb2; clear hb2)
          go_ret
          exact ⟨rfl, ((HB.out.alloc HB.out.size _).alloc (by have := HB.out.size; simp; omega) _).trans (HB2.out.mono (by have := HB.out.size; simp; omega))⟩
        · rw [hn, Bool.true_and] at hd
          have HN := Lib.hid hn
          have HD := Lib.hid hd
          clear hn hd
          go_wp2_with (go_at_call 64; refine (sameMember_r _ x y _ _ _ _ _ _ _ _ true HN.out).mono ?_; rintro e w' ⟨rfl, hb2⟩; have HB2 := Lib.hid hb2; clear hb2)
          go_roundw
          case rel => exact ⟨k + 1, by go_num, by omega, HD.out.symm, ((HB.out.alloc HB.out.size _).alloc (by have := HB.out.size; simp; omega) _).trans (HB2.out.mono (by have := HB.out.size; simp; omega))⟩
          case measure => simp [intOf]; omega
      · have hrr : true = r := by
          rw [← Hq.out, List.drop_eq_nil_of_le (by omega), List.drop_eq_nil_of_le (by rw [← HLen.out]; omega)]
          rfl
        subst hrr
        go_wp2
        go_ret
        exact ⟨rfl, HB.out⟩
  · have hne : ((l1.length : Int) != (l2.length : Int)) = true := by rw [bne_iff_ne]; omega
    have hrr : false = r := by rw [← HR.out, mmsLoc_length _ _ hlen]
    subst hrr
    clear hlen
    go_enter Try.func63, Try.ntmps63
    go_wp2
    go_ret
    exact ⟨rfl, Below.refl _ _⟩

end Go.Proofs.Ythgbldkcgfggfaa

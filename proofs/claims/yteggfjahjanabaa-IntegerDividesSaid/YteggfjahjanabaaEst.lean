/-
  integer.estimate: the quotient of the highest limbs.
-/
import Derived.Test.YteggfjahjanabaaShorten
import Derived.Test.YteggfjahjanabaaTimes
import Derived.Test.YteggfjahjanabaaKnu
namespace PB
open Go
theorem est_l {r x : Nat} (hr : r < B) (hx : x < B) : bits BinOp.or IntKind.u64 (IntKind.u64.wrap (IntKind.u64.wrap (r : Int) * 4294967296)) (IntKind.u64.wrap (x : Int)) = ((r * B + x : Nat) : Int) := by
  unfold B at *
  have e1 : IntKind.u64.wrap (r : Int) = r := by rw [IntKind.wrap_u64]; omega
  have e2 : IntKind.u64.wrap (x : Int) = x := by rw [IntKind.wrap_u64]; omega
  have e3 : IntKind.u64.wrap ((r : Int) * 4294967296) = ((r * 4294967296 : Nat) : Int) := by rw [IntKind.wrap_u64]; omega
  rw [e1, e2, e3, u64_or_nat (r * 4294967296) x (by omega) (by omega), nat_join 32 _ _ (by omega) (by omega)]
theorem est_r {q y : Nat} (hq : q < B) (hy : y < B) : IntKind.u64.wrap (IntKind.u64.wrap (q : Int) * IntKind.u64.wrap (y : Int)) = ((q * y : Nat) : Int) := by
  have h := mul_le hq hy
  have e1 : IntKind.u64.wrap (q : Int) = q := by rw [IntKind.wrap_u64]; unfold B at *; omega
  have e2 : IntKind.u64.wrap (y : Int) = y := by rw [IntKind.wrap_u64]; unfold B at *; omega
  rw [e1, e2, ← Int.natCast_mul, IntKind.wrap_u64]
  generalize q * y = p at *
  omega
end PB
namespace Go.Proofs.Yteggfjahjanabaa
open Go.RowKit PB
theorem quiet_at {P : Program} {f : FuncId} {args : Array Value} {w : World} {k n : Nat} {v : Value}
    (h : Calls P f args (w.drewN (k + n)) fun e w' => e = .returned v ∧ ∃ m, w' = (w.drewN (k + n)).drewN m) : Calls P f args (w.drewN (k + n)) fun e w'' => e = .returned v ∧ ∃ m, w'' = w.drewN (k + m) :=
  h.mono fun _ _ ⟨he, m, hm⟩ => ⟨he, n + m, by rw [hm, World.drewN_drewN, Nat.add_assoc]⟩

set_option maxHeartbeats 1600000 in
set_option maxRecDepth 100000 in
theorem estimate_limbs (bx ox cx by_ oy cy x0 x1 x2 y0 y1 : Nat) (w : World) (c0 : w.cell? ⟨bx, ox, none⟩ = some (.int .u32 x0)) (c1 : w.cell? ⟨bx, ox + 1, none⟩ = some (.int .u32 x1)) (c2 : w.cell? ⟨bx, ox + 2, none⟩ = some (.int .u32 x2))
    (d0 : w.cell? ⟨by_, oy, none⟩ = some (.int .u32 y0)) (d1 : w.cell? ⟨by_, oy + 1, none⟩ = some (.int .u32 y1)) (h0 : x0 < B) (h1 : x1 < B) (k0 : y0 < B) (k1 : y1 < B) (hy : 2147483648 ≤ y1) (hx : x2 ≤ y1) (E : Nat) (hE : E = est ((x2 * B + x1) * B + x0) (y1 * B + y0)) :
    Calls Try.prog 96 #[.slice (some ⟨bx, ox, none⟩) 3 cx, .slice (some ⟨by_, oy, none⟩) 2 cy] w fun e w' => e = .returned (.int .u32 E) ∧ ∃ m, w' = w.drewN m := by
  have HE := Lib.hid hE
  clear hE
  by_cases he : x2 = y1
  · have HQ := Lib.hid he
    have hz : ((x2 : Int) == (y1 : Int)) = true := by simp [he]
    clear he
    go_enter Try.func96, Try.ntmps96
    go_wp2_with fail
    go_quiet (fail)
    go_wp2_with fail
    go_ret
    rw [HE.out, est_eq h0 h1 k0 HQ.out]
    exact ⟨rfl, _, rfl⟩
  · have hz : ((x2 : Int) == (y1 : Int)) = false := by simp; omega
    have hlt : x2 < y1 := by omega
    clear he
    go_enter Try.func96, Try.ntmps96
    go_wp2_with fail
    go_quiet (fail)
    go_wp2_with fail
    go_quiet (first | (go_at_call 93; refine quiet_at (div32_any _ _ _ _ hlt h1 k1)))
    go_wp2_with fail
    have hV0 : 0 < y1 * B + y0 := by unfold B; omega
    have hA : (x2 * B + x1) / y1 < B := Nat.div_lt_of_lt_mul (by
      have : (x2 + 1) * B ≤ y1 * B := Nat.mul_le_mul_right _ hlt
      rw [Nat.add_mul] at this
      omega)
    have hdm := Nat.div_add_mod' (x2 * B + x1) y1
    have hA2 : (x2 * B + x1) % y1 < B := Nat.lt_trans (Nat.mod_lt _ (by omega)) k1
    have hA3 := Lib.hid (est_start (T := x2 * B + x1) (y0 := y0) h0 (show 0 < y1 by omega))
    have hest := est_ne h0 h1 k0 (show x2 ≠ y1 by omega)
    have HE := Lib.hid (HE.out.trans hest)
    have hdm := Lib.hid hdm
    have hA := Lib.hid hA
    have hA2 := Lib.hid hA2
    clear hest
    go_loopw [5, 6] (fun q r wr => ∃ q' r' m : Nat, q = .int .u32 q' ∧ r = .int .u32 r' ∧ q' < B ∧ r' < B ∧ Hid (q' * y1 + r' = x2 * B + x1) ∧ Hid (((x2 * B + x1) * B + x0) / (y1 * B + y0) ≤ q') ∧ wr = w.drewN m) (fun q _ _ => (intOf q).toNat)
    case atStart => exact ⟨_, _, _, rfl, rfl, hA.out, hA2.out, hdm, hA3, World.drewN_drewN _ _ _⟩
    case round =>
      obtain ⟨q', r', m, rfl, rfl, hq, hr, hE1, hE2, rfl⟩ := hrel
      have L1 := est_l hr h0
      have L2 := est_r hq k0
      by_cases hc : r' * B + x0 < q' * y0
      · have T1 : Hid (decide (bits BinOp.or IntKind.u64 (IntKind.u64.wrap (IntKind.u64.wrap (r' : Int) * 4294967296)) (IntKind.u64.wrap (x0 : Int)) < IntKind.u64.wrap (IntKind.u64.wrap (q' : Int) * IntKind.u64.wrap (y0 : Int)) ) = true) := Lib.hid (decide_eq_true (by rw [L1, L2]; exact Int.ofNat_lt.2 hc))
        have HM := est_more hE1.out hc hV0
        obtain ⟨j, hj⟩ : ∃ j, q' = j + 1 := ⟨q' - 1, by have := Nat.lt_of_le_of_lt (Nat.zero_le _) HM; omega⟩
        have HM2 := Lib.hid (show ((x2 * B + x1) * B + x0) / (y1 * B + y0) ≤ j by omega)
        have HN2 := Lib.hid (show j * y1 + (r' + y1) = x2 * B + x1 by have := hE1.out; rw [hj, Nat.add_mul, Nat.one_mul] at this; omega)
        have HJ := Lib.hid hj
        clear L1 L2 hc HM hE1 hE2 hj
        by_cases hr2 : B ≤ r' + y1
        · have T2 : ((r' : Int) + y1) % 4294967296 < y1 := by unfold B at *; omega
          have HB2 := Lib.hid hr2
          clear hr2
          go_wp2_with fail
          go_quiet (fail)
          rw [T1.out]
          go_wp2_with fail
          go_ret
          have := est_break HN2.out HB2.out (by have := HJ.out; unfold B at *; omega) k0 hV0 HM2.out
          rw [HE.out, this]
          exact ⟨congrArg (fun z => Ending.returned (Value.int IntKind.u32 z)) (by have := HJ.out; unfold B at *; omega), _, rfl⟩
        · have T2 : decide (((r' : Int) + y1) % 4294967296 < y1) = false := decide_eq_false (by unfold B at *; omega)
          have HB2 := Lib.hid hr2
          clear hr2
          go_wp2_with fail
          go_quiet (fail)
          rw [T1.out]
          go_wp2_with fail
          go_roundw
          case rel =>
            have := HB2.out
            have := HJ.out
            refine ⟨j, r' + y1, m + nq, ?_, ?_, by omega, by omega, HN2, HM2, rfl⟩
            · exact congrArg (Value.int IntKind.u32) (by unfold B at *; omega)
            · exact congrArg (Value.int IntKind.u32) (by unfold B at *; omega)
          case measure => simp [intOf]; have := HJ.out; unfold B at *; omega
      · have T1 : Hid (decide (bits BinOp.or IntKind.u64 (IntKind.u64.wrap (IntKind.u64.wrap (r' : Int) * 4294967296)) (IntKind.u64.wrap (x0 : Int)) < IntKind.u64.wrap (IntKind.u64.wrap (q' : Int) * IntKind.u64.wrap (y0 : Int)) ) = false) := Lib.hid (decide_eq_false (by rw [L1, L2]; exact fun h => hc (Int.ofNat_lt.1 h)))
        have HC := Lib.hid hc
        clear L1 L2 hc
        go_wp2_with fail
        go_quiet (fail)
        rw [T1.out]
        go_wp2_with fail
        go_ret
        have := est_done hE1.out HC.out hV0 hE2.out
        rw [HE.out, this]
        exact ⟨rfl, _, World.drewN_drewN _ _ _⟩
end Go.Proofs.Yteggfjahjanabaa

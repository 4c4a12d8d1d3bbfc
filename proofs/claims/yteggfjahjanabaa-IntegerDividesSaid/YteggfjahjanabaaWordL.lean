/-
  The walk of IntegerWords (written by wip/genwords.py).
-/
import Derived.Test.YteggfjahjanabaaLawA
import Derived.Test.YteggfjahjanabaaQuoE
import Derived.Test.YteggfjahjanabaaNeg
namespace Go.Proofs.Yteggfjahjanabaa
open Go.RowKit PB
theorem wd_less {v1 v2 : Value} {z1 z2 : Int} (w : World) (h1 : IsInt w v1 z1) (h2 : IsInt w v2 z2) (e : z1 < z2) :
    Calls Try.prog 36 #[v1, v2] w fun e w' => e = .returned (.int .i64 (-1)) ∧ Below w.heap.size w w' := by
  have h := cmp_any v1 v2 z1 z2 w h1 h2
  rwa [show cmpi z1 z2 = -1 by unfold cmpi; rw [if_pos e]] at h
theorem wd_greater {v1 v2 : Value} {z1 z2 : Int} (w : World) (h1 : IsInt w v1 z1) (h2 : IsInt w v2 z2) (e : z2 < z1) :
    Calls Try.prog 36 #[v1, v2] w fun e w' => e = .returned (.int .i64 1) ∧ Below w.heap.size w w' := by
  have h := cmp_any v1 v2 z1 z2 w h1 h2
  rwa [show cmpi z1 z2 = 1 by unfold cmpi; rw [if_neg (by omega), if_pos e]] at h
theorem wd_mul {X Y : Int} (h1 : -1073741824 ≤ X) (h2 : X ≤ 1073741823) (h3 : -1073741824 ≤ Y) (h4 : Y ≤ 1073741823) : -9223372036854775808 ≤ X * Y ∧ X * Y ≤ 9223372036854775807 := by
  have h : (X * Y).natAbs ≤ 1073741824 * 1073741824 := by
    rw [Int.natAbs_mul]
    exact Nat.mul_le_mul (by omega) (by omega)
  omega
theorem wd_wrap {z : Int} (h1 : -9223372036854775808 ≤ z) (h2 : z ≤ 9223372036854775807) : IntKind.i64.wrap z = z := by
  rw [IntKind.wrap_i64]
  omega
theorem wd_quo {x y : Int} (h1 : -9223372036854775808 ≤ x) (h2 : x ≤ 9223372036854775807) (h3 : y ≠ 0) (h4 : y ≠ -1) : -9223372036854775808 ≤ x.tdiv y ∧ x.tdiv y ≤ 9223372036854775807 := by
  by_cases hy : y = 1
  · subst hy
    rw [Int.tdiv_one]
    exact ⟨h1, h2⟩
  · have h : (x.tdiv y).natAbs * 2 ≤ x.natAbs := by
      rw [Int.natAbs_tdiv]
      exact Nat.le_trans (Nat.mul_le_mul_left _ (show 2 ≤ y.natAbs by omega)) (Nat.div_mul_le_self _ _)
    omega
theorem wd_rem {x y : Int} (h1 : -9223372036854775808 ≤ y) (h2 : y ≤ 9223372036854775807) (h3 : y ≠ 0) : -9223372036854775808 ≤ x.tmod y ∧ x.tmod y ≤ 9223372036854775807 := by
  have h : (x.tmod y).natAbs < y.natAbs := by
    rw [Int.natAbs_tmod]
    exact Nat.mod_lt _ (by omega)
  omega
theorem wd_big {z : Int} (h1 : -9223372036854775808 ≤ z) (h2 : z ≤ 9223372036854775807) : sm 2 z := by
  unfold sm B
  omega
end Go.Proofs.Yteggfjahjanabaa

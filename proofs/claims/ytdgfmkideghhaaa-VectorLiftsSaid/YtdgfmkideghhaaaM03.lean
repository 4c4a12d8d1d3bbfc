/-
  size, MulDiv: products and quotients of words.
  MulDiv: what it returns, with the division of two words as a premise; the floor and the ceiling of a quotient.
  Vectors that came in as arguments.
-/
import Derived.Test.YtdgfmkideghhaaaRows
import Derived.ProofKit
import Derived.OpenShut
import Derived.Lib.SmallJoins
import Derived.Test.YtdgfmkideghhaaaM02
namespace VB
open Go Go.RowKit PB
/-- The quotient of a product, without its sign. -/
def mdN (a b c : Int) : Nat := a.natAbs * b.natAbs / c.natAbs
/-- .. and its sign. -/
def mdS (a b c : Int) : Bool := (decide (a < 0) != decide (b < 0)) != decide (c < 0)
theorem md_pos {a b c : Int} (h : mdS a b c = false) : (a * b).tdiv c = (mdN a b c : Int) := by
  unfold mdS at h; unfold mdN
  rcases Int.natAbs_eq a with ha | ha <;> rcases Int.natAbs_eq b with hb | hb <;> rcases Int.natAbs_eq c with hc | hc
  all_goals
    generalize a.natAbs = x at *
    generalize b.natAbs = y at *
    generalize c.natAbs = z at *
    subst ha hb hc
    rw [show (x * y / z : Nat) = ((x : Int) * y).tdiv z from by rw [← Int.natCast_mul, ← Int.ofNat_tdiv]]
    try simp only [Int.neg_mul, Int.mul_neg, Int.neg_neg, Int.neg_tdiv, Int.tdiv_neg]
    try (by_cases x0 : x = 0
         · subst x0; simp
         · by_cases y0 : y = 0
           · subst y0; simp
           · by_cases z0 : z = 0
             · subst z0; simp
             · exfalso
               have e1 : (decide ((x : Int) < 0)) = false := decide_eq_false (by omega)
               have e2 : (decide (-(x : Int) < 0)) = true := decide_eq_true (by omega)
               have e3 : (decide ((y : Int) < 0)) = false := decide_eq_false (by omega)
               have e4 : (decide (-(y : Int) < 0)) = true := decide_eq_true (by omega)
               have e5 : (decide ((z : Int) < 0)) = false := decide_eq_false (by omega)
               have e6 : (decide (-(z : Int) < 0)) = true := decide_eq_true (by omega)
               first | rw [e1] at h | rw [e2] at h
               first | rw [e3] at h | rw [e4] at h
               first | rw [e5] at h | rw [e6] at h
               exact absurd h (by decide))
theorem md_neg {a b c : Int} (h : mdS a b c = true) : (a * b).tdiv c = -(mdN a b c : Int) := by
  unfold mdS at h; unfold mdN
  rcases Int.natAbs_eq a with ha | ha <;> rcases Int.natAbs_eq b with hb | hb <;> rcases Int.natAbs_eq c with hc | hc
  all_goals
    generalize a.natAbs = x at *
    generalize b.natAbs = y at *
    generalize c.natAbs = z at *
    subst ha hb hc
    rw [show (x * y / z : Nat) = ((x : Int) * y).tdiv z from by rw [← Int.natCast_mul, ← Int.ofNat_tdiv]]
    try simp only [Int.neg_mul, Int.mul_neg, Int.neg_neg, Int.neg_tdiv, Int.tdiv_neg]
    try (by_cases x0 : x = 0
         · subst x0; simp
         · by_cases y0 : y = 0
           · subst y0; simp
           · by_cases z0 : z = 0
             · subst z0; simp
             · exfalso
               have e1 : (decide ((x : Int) < 0)) = false := decide_eq_false (by omega)
               have e2 : (decide (-(x : Int) < 0)) = true := decide_eq_true (by omega)
               have e3 : (decide ((y : Int) < 0)) = false := decide_eq_false (by omega)
               have e4 : (decide (-(y : Int) < 0)) = true := decide_eq_true (by omega)
               have e5 : (decide ((z : Int) < 0)) = false := decide_eq_false (by omega)
               have e6 : (decide (-(z : Int) < 0)) = true := decide_eq_true (by omega)
               first | rw [e1] at h | rw [e2] at h
               first | rw [e3] at h | rw [e4] at h
               first | rw [e5] at h | rw [e6] at h
               exact absurd h (by decide))
end VB
namespace Go.Proofs.Ytdgfmkideghhaaa
open Go.RowKit PB VB
set_option maxRecDepth 100000 in
theorem uret {a b : Int} {w : World} (h : a = b) : Ending.returned (.int .u64 a) = Ending.returned (.int .u64 b) ∧ w = w := ⟨by rw [h], rfl⟩
set_option maxRecDepth 100000 in
theorem size_any (n : Int) (w : World) (h1 : -9223372036854775808 ≤ n) (h2 : n ≤ 9223372036854775807) : Calls Try.prog 100 #[.int .i64 n] w fun e w' => e = .returned (.int .u64 (n.natAbs : Int)) ∧ w = w' := by
  by_cases h0 : n < 0
  · have E := Lib.hid (show IntKind.u64.wrap (-IntKind.u64.wrap n) = (n.natAbs : Int) by rw [IntKind.wrap_u64, IntKind.wrap_u64]; omega)
    go_enter Try.func100, Try.ntmps100
    go_wp2
    go_ret
    exact uret E.out
  · have E := Lib.hid (show n = (n.natAbs : Int) by omega)
    have h3 : 0 ≤ n := by omega
    clear h0
    go_enter Try.func100, Try.ntmps100
    go_wp2
    go_ret
    exact uret E.out
/-- What bits.Div64 and bits.Div return. -/
def DivOK (f : FuncId) (hi lo y : Nat) : Prop := ∀ w, Calls Try.prog f #[.int .u64 hi, .int .u64 lo, .int .u64 y] w fun e w' => e = .returned (.tuple #[.int .u64 ((hi * 18446744073709551616 + lo) / y : Nat), .int .u64 ((hi * 18446744073709551616 + lo) % y : Nat)]) ∧ Below w.heap.size w w'
set_option maxRecDepth 100000 in
theorem tret {a b c d : Int} {w w' : World} (h1 : a = b) (h2 : c = d) (hb : Below w.heap.size w w') : Ending.returned (.tuple #[.int .u64 a, .int .u64 c]) = Ending.returned (.tuple #[.int .u64 b, .int .u64 d]) ∧ Below w.heap.size w w' := ⟨by rw [h1, h2], hb⟩
set_option maxRecDepth 100000 in
theorem div64_low (lo y : Nat) (h : lo < 18446744073709551616) (hy : 0 < y) (hy2 : y < 18446744073709551616) : DivOK 137 0 lo y := by
  intro w
  have E1 := Lib.hid (show ((lo : Int) / (y : Int)) = (((0 * 18446744073709551616 + lo) / y : Nat) : Int) by rw [Nat.zero_mul, Nat.zero_add]; rfl)
  have E2 := Lib.hid (show ((lo : Int) % (y : Int)) = (((0 * 18446744073709551616 + lo) % y : Nat) : Int) by rw [Nat.zero_mul, Nat.zero_add]; rfl)
  have E3 := Lib.hid (show ((lo : Int) / (y : Int)) ≤ lo from Int.ediv_le_self _ (by omega))
  have E4 := Lib.hid (show 0 ≤ ((lo : Int) / (y : Int)) from Int.ediv_nonneg (by omega) (by omega))
  have k1 : ((y : Int) == 0) = false := by simp; omega
  have k2 : ¬ (y : Int) = 0 := by omega
  have k3 : (0 : Int) < (y : Int) := by omega
  have k4 : (0 : Int) ≤ (lo : Int) := by omega
  go_enter Try.func137, Try.ntmps137
  go_wp2_with fail
  go_quiet (fail)
  go_wp2_with fail
  go_ret2
  exact tret (by rw [IntKind.wrap_u64, ← E1.out]; have := E3.out; have := E4.out; omega) E2.out (below_drewN (Below.refl _ _) _)
set_option maxRecDepth 100000 in
theorem div_any {hi lo y : Nat} (h : DivOK 137 hi lo y) : DivOK 101 hi lo y := by
  intro w
  go_enter Try.func101, Try.ntmps101
  go_wp2_with fail
  refine (h w).mono ?_
  rintro e w1 ⟨rfl, hw1⟩
  go_wp2_with fail
  go_ret2
  exact tret rfl rfl hw1
set_option maxRecDepth 100000 in
theorem vmul_any (x y : Nat) (hx : x < 18446744073709551616) (hy : y < 18446744073709551616) (w : World) :
    Calls Try.prog 99 #[.int .u64 x, .int .u64 y] w fun e w' => e = .returned (.tuple #[.int .u64 ((x * y / 18446744073709551616 : Nat) : Int), .int .u64 ((x * y % 18446744073709551616 : Nat) : Int)]) ∧ w = w' :=
  (Try.bits_Mul x y hx hy w).mono fun _ _ h => ⟨h.1, h.2.symm⟩
set_option maxRecDepth 100000 in
/-- A pair of a number and a bool. -/
theorem nbret {a b : Int} {s t : Bool} {w w' : World} (h1 : a = b) (h2 : s = t) (hb : Below w.heap.size w w') : Ending.returned (.tuple #[.int .i64 a, .bool s]) = Ending.returned (.tuple #[.int .i64 b, .bool t]) ∧ Below w.heap.size w w' := ⟨by rw [h1, h2], hb⟩
set_option maxRecDepth 100000 in
/-- The sign of MulDiv as the program has it. -/
theorem md_sign (a b c : Int) : (!(!decide (a < 0) == decide (b < 0)) == decide (c < 0)) = mdS a b c := rfl
set_option maxRecDepth 100000 in
set_option maxHeartbeats 2000000 in
theorem md_fa (a b c : Int) (w : World) (A B_ C hi lo : Nat) (S : (!(!decide (a < 0) == decide (b < 0)) == decide (c < 0)) = false)
    (Sa : Hid (∀ w, Calls Try.prog 100 #[.int .i64 a] w fun e w' => e = .returned (.int .u64 A) ∧ w = w'))
    (Sb : Hid (∀ w, Calls Try.prog 100 #[.int .i64 b] w fun e w' => e = .returned (.int .u64 B_) ∧ w = w'))
    (Sc : Hid (∀ w, Calls Try.prog 100 #[.int .i64 c] w fun e w' => e = .returned (.int .u64 C) ∧ w = w'))
    (HM : Hid (∀ w, Calls Try.prog 99 #[.int .u64 A, .int .u64 B_] w fun e w' => e = .returned (.tuple #[.int .u64 hi, .int .u64 lo]) ∧ w = w'))
    (h : C ≤ hi) :
    Calls Try.prog 59 #[.int .i64 a, .int .i64 b, .int .i64 c] w fun e w' => e = .returned (.tuple #[.int .i64 0, .bool false]) ∧ Below w.heap.size w w' := by
  go_enter Try.func59, Try.ntmps59
  go_wp2_with fail
  refine (Sa.out _).mono ?_
  rintro e w1 ⟨rfl, rfl⟩
  go_wp2_with fail
  refine (Sb.out _).mono ?_
  rintro e w1 ⟨rfl, rfl⟩
  go_wp2_with fail
  refine (HM.out _).mono ?_
  rintro e w1 ⟨rfl, rfl⟩
  go_wp2_with fail
  refine (Sc.out _).mono ?_
  rintro e w1 ⟨rfl, rfl⟩
  go_wp2_with fail
  go_ret2
  exact nbret rfl rfl (Below.refl _ _)
set_option maxRecDepth 100000 in
set_option maxHeartbeats 2000000 in
theorem md_fb (a b c : Int) (w : World) (A B_ C hi lo : Nat) (S : (!(!decide (a < 0) == decide (b < 0)) == decide (c < 0)) = false)
    (Sa : Hid (∀ w, Calls Try.prog 100 #[.int .i64 a] w fun e w' => e = .returned (.int .u64 A) ∧ w = w'))
    (Sb : Hid (∀ w, Calls Try.prog 100 #[.int .i64 b] w fun e w' => e = .returned (.int .u64 B_) ∧ w = w'))
    (Sc : Hid (∀ w, Calls Try.prog 100 #[.int .i64 c] w fun e w' => e = .returned (.int .u64 C) ∧ w = w'))
    (HM : Hid (∀ w, Calls Try.prog 99 #[.int .u64 A, .int .u64 B_] w fun e w' => e = .returned (.tuple #[.int .u64 hi, .int .u64 lo]) ∧ w = w'))
    (h : hi < C) (q r : Nat) (HD : Hid (∀ w, Calls Try.prog 101 #[.int .u64 hi, .int .u64 lo, .int .u64 C] w fun e w' => e = .returned (.tuple #[.int .u64 q, .int .u64 r]) ∧ Below w.heap.size w w')) (hq : (9223372036854775807 : Int) < q) :
    Calls Try.prog 59 #[.int .i64 a, .int .i64 b, .int .i64 c] w fun e w' => e = .returned (.tuple #[.int .i64 0, .bool false]) ∧ Below w.heap.size w w' := by
  have h' : ¬ C ≤ hi := by omega
  go_enter Try.func59, Try.ntmps59
  go_wp2_with fail
  refine (Sa.out _).mono ?_
  rintro e w1 ⟨rfl, rfl⟩
  go_wp2_with fail
  refine (Sb.out _).mono ?_
  rintro e w1 ⟨rfl, rfl⟩
  go_wp2_with fail
  refine (HM.out _).mono ?_
  rintro e w1 ⟨rfl, rfl⟩
  go_wp2_with fail
  refine (Sc.out _).mono ?_
  rintro e w1 ⟨rfl, rfl⟩
  go_wp2_with fail
  refine (Sc.out _).mono ?_
  rintro e w1 ⟨rfl, rfl⟩
  go_wp2_with fail
  refine (HD.out _).mono ?_
  rintro e w1 ⟨rfl, hw1⟩
  go_wp2_with fail
  go_ret2
  exact nbret rfl rfl hw1
set_option maxRecDepth 100000 in
set_option maxHeartbeats 2000000 in
theorem md_fc (a b c : Int) (w : World) (A B_ C hi lo : Nat) (S : (!(!decide (a < 0) == decide (b < 0)) == decide (c < 0)) = false)
    (Sa : Hid (∀ w, Calls Try.prog 100 #[.int .i64 a] w fun e w' => e = .returned (.int .u64 A) ∧ w = w'))
    (Sb : Hid (∀ w, Calls Try.prog 100 #[.int .i64 b] w fun e w' => e = .returned (.int .u64 B_) ∧ w = w'))
    (Sc : Hid (∀ w, Calls Try.prog 100 #[.int .i64 c] w fun e w' => e = .returned (.int .u64 C) ∧ w = w'))
    (HM : Hid (∀ w, Calls Try.prog 99 #[.int .u64 A, .int .u64 B_] w fun e w' => e = .returned (.tuple #[.int .u64 hi, .int .u64 lo]) ∧ w = w'))
    (h : hi < C) (q r : Nat) (HD : Hid (∀ w, Calls Try.prog 101 #[.int .u64 hi, .int .u64 lo, .int .u64 C] w fun e w' => e = .returned (.tuple #[.int .u64 q, .int .u64 r]) ∧ Below w.heap.size w w')) (hq : (q : Int) ≤ 9223372036854775807) :
    Calls Try.prog 59 #[.int .i64 a, .int .i64 b, .int .i64 c] w fun e w' => e = .returned (.tuple #[.int .i64 (q), .bool true]) ∧ Below w.heap.size w w' := by
  have h' : ¬ C ≤ hi := by omega
  go_enter Try.func59, Try.ntmps59
  go_wp2_with fail
  refine (Sa.out _).mono ?_
  rintro e w1 ⟨rfl, rfl⟩
  go_wp2_with fail
  refine (Sb.out _).mono ?_
  rintro e w1 ⟨rfl, rfl⟩
  go_wp2_with fail
  refine (HM.out _).mono ?_
  rintro e w1 ⟨rfl, rfl⟩
  go_wp2_with fail
  refine (Sc.out _).mono ?_
  rintro e w1 ⟨rfl, rfl⟩
  go_wp2_with fail
  refine (Sc.out _).mono ?_
  rintro e w1 ⟨rfl, rfl⟩
  go_wp2_with fail
  refine (HD.out _).mono ?_
  rintro e w1 ⟨rfl, hw1⟩
  go_wp2_with fail
  go_ret2
  exact nbret rfl rfl hw1
set_option maxRecDepth 100000 in
set_option maxHeartbeats 2000000 in
theorem md_ta (a b c : Int) (w : World) (A B_ C hi lo : Nat) (S : (!(!decide (a < 0) == decide (b < 0)) == decide (c < 0)) = true)
    (Sa : Hid (∀ w, Calls Try.prog 100 #[.int .i64 a] w fun e w' => e = .returned (.int .u64 A) ∧ w = w'))
    (Sb : Hid (∀ w, Calls Try.prog 100 #[.int .i64 b] w fun e w' => e = .returned (.int .u64 B_) ∧ w = w'))
    (Sc : Hid (∀ w, Calls Try.prog 100 #[.int .i64 c] w fun e w' => e = .returned (.int .u64 C) ∧ w = w'))
    (HM : Hid (∀ w, Calls Try.prog 99 #[.int .u64 A, .int .u64 B_] w fun e w' => e = .returned (.tuple #[.int .u64 hi, .int .u64 lo]) ∧ w = w'))
    (h : C ≤ hi) :
    Calls Try.prog 59 #[.int .i64 a, .int .i64 b, .int .i64 c] w fun e w' => e = .returned (.tuple #[.int .i64 0, .bool false]) ∧ Below w.heap.size w w' := by
  go_enter Try.func59, Try.ntmps59
  go_wp2_with fail
  refine (Sa.out _).mono ?_
  rintro e w1 ⟨rfl, rfl⟩
  go_wp2_with fail
  refine (Sb.out _).mono ?_
  rintro e w1 ⟨rfl, rfl⟩
  go_wp2_with fail
  refine (HM.out _).mono ?_
  rintro e w1 ⟨rfl, rfl⟩
  go_wp2_with fail
  refine (Sc.out _).mono ?_
  rintro e w1 ⟨rfl, rfl⟩
  go_wp2_with fail
  go_ret2
  exact nbret rfl rfl (Below.refl _ _)
set_option maxRecDepth 100000 in
set_option maxHeartbeats 2000000 in
theorem md_tb (a b c : Int) (w : World) (A B_ C hi lo : Nat) (S : (!(!decide (a < 0) == decide (b < 0)) == decide (c < 0)) = true)
    (Sa : Hid (∀ w, Calls Try.prog 100 #[.int .i64 a] w fun e w' => e = .returned (.int .u64 A) ∧ w = w'))
    (Sb : Hid (∀ w, Calls Try.prog 100 #[.int .i64 b] w fun e w' => e = .returned (.int .u64 B_) ∧ w = w'))
    (Sc : Hid (∀ w, Calls Try.prog 100 #[.int .i64 c] w fun e w' => e = .returned (.int .u64 C) ∧ w = w'))
    (HM : Hid (∀ w, Calls Try.prog 99 #[.int .u64 A, .int .u64 B_] w fun e w' => e = .returned (.tuple #[.int .u64 hi, .int .u64 lo]) ∧ w = w'))
    (h : hi < C) (q r : Nat) (HD : Hid (∀ w, Calls Try.prog 101 #[.int .u64 hi, .int .u64 lo, .int .u64 C] w fun e w' => e = .returned (.tuple #[.int .u64 q, .int .u64 r]) ∧ Below w.heap.size w w')) (hq : (9223372036854775808 : Int) < q) :
    Calls Try.prog 59 #[.int .i64 a, .int .i64 b, .int .i64 c] w fun e w' => e = .returned (.tuple #[.int .i64 0, .bool false]) ∧ Below w.heap.size w w' := by
  have h' : ¬ C ≤ hi := by omega
  go_enter Try.func59, Try.ntmps59
  go_wp2_with fail
  refine (Sa.out _).mono ?_
  rintro e w1 ⟨rfl, rfl⟩
  go_wp2_with fail
  refine (Sb.out _).mono ?_
  rintro e w1 ⟨rfl, rfl⟩
  go_wp2_with fail
  refine (HM.out _).mono ?_
  rintro e w1 ⟨rfl, rfl⟩
  go_wp2_with fail
  refine (Sc.out _).mono ?_
  rintro e w1 ⟨rfl, rfl⟩
  go_wp2_with fail
  refine (Sc.out _).mono ?_
  rintro e w1 ⟨rfl, rfl⟩
  go_wp2_with fail
  refine (HD.out _).mono ?_
  rintro e w1 ⟨rfl, hw1⟩
  go_wp2_with fail
  go_ret2
  exact nbret rfl rfl hw1
set_option maxRecDepth 100000 in
set_option maxHeartbeats 2000000 in
theorem md_tc (a b c : Int) (w : World) (A B_ C hi lo : Nat) (S : (!(!decide (a < 0) == decide (b < 0)) == decide (c < 0)) = true)
    (Sa : Hid (∀ w, Calls Try.prog 100 #[.int .i64 a] w fun e w' => e = .returned (.int .u64 A) ∧ w = w'))
    (Sb : Hid (∀ w, Calls Try.prog 100 #[.int .i64 b] w fun e w' => e = .returned (.int .u64 B_) ∧ w = w'))
    (Sc : Hid (∀ w, Calls Try.prog 100 #[.int .i64 c] w fun e w' => e = .returned (.int .u64 C) ∧ w = w'))
    (HM : Hid (∀ w, Calls Try.prog 99 #[.int .u64 A, .int .u64 B_] w fun e w' => e = .returned (.tuple #[.int .u64 hi, .int .u64 lo]) ∧ w = w'))
    (h : hi < C) (q r : Nat) (HD : Hid (∀ w, Calls Try.prog 101 #[.int .u64 hi, .int .u64 lo, .int .u64 C] w fun e w' => e = .returned (.tuple #[.int .u64 q, .int .u64 r]) ∧ Below w.heap.size w w')) (hq : (q : Int) ≤ 9223372036854775808) :
    Calls Try.prog 59 #[.int .i64 a, .int .i64 b, .int .i64 c] w fun e w' => e = .returned (.tuple #[.int .i64 (-q), .bool true]) ∧ Below w.heap.size w w' := by
  have h' : ¬ C ≤ hi := by omega
  have E := Lib.hid (show wrap64 (IntKind.u64.wrap (-(q : Int))) = -(q : Int) by rw [IntKind.wrap_u64]; unfold wrap64; omega)
  go_enter Try.func59, Try.ntmps59
  go_wp2_with fail
  refine (Sa.out _).mono ?_
  rintro e w1 ⟨rfl, rfl⟩
  go_wp2_with fail
  refine (Sb.out _).mono ?_
  rintro e w1 ⟨rfl, rfl⟩
  go_wp2_with fail
  refine (HM.out _).mono ?_
  rintro e w1 ⟨rfl, rfl⟩
  go_wp2_with fail
  refine (Sc.out _).mono ?_
  rintro e w1 ⟨rfl, rfl⟩
  go_wp2_with fail
  refine (Sc.out _).mono ?_
  rintro e w1 ⟨rfl, rfl⟩
  go_wp2_with fail
  refine (HD.out _).mono ?_
  rintro e w1 ⟨rfl, hw1⟩
  go_wp2_with fail
  go_ret2
  exact nbret E.out rfl hw1
end Go.Proofs.Ytdgfmkideghhaaa

namespace VB
/-- The quotient is an int. -/
def mdOk (a b c : Int) : Prop := c ≠ 0 ∧ -9223372036854775808 ≤ (a * b).tdiv c ∧ (a * b).tdiv c ≤ 9223372036854775807
/-- An int. -/
def I64 (n : Int) : Prop := -9223372036854775808 ≤ n ∧ n ≤ 9223372036854775807
theorem nat_lt64 {n : Int} (h : I64 n) : n.natAbs < 18446744073709551616 := by unfold I64 at h; omega
/-- What the division of two words is needed for. -/
def DivFor (D : Nat → Nat → Nat → Prop) (a b c : Int) : Prop := a.natAbs * b.natAbs / 18446744073709551616 < c.natAbs → D (a.natAbs * b.natAbs / 18446744073709551616) (a.natAbs * b.natAbs % 18446744073709551616) c.natAbs
end VB
namespace Go.Proofs.Ytdgfmkideghhaaa
open Go.RowKit PB VB
set_option maxRecDepth 100000 in
theorem md_no {a b c : Int} (w : World) (ha : I64 a) (hb : I64 b) (hc : I64 c) (hD : DivFor (DivOK 137) a b c) (h : ¬ mdOk a b c) :
    Calls Try.prog 59 #[.int .i64 a, .int .i64 b, .int .i64 c] w fun e w' => e = .returned (.tuple #[.int .i64 0, .bool false]) ∧ Below w.heap.size w w' := by
  have Sa := Lib.hid (fun w => size_any a w ha.1 ha.2)
  have Sb := Lib.hid (fun w => size_any b w hb.1 hb.2)
  have Sc := Lib.hid (fun w => size_any c w hc.1 hc.2)
  have HM := Lib.hid (fun w => vmul_any a.natAbs b.natAbs (nat_lt64 ha) (nat_lt64 hb) w)
  by_cases hlt : a.natAbs * b.natAbs / 18446744073709551616 < c.natAbs
  · have HD := Lib.hid (div_any (hD hlt))
    have e : (a.natAbs * b.natAbs / 18446744073709551616 * 18446744073709551616 + a.natAbs * b.natAbs % 18446744073709551616) / c.natAbs = mdN a b c := by
      unfold mdN; rw [Nat.div_add_mod']
    unfold DivOK at HD
    rw [e] at HD
    have hc0 : c ≠ 0 := by omega
    cases hs : mdS a b c with
    | false =>
      refine md_fb a b c w _ _ _ _ _ hs Sa Sb Sc HM hlt _ _ HD ?_
      have e2 := md_pos hs
      apply Int.lt_of_not_ge
      intro hle
      exact h ⟨hc0, by rw [e2]; omega, by rw [e2]; omega⟩
    | true =>
      refine md_tb a b c w _ _ _ _ _ hs Sa Sb Sc HM hlt _ _ HD ?_
      have e2 := md_neg hs
      apply Int.lt_of_not_ge
      intro hle
      exact h ⟨hc0, by rw [e2]; omega, by rw [e2]; omega⟩
  · cases hs : mdS a b c with
    | false => exact md_fa a b c w _ _ _ _ _ hs Sa Sb Sc HM (by omega)
    | true => exact md_ta a b c w _ _ _ _ _ hs Sa Sb Sc HM (by omega)
set_option maxRecDepth 100000 in
theorem md_yes {a b c : Int} (w : World) (ha : I64 a) (hb : I64 b) (hc : I64 c) (hD : DivFor (DivOK 137) a b c) (h : mdOk a b c) :
    Calls Try.prog 59 #[.int .i64 a, .int .i64 b, .int .i64 c] w fun e w' => e = .returned (.tuple #[.int .i64 ((a * b).tdiv c), .bool true]) ∧ Below w.heap.size w w' := by
  have Sa := Lib.hid (fun w => size_any a w ha.1 ha.2)
  have Sb := Lib.hid (fun w => size_any b w hb.1 hb.2)
  have Sc := Lib.hid (fun w => size_any c w hc.1 hc.2)
  have HM := Lib.hid (fun w => vmul_any a.natAbs b.natAbs (nat_lt64 ha) (nat_lt64 hb) w)
  obtain ⟨hc0, h1, h2⟩ := h
  have hq : mdN a b c ≤ 9223372036854775808 := by
    cases hs : mdS a b c with
    | false => rw [md_pos hs] at h2; omega
    | true => rw [md_neg hs] at h1; omega
  have hlt : a.natAbs * b.natAbs / 18446744073709551616 < c.natAbs := by
    unfold mdN at hq
    generalize a.natAbs * b.natAbs = X at *
    have h4 := Nat.lt_mul_div_succ X (show 0 < c.natAbs by omega)
    have h5 : c.natAbs * (X / c.natAbs + 1) ≤ c.natAbs * 9223372036854775809 := Nat.mul_le_mul_left _ (by omega)
    omega
  have HD := Lib.hid (div_any (hD hlt))
  have e : (a.natAbs * b.natAbs / 18446744073709551616 * 18446744073709551616 + a.natAbs * b.natAbs % 18446744073709551616) / c.natAbs = mdN a b c := by
    unfold mdN; rw [Nat.div_add_mod']
  unfold DivOK at HD
  rw [e] at HD
  cases hs : mdS a b c with
  | false =>
    have e2 := md_pos hs
    rw [e2] at h2 ⊢
    exact md_fc a b c w _ _ _ _ _ hs Sa Sb Sc HM hlt _ _ HD h2
  | true =>
    have e2 := md_neg hs
    rw [e2] at h1 ⊢
    exact md_tc a b c w _ _ _ _ _ hs Sa Sb Sc HM hlt _ _ HD (by omega)
set_option maxRecDepth 100000 in
/-- Where the product is a word, the division is short. -/
theorem div_short {a b c : Int} (hc : I64 c) (h : a.natAbs * b.natAbs < 18446744073709551616) : DivFor (DivOK 137) a b c := by
  intro hlt
  rw [Nat.div_eq_of_lt h] at hlt ⊢
  exact div64_low _ _ (Nat.mod_lt _ (by decide)) hlt (nat_lt64 hc)
end Go.Proofs.Ytdgfmkideghhaaa

namespace Go.Proofs.Ytdgfmkideghhaaa
open Go.ChangeShapes Go.WideShapes Go.ChangeAt Go.RowKit PB VB
set_option maxRecDepth 100000 in
theorem own0 : ownKnob Try.prog.godebug = none := by kernel_rfl
set_option maxRecDepth 100000 in
theorem laidOut0 : laidOutB Try.prog = true := by kernel_rfl
set_option maxRecDepth 100000 in
theorem wf_i64 {n : Int} (h : (Lit.int .i64 n).wf = true) : I64 n := by
  unfold Lit.wf at h
  simp only [Bool.and_eq_true, decide_eq_true_eq] at h
  exact ⟨h.1, h.2⟩
set_option maxRecDepth 100000 in
theorem open_vec {H : Type} {enc : TypeId × Value → H} {W : World} {base : Nat} {v : Value} {d : DataW H} {p : List MemPlace}
    (hv : Value.okWide Try.prog W .any base 41 v) (h : DataW.Trod enc Try.prog W 0 (fun _ => true) true 41 v d p) :
    ∃ x y : Int, v = vec x y ∧ I64 x ∧ I64 y := by
  obtain ⟨v0, v1, y0, y1, k, rfl, _, _, h0, h1⟩ := Go.Joins.open_agg2 Try.underlying41 (by kernel_rfl) (by kernel_rfl) hv h
  obtain ⟨x, hx, _, wx⟩ := DataW.trod_int Try.underlying3 h0
  obtain ⟨y, hy, _, wy⟩ := DataW.trod_int Try.underlying3 h1
  obtain rfl : v0 = .int .i64 x := by simpa using hx
  obtain rfl : v1 = .int .i64 y := by simpa using hy
  exact ⟨x, y, rfl, wf_i64 wx, wf_i64 wy⟩
end Go.Proofs.Ytdgfmkideghhaaa

/-
  MulDiv: what it returns, with the division of two words as a premise; the floor and the ceiling of a quotient.
-/
import Derived.Test.YtejodcpigfbnpaaVNum
namespace VB
/-- The quotient is an int. -/
def mdOk (a b c : Int) : Prop := c ≠ 0 ∧ -9223372036854775808 ≤ (a * b).tdiv c ∧ (a * b).tdiv c ≤ 9223372036854775807
/-- An int. -/
def I64 (n : Int) : Prop := -9223372036854775808 ≤ n ∧ n ≤ 9223372036854775807
theorem nat_lt64 {n : Int} (h : I64 n) : n.natAbs < 18446744073709551616 := by unfold I64 at h; omega
/-- What the division of two words is needed for. -/
def DivFor (D : Nat → Nat → Nat → Prop) (a b c : Int) : Prop := a.natAbs * b.natAbs / 18446744073709551616 < c.natAbs → D (a.natAbs * b.natAbs / 18446744073709551616) (a.natAbs * b.natAbs % 18446744073709551616) c.natAbs
end VB
namespace Go.Proofs.Ytejodcpigfbnpaa
open Go.RowKit PB VB
set_option maxRecDepth 100000 in
theorem md_no {a b c : Int} (w : World) (ha : I64 a) (hb : I64 b) (hc : I64 c) (hD : DivFor (DivOK 64) a b c) (h : ¬ mdOk a b c) :
    Calls Try.prog 30 #[.int .i64 a, .int .i64 b, .int .i64 c] w fun e w' => e = .returned (.tuple #[.int .i64 0, .bool false]) ∧ Below w.heap.size w w' := by
  have Sa := Lib.hid (fun w => size_any a w ha.1 ha.2)
  have Sb := Lib.hid (fun w => size_any b w hb.1 hb.2)
  have Sc := Lib.hid (fun w => size_any c w hc.1 hc.2)
  have HM := Lib.hid (fun w => vmul_any a.natAbs b.natAbs (nat_lt64 ha) (nat_lt64 hb) w)
  by_cases hlt : a.natAbs * b.natAbs / 18446744073709551616 < c.natAbs
  · have HD := Lib.hid (div_any (hD hlt))
    have e : (a.natAbs * b.natAbs / 18446744073709551616 * 18446744073709551616 + a.natAbs * b.natAbs % 18446744073709551616) / c.natAbs = mdN a b c := by
      unfold mdN; rw [Nat.div_add_mod']
    unfold DivOK at HD
    rw [e] at HD
    have hc0 : c ≠ 0 := by omega
    cases hs : mdS a b c with
    | false =>
      refine md_fb a b c w _ _ _ _ _ hs Sa Sb Sc HM hlt _ _ HD ?_
      have e2 := md_pos hs
      apply Int.lt_of_not_ge
      intro hle
      exact h ⟨hc0, by rw [e2]; omega, by rw [e2]; omega⟩
    | true =>
      refine md_tb a b c w _ _ _ _ _ hs Sa Sb Sc HM hlt _ _ HD ?_
      have e2 := md_neg hs
      apply Int.lt_of_not_ge
      intro hle
      exact h ⟨hc0, by rw [e2]; omega, by rw [e2]; omega⟩
  · cases hs : mdS a b c with
    | false => exact md_fa a b c w _ _ _ _ _ hs Sa Sb Sc HM (by omega)
    | true => exact md_ta a b c w _ _ _ _ _ hs Sa Sb Sc HM (by omega)
set_option maxRecDepth 100000 in
theorem md_yes {a b c : Int} (w : World) (ha : I64 a) (hb : I64 b) (hc : I64 c) (hD : DivFor (DivOK 64) a b c) (h : mdOk a b c) :
    Calls Try.prog 30 #[.int .i64 a, .int .i64 b, .int .i64 c] w fun e w' => e = .returned (.tuple #[.int .i64 ((a * b).tdiv c), .bool true]) ∧ Below w.heap.size w w' := by
  have Sa := Lib.hid (fun w => size_any a w ha.1 ha.2)
  have Sb := Lib.hid (fun w => size_any b w hb.1 hb.2)
  have Sc := Lib.hid (fun w => size_any c w hc.1 hc.2)
  have HM := Lib.hid (fun w => vmul_any a.natAbs b.natAbs (nat_lt64 ha) (nat_lt64 hb) w)
  obtain ⟨hc0, h1, h2⟩ := h
  have hq : mdN a b c ≤ 9223372036854775808 := by
    cases hs : mdS a b c with
    | false => rw [md_pos hs] at h2; omega
    | true => rw [md_neg hs] at h1; omega
  have hlt : a.natAbs * b.natAbs / 18446744073709551616 < c.natAbs := by
    unfold mdN at hq
    generalize a.natAbs * b.natAbs = X at *
    have h4 := Nat.lt_mul_div_succ X (show 0 < c.natAbs by omega)
    have h5 : c.natAbs * (X / c.natAbs + 1) ≤ c.natAbs * 9223372036854775809 := Nat.mul_le_mul_left _ (by omega)
    omega
  have HD := Lib.hid (div_any (hD hlt))
  have e : (a.natAbs * b.natAbs / 18446744073709551616 * 18446744073709551616 + a.natAbs * b.natAbs % 18446744073709551616) / c.natAbs = mdN a b c := by
    unfold mdN; rw [Nat.div_add_mod']
  unfold DivOK at HD
  rw [e] at HD
  cases hs : mdS a b c with
  | false =>
    have e2 := md_pos hs
    rw [e2] at h2 ⊢
    exact md_fc a b c w _ _ _ _ _ hs Sa Sb Sc HM hlt _ _ HD h2
  | true =>
    have e2 := md_neg hs
    rw [e2] at h1 ⊢
    exact md_tc a b c w _ _ _ _ _ hs Sa Sb Sc HM hlt _ _ HD (by omega)
set_option maxRecDepth 100000 in
/-- Where the product is a word, the division is short. -/
theorem div_short {a b c : Int} (hc : I64 c) (h : a.natAbs * b.natAbs < 18446744073709551616) : DivFor (DivOK 64) a b c := by
  intro hlt
  rw [Nat.div_eq_of_lt h] at hlt ⊢
  exact div64_low _ _ (Nat.mod_lt _ (by decide)) hlt (nat_lt64 hc)
end Go.Proofs.Ytejodcpigfbnpaa

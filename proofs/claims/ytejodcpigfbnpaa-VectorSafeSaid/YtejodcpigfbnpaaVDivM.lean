/-
  Plain arithmetic of a long division by two half words.
-/
import Derived.Test.YtejodcpigfbnpaaVNum
namespace VB
/-- The numbers of one step: Y the divisor, U the head, u the next half word. -/
structure Sd (U Y y1 y0 u : Nat) : Prop where
  hY : Y = y1 * 4294967296 + y0
  hy0 : y0 < 4294967296
  hy1 : 2147483648 ≤ y1
  hy2 : y1 < 4294967296
  hu : u < 4294967296
  hU : U < Y
theorem Sd.pos {U Y y1 y0 u : Nat} (h : Sd U Y y1 y0 u) : 0 < Y := by have := h.hU; omega
/-- The estimate q with the rest r. -/
structure Es (U Y y1 y0 u q r : Nat) : Prop where
  e : q * y1 + r = U
  le : (U * 4294967296 + u) / Y ≤ q
  hr : r < 4294967296
  hq : q ≤ 4294967297
theorem dig_lt {U Y y1 y0 u : Nat} (h : Sd U Y y1 y0 u) : (U * 4294967296 + u) / Y < 4294967296 := by
  apply Nat.div_lt_of_lt_mul
  have h1 := h.hU
  have h2 := h.hu
  have h3 : (U + 1) * 4294967296 ≤ Y * 4294967296 := Nat.mul_le_mul_right _ h1
  omega
theorem es_init {U Y y1 y0 u : Nat} (h : Sd U Y y1 y0 u) : Es U Y y1 y0 u (U / y1) (U % y1) := by
  have h1 := h.hy1; have h2 := h.hy2; have hU := h.hU; have hY := h.hY; have h0 := h.hy0; have hu := h.hu
  have e := Nat.div_add_mod U y1
  have hr := Nat.mod_lt U (show 0 < y1 by omega)
  refine ⟨by rw [Nat.mul_comm]; exact e, ?_, by omega, ?_⟩
  · rw [Nat.div_le_iff_le_mul_add_pred h.pos]
    have e2 : Y * (U / y1) = (y1 * (U / y1)) * 4294967296 + y0 * (U / y1) := by rw [hY]; grind
    omega
  · have h3 : U / y1 < 4294967298 := by
      apply Nat.div_lt_of_lt_mul
      omega
    omega
theorem es_dec {U Y y1 y0 u q r : Nat} (h : Sd U Y y1 y0 u) (s : Es U Y y1 y0 u q r) (ht : 4294967296 ≤ q ∨ 4294967296 * r + u < q * y0) :
    1 ≤ q ∧ (q - 1) * y1 + (r + y1) = U ∧ (U * 4294967296 + u) / Y ≤ q - 1 ∧ q - 1 ≤ 4294967296 := by
  have hY := h.hY
  have hlt : (U * 4294967296 + u) / Y < q := by
    rcases ht with ht | ht
    · exact Nat.lt_of_lt_of_le (dig_lt h) ht
    · apply Nat.div_lt_of_lt_mul
      have e := s.e
      have e2 : Y * q = q * y1 * 4294967296 + q * y0 := by rw [hY]; grind
      have e3 : (q * y1 + r) * 4294967296 = q * y1 * 4294967296 + 4294967296 * r := by grind
      rw [← e]
      omega
  have hq := s.hq
  generalize (U * 4294967296 + u) / Y = D at *
  refine ⟨by omega, ?_, by omega, by omega⟩
  obtain ⟨p, rfl⟩ : ∃ p, q = p + 1 := ⟨q - 1, by omega⟩
  have e := s.e
  have e2 : (p + 1) * y1 = p * y1 + y1 := by grind
  rw [Nat.add_sub_cancel]
  omega
theorem es_done {U Y y1 y0 u q r : Nat} (h : Sd U Y y1 y0 u) (e : q * y1 + r = U) (le : (U * 4294967296 + u) / Y ≤ q) (ht : q * y0 ≤ 4294967296 * r + u) : q = (U * 4294967296 + u) / Y := by
  have hY := h.hY
  apply Nat.le_antisymm _ le
  rw [Nat.le_div_iff_mul_le h.pos]
  have e2 : q * Y = q * y1 * 4294967296 + q * y0 := by rw [hY]; grind
  have e3 : (q * y1 + r) * 4294967296 = q * y1 * 4294967296 + 4294967296 * r := by grind
  rw [← e]
  omega
theorem es_break {U Y y1 y0 u q r : Nat} (h : Sd U Y y1 y0 u) (e : q * y1 + r = U) (le : (U * 4294967296 + u) / Y ≤ q) (hq : q ≤ 4294967296) (hr : 4294967296 ≤ r) : q = (U * 4294967296 + u) / Y := by
  refine es_done h e le ?_
  have h0 := h.hy0
  have h1 : q * y0 ≤ 4294967296 * 4294967295 := Nat.mul_le_mul hq (by omega)
  omega
/-- The rest of one step is less than the divisor. -/
theorem step_rest {U Y y1 y0 u : Nat} (h : Sd U Y y1 y0 u) : U * 4294967296 + u - (U * 4294967296 + u) / Y * Y < Y ∧ (U * 4294967296 + u) / Y * Y ≤ U * 4294967296 + u := by
  have e := Nat.div_add_mod (U * 4294967296 + u) Y
  have hl := Nat.mod_lt (U * 4294967296 + u) h.pos
  rw [Nat.mul_comm] at e
  omega
/-- Both steps together. -/
theorem two_steps {N U Y u1 u0 K : Nat} (hY : 0 < Y) (hN : N = (U * K + u1) * K + u0) (V : Nat) (hV : V = U * K + u1 - (U * K + u1) / Y * Y) :
    N / Y = (U * K + u1) / Y * K + (V * K + u0) / Y ∧ N % Y = V * K + u0 - (V * K + u0) / Y * Y := by
  generalize U * K + u1 = M at *
  have e1 := Nat.div_add_mod M Y
  have hV2 : V = M % Y := by rw [Nat.mul_comm] at e1; omega
  rw [← hV2] at e1
  have e2 := Nat.div_add_mod (V * K + u0) Y
  have l2 := Nat.mod_lt (V * K + u0) hY
  generalize M / Y = q1 at *
  have hr : V * K + u0 - (V * K + u0) / Y * Y = (V * K + u0) % Y := by rw [Nat.mul_comm] at e2; omega
  rw [hr]
  have e3 : N = Y * (q1 * K + (V * K + u0) / Y) + (V * K + u0) % Y := by
    have e4 : Y * (q1 * K + (V * K + u0) / Y) = Y * q1 * K + Y * ((V * K + u0) / Y) := by grind
    have e5 : (Y * q1 + V) * K = Y * q1 * K + V * K := Nat.add_mul ..
    rw [hN, ← e1]
    omega
  constructor
  · rw [e3, Nat.mul_add_div hY, Nat.div_eq_of_lt l2, Nat.add_zero]
  · rw [e3, Nat.mul_add_mod, Nat.mod_eq_of_lt l2]
end VB

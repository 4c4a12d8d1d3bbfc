/-
  math/bits.Div64 at any two words.
-/
import Derived.Test.YtejodcpigfbnpaaVDiv
import Derived.Test.YtejodcpigfbnpaaVMul
import Derived.Laws.BitsAllLaws
import Derived.Lib.ItoaNum
import Derived.Lib.BitFns
namespace VB
open Go Go.RowKit PB
theorem mask32 (x : Nat) (hx : x < 18446744073709551616) : bits BinOp.and IntKind.u64 (x : Int) 4294967295 = ((x % 4294967296 : Nat) : Int) := by
  have h := u64_and_nat x 4294967295 hx (by decide)
  rw [show x &&& 4294967295 = x % 4294967296 from Nat.and_two_pow_sub_one_eq_mod x 32] at h
  exact h
/-- The shift that makes the divisor's highest bit one. -/
structure Nrm (y s : Nat) : Prop where
  hs : s ≤ 63
  lo : 9223372036854775808 ≤ y * 2^s
  hi : y * 2^s < 18446744073709551616
  p : 2^s * 2^(64 - s) = 18446744073709551616
theorem nrm_of {y : Nat} (h0 : y ≠ 0) (h : y < 18446744073709551616) : Nrm y (64 - Lib.bitLen y) ∧ Lib.bitLen y ≤ 64 := by
  have hb := Lib.bitLenAux_bounds 64 y h h0
  have hl : Lib.bitLen y ≤ 64 := Lib.bitLen_le y 64 (by decide) h
  have he : Lib.bitLen y = Lib.bitLenAux 64 y := rfl
  rw [← he] at hb
  generalize Lib.bitLen y = L at *
  obtain ⟨b1, b2, b3⟩ := hb
  refine ⟨⟨by omega, ?_, ?_, ?_⟩, hl⟩
  · have h1 : 2^(L-1) * 2^(64 - L) ≤ y * 2^(64 - L) := Nat.mul_le_mul_right _ b2
    rw [← Nat.pow_add, show L - 1 + (64 - L) = 63 by omega] at h1
    exact h1
  · have h1 : y * 2^(64 - L) < 2^L * 2^(64 - L) := Nat.mul_lt_mul_of_pos_right b3 (Nat.pow_pos (by decide))
    rw [← Nat.pow_add, show L + (64 - L) = 64 by omega] at h1
    exact h1
  · rw [← Nat.pow_add, show 64 - L + (64 - (64 - L)) = 64 by omega]
theorem parts_of {hi lo y s : Nat} (n : Nrm y s) (h1 : hi < y) (hlo : lo < 18446744073709551616) :
    lo / 2^(64 - s) < 2^s ∧ hi * 2^s + lo / 2^(64 - s) < y * 2^s ∧ lo * 2^s = lo / 2^(64 - s) * 18446744073709551616 + lo * 2^s % 18446744073709551616 := by
  have hp := n.p
  have ha : 0 < 2^s := Nat.pow_pos (by decide)
  have hb : 0 < 2^(64 - s) := Nat.pow_pos (by decide)
  have e1 : lo / 2^(64 - s) < 2^s := by
    apply Nat.div_lt_of_lt_mul
    rw [Nat.mul_comm, hp]; exact hlo
  refine ⟨e1, ?_, ?_⟩
  · have h2 : (hi + 1) * 2^s ≤ y * 2^s := Nat.mul_le_mul_right _ h1
    rw [Nat.add_mul, Nat.one_mul] at h2
    omega
  · have e2 : lo * 2^s / 18446744073709551616 = lo / 2^(64 - s) := by
      rw [← hp, Nat.mul_comm (2^s) (2^(64-s)), Nat.mul_div_mul_right _ _ ha]
    have e3 := Nat.div_add_mod (lo * 2^s) 18446744073709551616
    rw [e2] at e3
    omega
theorem wrap_sub64 (A P u V : Nat) (h : V + P = A * 4294967296 + u) (hV : V < 18446744073709551616) : IntKind.u64.wrap (IntKind.u64.wrap (IntKind.u64.wrap ((A : Int) * 4294967296) + u) - IntKind.u64.wrap (P : Int)) = V := by
  simp only [IntKind.wrap_u64]
  omega
end VB
namespace Go.Proofs.Ytejodcpigfbnpaa
open Go.RowKit PB VB
set_option maxRecDepth 100000 in
theorem div64_ok {hi lo y : Nat} (h1 : hi < y) (hlo : lo < 18446744073709551616) (hy : y < 18446744073709551616) : DivOK 64 hi lo y := by
  by_cases h0 : hi = 0
  · subst h0; exact div64_low lo y hlo h1 hy
  · intro w
    obtain ⟨n, hl⟩ := nrm_of (show y ≠ 0 by omega) hy
    have HL := Lib.hid (fun w => (show Calls Try.prog 80 #[.int .u64 y] w fun e w' => e = .returned (.int .i64 ((64 - Lib.bitLen y : Nat) : Int)) ∧ w = w' from by
      have h := Try.bits_LeadingZeros64 y w (by omega) (by omega)
      rw [show (64 - (Lib.bitLen (y : Int).toNat : Int)) = ((64 - Lib.bitLen y : Nat) : Int) by rw [Int.toNat_natCast]; omega] at h
      exact h.mono fun _ _ h => ⟨h.1, h.2.symm⟩))
    generalize 64 - Lib.bitLen y = s at *
    clear hl
    obtain ⟨p1, p2, p3⟩ := parts_of n h1 hlo
    have n1 := n.lo
    have n2 := n.hi
    have hU : hi * 2^s < 18446744073709551616 := by omega
    have hpow : ((2 : Int)^s) = ((2^s : Nat) : Int) := by push_cast; rfl
    have hpow2 : ((2 : Int)^(64 - s)) = ((2^(64 - s) : Nat) : Int) := by push_cast; rfl
    have fY : IntKind.u64.wrap ((y : Int) * 2 ^ s) = ((y * 2^s : Nat) : Int) := by rw [hpow, ← Int.natCast_mul]; exact wrap_id (by omega) (by omega)
    have fU : bits BinOp.or IntKind.u64 (IntKind.u64.wrap ((hi : Int) * 2 ^ s)) ((lo : Int) / 2 ^ (64 - s)) = ((hi * 2^s + lo / 2^(64 - s) : Nat) : Int) := by
      rw [hpow, ← Int.natCast_mul, wrap_id (by omega) (by omega), hpow2, show (lo : Int) / ((2^(64 - s) : Nat) : Int) = ((lo / 2^(64 - s) : Nat) : Int) from rfl, u64_or_nat _ _ hU (by omega), nat_join s _ _ (Nat.mul_mod_left _ _) p1]
    have fT : IntKind.u64.wrap ((lo : Int) * 2 ^ s) = ((lo * 2^s % 18446744073709551616 : Nat) : Int) := by rw [hpow, ← Int.natCast_mul, IntKind.wrap_u64]; rfl
    have hTl : lo * 2^s % 18446744073709551616 < 18446744073709551616 := Nat.mod_lt _ (by decide)
    have hN : (hi * 18446744073709551616 + lo) * 2^s = (hi * 2^s + lo / 2^(64 - s)) * 18446744073709551616 + lo * 2^s % 18446744073709551616 := by
      have e1 : (hi * 18446744073709551616 + lo) * 2^s = hi * 2^s * 18446744073709551616 + lo * 2^s := by grind
      rw [e1, Nat.add_mul]
      omega
    have hdiv : (hi * 18446744073709551616 + lo) * 2^s / (y * 2^s) = (hi * 18446744073709551616 + lo) / y := Nat.mul_div_mul_right _ _ (Nat.pow_pos (by decide))
    have hmod : (hi * 18446744073709551616 + lo) * 2^s % (y * 2^s) = (hi * 18446744073709551616 + lo) % y * 2^s := Nat.mul_mod_mul_right ..
    generalize hi * 2^s + lo / 2^(64 - s) = U at *
    generalize lo * 2^s % 18446744073709551616 = T at *
    generalize hYY : y * 2^s = Y at *
    have S1 : Sd U Y (Y / 4294967296) (Y % 4294967296) (T / 4294967296) := ⟨by omega, by omega, by omega, by omega, by omega, p2⟩
    obtain ⟨r1, r2⟩ := step_rest S1
    obtain ⟨V, hV⟩ : ∃ V, U * 4294967296 + T / 4294967296 - (U * 4294967296 + T / 4294967296) / Y * Y = V := ⟨_, rfl⟩
    rw [hV] at r1
    have S0 : Sd V Y (Y / 4294967296) (Y % 4294967296) (T % 4294967296) := ⟨by omega, by omega, by omega, by omega, by omega, r1⟩
    obtain ⟨t1, t2⟩ := step_rest S0
    have hts := two_steps (N := (hi * 18446744073709551616 + lo) * 2^s) (K := 4294967296) (U := U) (u1 := T / 4294967296) (u0 := T % 4294967296) S1.pos (by rw [hN]; omega) V hV.symm
    rw [hdiv, hmod] at hts
    have hw := div64_walk hi lo y s Y (Y / 4294967296) (Y % 4294967296) U T (T / 4294967296) (T % 4294967296) V _ _ ((hi * 18446744073709551616 + lo) % y * 2^s) w h1 (by omega) n.hs HL fY rfl (mask32 Y n2) fU fT rfl (mask32 T hTl) S1 S0 rfl rfl
      (by rw [← Int.natCast_mul]; exact wrap_sub64 _ _ _ _ (by omega) (by omega)) (by rw [← Int.natCast_mul]; exact wrap_sub64 _ _ _ _ (by rw [hts.2]; omega) (by rw [hts.2]; omega)) (by omega) (by omega)
    rw [hts.1]
    have hr : (((hi * 18446744073709551616 + lo) % y * 2^s : Nat) : Int) / 2^s = (((hi * 18446744073709551616 + lo) % y : Nat) : Int) := by
      rw [hpow, ← Int.natCast_ediv, Nat.mul_div_cancel _ (Nat.pow_pos (by decide))]
    rw [hr] at hw
    refine hw.mono fun e w' h => ⟨?_, h.2⟩
    rw [h.1]
    congr 4
set_option maxRecDepth 100000 in
/-- The division that MulDiv needs. -/
theorem div_for {a b c : Int} (hc : I64 c) : DivFor (DivOK 64) a b c := fun h => div64_ok h (Nat.mod_lt _ (by decide)) (nat_lt64 hc)
end Go.Proofs.Ytejodcpigfbnpaa

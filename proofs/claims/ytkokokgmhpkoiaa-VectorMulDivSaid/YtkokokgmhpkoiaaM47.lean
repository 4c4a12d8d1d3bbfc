/-
  math/bits.Div64 at any two words.
  Dot, Cross, Turn of package vector and of the document's reference; flip.
  The floor and the ceiling of a quotient of a product.
-/
import Derived.Laws.BitsAllLaws
import Derived.Lib.ItoaNum
import Derived.Lib.BitFns
import Derived.Test.YtkokokgmhpkoiaaM02
import Derived.Test.YtkokokgmhpkoiaaM04
import Derived.Test.YtkokokgmhpkoiaaM46
namespace VB
open Go Go.RowKit PB
theorem mask32 (x : Nat) (hx : x < 18446744073709551616) : bits BinOp.and IntKind.u64 (x : Int) 4294967295 = ((x % 4294967296 : Nat) : Int) := by
  have h := u64_and_nat x 4294967295 hx (by decide)
  rw [show x &&& 4294967295 = x % 4294967296 from Nat.and_two_pow_sub_one_eq_mod x 32] at h
  exact h
/-- The shift that makes the divisor's highest bit one. -/
structure Nrm (y s : Nat) : Prop where
  hs : s ≤ 63
  lo : 9223372036854775808 ≤ y * 2^s
  hi : y * 2^s < 18446744073709551616
  p : 2^s * 2^(64 - s) = 18446744073709551616
theorem nrm_of {y : Nat} (h0 : y ≠ 0) (h : y < 18446744073709551616) : Nrm y (64 - Lib.bitLen y) ∧ Lib.bitLen y ≤ 64 := by
  have hb := Lib.bitLenAux_bounds 64 y h h0
  have hl : Lib.bitLen y ≤ 64 := Lib.bitLen_le y 64 (by decide) h
  have he : Lib.bitLen y = Lib.bitLenAux 64 y := rfl
  rw [← he] at hb
  generalize Lib.bitLen y = L at *
  obtain ⟨b1, b2, b3⟩ := hb
  refine ⟨⟨by omega, ?_, ?_, ?_⟩, hl⟩
  · have h1 : 2^(L-1) * 2^(64 - L) ≤ y * 2^(64 - L) := Nat.mul_le_mul_right _ b2
    rw [← Nat.pow_add, show L - 1 + (64 - L) = 63 by omega] at h1
    exact h1
  · have h1 : y * 2^(64 - L) < 2^L * 2^(64 - L) := Nat.mul_lt_mul_of_pos_right b3 (Nat.pow_pos (by decide))
    rw [← Nat.pow_add, show L + (64 - L) = 64 by omega] at h1
    exact h1
  · rw [← Nat.pow_add, show 64 - L + (64 - (64 - L)) = 64 by omega]
theorem parts_of {hi lo y s : Nat} (n : Nrm y s) (h1 : hi < y) (hlo : lo < 18446744073709551616) :
    lo / 2^(64 - s) < 2^s ∧ hi * 2^s + lo / 2^(64 - s) < y * 2^s ∧ lo * 2^s = lo / 2^(64 - s) * 18446744073709551616 + lo * 2^s % 18446744073709551616 := by
  have hp := n.p
  have ha : 0 < 2^s := Nat.pow_pos (by decide)
  have hb : 0 < 2^(64 - s) := Nat.pow_pos (by decide)
  have e1 : lo / 2^(64 - s) < 2^s := by
    apply Nat.div_lt_of_lt_mul
    rw [Nat.mul_comm, hp]; exact hlo
  refine ⟨e1, ?_, ?_⟩
  · have h2 : (hi + 1) * 2^s ≤ y * 2^s := Nat.mul_le_mul_right _ h1
    rw [Nat.add_mul, Nat.one_mul] at h2
    omega
  · have e2 : lo * 2^s / 18446744073709551616 = lo / 2^(64 - s) := by
      rw [← hp, Nat.mul_comm (2^s) (2^(64-s)), Nat.mul_div_mul_right _ _ ha]
    have e3 := Nat.div_add_mod (lo * 2^s) 18446744073709551616
    rw [e2] at e3
    omega
theorem wrap_sub64 (A P u V : Nat) (h : V + P = A * 4294967296 + u) (hV : V < 18446744073709551616) : IntKind.u64.wrap (IntKind.u64.wrap (IntKind.u64.wrap ((A : Int) * 4294967296) + u) - IntKind.u64.wrap (P : Int)) = V := by
  simp only [IntKind.wrap_u64]
  omega
end VB
namespace Go.Proofs.Ytkokokgmhpkoiaa
open Go.RowKit PB VB
set_option maxRecDepth 100000 in
theorem div64_ok {hi lo y : Nat} (h1 : hi < y) (hlo : lo < 18446744073709551616) (hy : y < 18446744073709551616) : DivOK 137 hi lo y := by
  by_cases h0 : hi = 0
  · subst h0; exact div64_low lo y hlo h1 hy
  · intro w
    obtain ⟨n, hl⟩ := nrm_of (show y ≠ 0 by omega) hy
    have HL := Lib.hid (fun w => (show Calls Try.prog 152 #[.int .u64 y] w fun e w' => e = .returned (.int .i64 ((64 - Lib.bitLen y : Nat) : Int)) ∧ w = w' from by
      have h := Try.bits_LeadingZeros64 y w (by omega) (by omega)
      rw [show (64 - (Lib.bitLen (y : Int).toNat : Int)) = ((64 - Lib.bitLen y : Nat) : Int) by rw [Int.toNat_natCast]; omega] at h
      exact h.mono fun _ _ h => ⟨h.1, h.2.symm⟩))
    generalize 64 - Lib.bitLen y = s at *
    clear hl
    obtain ⟨p1, p2, p3⟩ := parts_of n h1 hlo
    have n1 := n.lo
    have n2 := n.hi
    have hU : hi * 2^s < 18446744073709551616 := by omega
    have hpow : ((2 : Int)^s) = ((2^s : Nat) : Int) := by push_cast; rfl
    have hpow2 : ((2 : Int)^(64 - s)) = ((2^(64 - s) : Nat) : Int) := by push_cast; rfl
    have fY : IntKind.u64.wrap ((y : Int) * 2 ^ s) = ((y * 2^s : Nat) : Int) := by rw [hpow, ← Int.natCast_mul]; exact wrap_id (by omega) (by omega)
    have fU : bits BinOp.or IntKind.u64 (IntKind.u64.wrap ((hi : Int) * 2 ^ s)) ((lo : Int) / 2 ^ (64 - s)) = ((hi * 2^s + lo / 2^(64 - s) : Nat) : Int) := by
      rw [hpow, ← Int.natCast_mul, wrap_id (by omega) (by omega), hpow2, show (lo : Int) / ((2^(64 - s) : Nat) : Int) = ((lo / 2^(64 - s) : Nat) : Int) from rfl, u64_or_nat _ _ hU (by omega), nat_join s _ _ (Nat.mul_mod_left _ _) p1]
    have fT : IntKind.u64.wrap ((lo : Int) * 2 ^ s) = ((lo * 2^s % 18446744073709551616 : Nat) : Int) := by rw [hpow, ← Int.natCast_mul, IntKind.wrap_u64]; rfl
    have hTl : lo * 2^s % 18446744073709551616 < 18446744073709551616 := Nat.mod_lt _ (by decide)
    have hN : (hi * 18446744073709551616 + lo) * 2^s = (hi * 2^s + lo / 2^(64 - s)) * 18446744073709551616 + lo * 2^s % 18446744073709551616 := by
      have e1 : (hi * 18446744073709551616 + lo) * 2^s = hi * 2^s * 18446744073709551616 + lo * 2^s := by grind
      rw [e1, Nat.add_mul]
      omega
    have hdiv : (hi * 18446744073709551616 + lo) * 2^s / (y * 2^s) = (hi * 18446744073709551616 + lo) / y := Nat.mul_div_mul_right _ _ (Nat.pow_pos (by decide))
    have hmod : (hi * 18446744073709551616 + lo) * 2^s % (y * 2^s) = (hi * 18446744073709551616 + lo) % y * 2^s := Nat.mul_mod_mul_right ..
    generalize hi * 2^s + lo / 2^(64 - s) = U at *
    generalize lo * 2^s % 18446744073709551616 = T at *
    generalize hYY : y * 2^s = Y at *
    have S1 : Sd U Y (Y / 4294967296) (Y % 4294967296) (T / 4294967296) := ⟨by omega, by omega, by omega, by omega, by omega, p2⟩
    obtain ⟨r1, r2⟩ := step_rest S1
    obtain ⟨V, hV⟩ : ∃ V, U * 4294967296 + T / 4294967296 - (U * 4294967296 + T / 4294967296) / Y * Y = V := ⟨_, rfl⟩
    rw [hV] at r1
    have S0 : Sd V Y (Y / 4294967296) (Y % 4294967296) (T % 4294967296) := ⟨by omega, by omega, by omega, by omega, by omega, r1⟩
    obtain ⟨t1, t2⟩ := step_rest S0
    have hts := two_steps (N := (hi * 18446744073709551616 + lo) * 2^s) (K := 4294967296) (U := U) (u1 := T / 4294967296) (u0 := T % 4294967296) S1.pos (by rw [hN]; omega) V hV.symm
    rw [hdiv, hmod] at hts
    have hw := div64_walk hi lo y s Y (Y / 4294967296) (Y % 4294967296) U T (T / 4294967296) (T % 4294967296) V _ _ ((hi * 18446744073709551616 + lo) % y * 2^s) w h1 (by omega) n.hs HL fY rfl (mask32 Y n2) fU fT rfl (mask32 T hTl) S1 S0 rfl rfl
      (by rw [← Int.natCast_mul]; exact wrap_sub64 _ _ _ _ (by omega) (by omega)) (by rw [← Int.natCast_mul]; exact wrap_sub64 _ _ _ _ (by rw [hts.2]; omega) (by rw [hts.2]; omega)) (by omega) (by omega)
    rw [hts.1]
    have hr : (((hi * 18446744073709551616 + lo) % y * 2^s : Nat) : Int) / 2^s = (((hi * 18446744073709551616 + lo) % y : Nat) : Int) := by
      rw [hpow, ← Int.natCast_ediv, Nat.mul_div_cancel _ (Nat.pow_pos (by decide))]
    rw [hr] at hw
    refine hw.mono fun e w' h => ⟨?_, h.2⟩
    rw [h.1]
    congr 4
set_option maxRecDepth 100000 in
/-- The division that MulDiv needs. -/
theorem div_for {a b c : Int} (hc : I64 c) : DivFor (DivOK 137) a b c := fun h => div64_ok h (Nat.mod_lt _ (by decide)) (nat_lt64 hc)
end Go.Proofs.Ytkokokgmhpkoiaa

namespace VB
open Go Go.RowKit PB
theorem mul_bd {a b : Int} (h1 : -1073741824 ≤ a) (h2 : a ≤ 1073741824) (h3 : -1073741824 ≤ b) (h4 : b ≤ 1073741824) : -1152921504606846976 ≤ a * b ∧ a * b ≤ 1152921504606846976 := by
  have h : (a * b).natAbs ≤ 1152921504606846976 := by
    rw [Int.natAbs_mul]
    exact Nat.mul_le_mul (show a.natAbs ≤ 1073741824 by omega) (show b.natAbs ≤ 1073741824 by omega)
  omega
def dotI (ax ay bx b_ : Int) : Int := ax * bx + ay * b_
def crossI (ax ay bx b_ : Int) : Int := ax * b_ - ay * bx
theorem sm_dot {ax ay bx b_ : Int} (h : Sm ax ay) (h' : Sm bx b_) : -2305843009213693952 ≤ dotI ax ay bx b_ ∧ dotI ax ay bx b_ ≤ 2305843009213693952 := by
  obtain ⟨a, b, c, d⟩ := h
  obtain ⟨a', b', c', d'⟩ := h'
  have h1 := mul_bd a b a' b'
  have h2 := mul_bd c d c' d'
  unfold dotI; omega
theorem sm_cross {ax ay bx b_ : Int} (h : Sm ax ay) (h' : Sm bx b_) : -2305843009213693952 ≤ crossI ax ay bx b_ ∧ crossI ax ay bx b_ ≤ 2305843009213693952 := by
  obtain ⟨a, b, c, d⟩ := h
  obtain ⟨a', b', c', d'⟩ := h'
  have h1 := mul_bd a b c' d'
  have h2 := mul_bd c d a' b'
  unfold crossI; omega
end VB
namespace Go.Proofs.Ytkokokgmhpkoiaa
open Go.RowKit PB VB
set_option maxRecDepth 100000 in
theorem vint_ret {a b : Int} {w w' : World} (h : a = b) (hb : Below w.heap.size w w') : Ending.returned (.int .i64 a) = Ending.returned (.int .i64 b) ∧ Below w.heap.size w w' := ⟨by rw [h], hb⟩
set_option maxRecDepth 100000 in
theorem bret {a b : Bool} {w w' : World} (h : a = b) (hb : Below w.heap.size w w') : Ending.returned (.bool a) = Ending.returned (.bool b) ∧ Below w.heap.size w w' := ⟨by rw [h], hb⟩
set_option maxRecDepth 100000 in
theorem vdot_t (ax ay bx b_ : Int) (w : World) (ha : Sm ax ay) (hb : Sm bx b_) : Calls Try.prog 47 #[vec ax ay, vec bx b_] w fun e w' => e = .returned (.int .i64 (dotI ax ay bx b_)) ∧ Below w.heap.size w w' := by
  obtain ⟨h1, h1'⟩ := mul_bd ha.a ha.b hb.a hb.b
  obtain ⟨h2, h2'⟩ := mul_bd ha.c ha.d hb.c hb.d
  go_enter Try.func47, Try.ntmps47
  go_wp2_with fail
  refine (vsmall_t _ _ _ ha).mono ?_
  rintro e w1 ⟨rfl, hw1⟩
  have A1 := blk_prev hw1
  have B1 := blk_last2 hw1
  have q1 := in2 hw1
  obtain ⟨a0, a1⟩ := Blk2 A1
  obtain ⟨b0, b1⟩ := Blk2 B1
  clear hw1
  go_wp2_with fail
  refine (vsmall_t _ _ _ hb).mono ?_
  rintro e w2 ⟨rfl, hw2⟩
  obtain ⟨a2, a3⟩ := Blk2 (A1.kept hw2)
  obtain ⟨b2, b3⟩ := Blk2 (B1.kept hw2)
  clear a0 a1 b0 b1
  go_wp2_with fail
  go_ret
  exact vint_ret rfl (next q1 hw2)
set_option maxRecDepth 100000 in
theorem vdot_f (ax ay bx b_ : Int) (w : World) (h : ¬ (Sm ax ay ∧ Sm bx b_)) : Calls Try.prog 47 #[vec ax ay, vec bx b_] w fun e w' => e = .returned (.int .i64 0) ∧ Below w.heap.size w w' := by
  by_cases ha : Sm ax ay
  · have hb : ¬ Sm bx b_ := fun hb => h ⟨ha, hb⟩
    clear h
    go_enter Try.func47, Try.ntmps47
    go_wp2_with fail
    refine (vsmall_t _ _ _ ha).mono ?_
    rintro e w1 ⟨rfl, hw1⟩
    have B1 := blk_last2 hw1
    have q1 := in2 hw1
    obtain ⟨b0, b1⟩ := Blk2 B1
    clear hw1
    go_wp2_with fail
    refine (vsmall_f _ _ _ hb).mono ?_
    rintro e w2 ⟨rfl, hw2⟩
    go_wp2_with fail
    go_ret
    exact vint_ret rfl (next q1 hw2)
  · clear h
    go_enter Try.func47, Try.ntmps47
    go_wp2_with fail
    refine (vsmall_f _ _ _ ha).mono ?_
    rintro e w1 ⟨rfl, hw1⟩
    go_wp2_with fail
    go_ret
    exact vint_ret rfl (in2 hw1)
set_option maxRecDepth 100000 in
theorem vcross_t (ax ay bx b_ : Int) (w : World) (ha : Sm ax ay) (hb : Sm bx b_) : Calls Try.prog 49 #[vec ax ay, vec bx b_] w fun e w' => e = .returned (.int .i64 (crossI ax ay bx b_)) ∧ Below w.heap.size w w' := by
  obtain ⟨h1, h1'⟩ := mul_bd ha.a ha.b hb.c hb.d
  obtain ⟨h2, h2'⟩ := mul_bd ha.c ha.d hb.a hb.b
  go_enter Try.func49, Try.ntmps49
  go_wp2_with fail
  refine (vsmall_t _ _ _ ha).mono ?_
  rintro e w1 ⟨rfl, hw1⟩
  have A1 := blk_prev hw1
  have B1 := blk_last2 hw1
  have q1 := in2 hw1
  obtain ⟨a0, a1⟩ := Blk2 A1
  obtain ⟨b0, b1⟩ := Blk2 B1
  clear hw1
  go_wp2_with fail
  refine (vsmall_t _ _ _ hb).mono ?_
  rintro e w2 ⟨rfl, hw2⟩
  obtain ⟨a2, a3⟩ := Blk2 (A1.kept hw2)
  obtain ⟨b2, b3⟩ := Blk2 (B1.kept hw2)
  clear a0 a1 b0 b1
  go_wp2_with fail
  go_ret
  exact vint_ret rfl (next q1 hw2)
set_option maxRecDepth 100000 in
theorem vcross_f (ax ay bx b_ : Int) (w : World) (h : ¬ (Sm ax ay ∧ Sm bx b_)) : Calls Try.prog 49 #[vec ax ay, vec bx b_] w fun e w' => e = .returned (.int .i64 0) ∧ Below w.heap.size w w' := by
  by_cases ha : Sm ax ay
  · have hb : ¬ Sm bx b_ := fun hb => h ⟨ha, hb⟩
    clear h
    go_enter Try.func49, Try.ntmps49
    go_wp2_with fail
    refine (vsmall_t _ _ _ ha).mono ?_
    rintro e w1 ⟨rfl, hw1⟩
    have B1 := blk_last2 hw1
    have q1 := in2 hw1
    obtain ⟨b0, b1⟩ := Blk2 B1
    clear hw1
    go_wp2_with fail
    refine (vsmall_f _ _ _ hb).mono ?_
    rintro e w2 ⟨rfl, hw2⟩
    go_wp2_with fail
    go_ret
    exact vint_ret rfl (next q1 hw2)
  · clear h
    go_enter Try.func49, Try.ntmps49
    go_wp2_with fail
    refine (vsmall_f _ _ _ ha).mono ?_
    rintro e w1 ⟨rfl, hw1⟩
    go_wp2_with fail
    go_ret
    exact vint_ret rfl (in2 hw1)
end Go.Proofs.Ytkokokgmhpkoiaa

namespace VB
open Go Go.RowKit PB
/-- The ceiling of a quotient. -/
def cdiv (p c : Int) : Int := -((-p) / c)
theorem fl_of_t {p c : Int} (hc : 0 < c) : (p - p.tdiv c * c < 0 → p / c = p.tdiv c - 1 ∧ cdiv p c = p.tdiv c) ∧ (p - p.tdiv c * c = 0 → p / c = p.tdiv c ∧ cdiv p c = p.tdiv c) ∧ (0 < p - p.tdiv c * c → p / c = p.tdiv c ∧ cdiv p c = p.tdiv c + 1) ∧ -c < p - p.tdiv c * c ∧ p - p.tdiv c * c < c := by
  have e := Int.mul_tdiv_add_tmod p c
  have b1 := Int.tmod_lt_of_pos p hc
  have b2 := Int.lt_tmod_of_pos p hc
  have hm : c * p.tdiv c = p.tdiv c * c := Int.mul_comm _ _
  have hr : p - p.tdiv c * c = p.tmod c := by omega
  rw [hr]
  generalize p.tmod c = r at *
  generalize p.tdiv c = q at *
  have hp : p = q * c + r := by omega
  subst hp
  have hne : c ≠ 0 := by omega
  unfold cdiv
  refine ⟨fun h => ⟨?_, ?_⟩, fun h => ⟨?_, ?_⟩, fun h => ⟨?_, ?_⟩, b2, b1⟩
  · rw [show q * c + r = (c + r) + c * (q - 1) by grind, Int.add_mul_ediv_left _ _ hne, Int.ediv_eq_zero_of_lt (by omega) (by omega)]; omega
  · rw [show -(q * c + r) = -r + c * (-q) by grind, Int.add_mul_ediv_left _ _ hne, Int.ediv_eq_zero_of_lt (by omega) (by omega)]; omega
  · rw [show q * c + r = r + c * q by grind, Int.add_mul_ediv_left _ _ hne, Int.ediv_eq_zero_of_lt (by omega) (by omega)]; omega
  · rw [show -(q * c + r) = -r + c * (-q) by grind, Int.add_mul_ediv_left _ _ hne, Int.ediv_eq_zero_of_lt (by omega) (by omega)]; omega
  · rw [show q * c + r = r + c * q by grind, Int.add_mul_ediv_left _ _ hne, Int.ediv_eq_zero_of_lt (by omega) (by omega)]; omega
  · rw [show -(q * c + r) = (c - r) + c * (-q - 1) by grind, Int.add_mul_ediv_left _ _ hne, Int.ediv_eq_zero_of_lt (by omega) (by omega)]; omega
theorem wrap_sub (P Q : Int) (h : -9223372036854775808 ≤ P - Q) (h' : P - Q ≤ 9223372036854775807) : wrap64 (wrap64 P - wrap64 Q) = P - Q := by
  unfold wrap64; omega
end VB
namespace Go.Proofs.Ytkokokgmhpkoiaa
open Go.RowKit PB VB
set_option maxRecDepth 100000 in
theorem iiret {a b c d : Int} {w w' : World} (h1 : a = b) (h2 : c = d) (hb : Below w.heap.size w w') : Ending.returned (.tuple #[.int .i64 a, .int .i64 c]) = Ending.returned (.tuple #[.int .i64 b, .int .i64 d]) ∧ Below w.heap.size w w' := ⟨by rw [h1, h2], hb⟩
/-- around, as it is needed. -/
def ArOK (a b c : Int) : Prop := ∀ w, Calls Try.prog 139 #[.int .i64 a, .int .i64 b, .int .i64 c] w fun e w' => e = .returned (.tuple #[.int .i64 (a * b / c), .int .i64 (cdiv (a * b) c)]) ∧ Below w.heap.size w w'
set_option maxRecDepth 100000 in
set_option maxHeartbeats 2000000 in
theorem ar_any {a b c : Int} (ha : I64 a) (hb : I64 b) (hc : I64 c) (hD : DivFor (DivOK 137) a b c) (h0 : 0 < c) (hq1 : -4611686018427387904 ≤ (a * b).tdiv c) (hq2 : (a * b).tdiv c ≤ 4611686018427387904) : ArOK a b c := by
  intro w
  have HM := Lib.hid (fun w => md_yes w ha hb hc hD ⟨by omega, by omega, by omega⟩)
  obtain ⟨f1, f2, f3, f4, f5⟩ := fl_of_t (p := a * b) h0
  have hR := wrap_sub (a * b) ((a * b).tdiv c * c) (by have := hc.2; omega) (by have := hc.2; omega)
  generalize (a * b).tdiv c = q at *
  have h63 := hc.2
  clear ha hb hc hD
  rcases Int.lt_trichotomy (a * b - q * c) 0 with h | h | h
  · obtain ⟨e1, e2⟩ := f1 h
    rw [e1, e2]
    have t1 : decide (wrap64 (wrap64 (a * b) - wrap64 (q * c)) < 0) = true := decide_eq_true (by rw [hR]; exact h)
    clear f1 f2 f3 e1 e2 hR h f4 f5
    go_enter Try.func139, Try.ntmps139
    go_wp2_with fail
    refine (HM.out _).mono ?_
    rintro e w1 ⟨rfl, hw1⟩
    go_wp2_with fail
    go_ret2
    exact iiret rfl rfl hw1
  · obtain ⟨e1, e2⟩ := f2 h
    rw [e1, e2]
    have t1 : decide (wrap64 (wrap64 (a * b) - wrap64 (q * c)) < 0) = false := decide_eq_false (by rw [hR]; omega)
    have t2 : decide (0 < wrap64 (wrap64 (a * b) - wrap64 (q * c))) = false := decide_eq_false (by rw [hR]; omega)
    clear f1 f2 f3 e1 e2 hR h f4 f5
    go_enter Try.func139, Try.ntmps139
    go_wp2_with fail
    refine (HM.out _).mono ?_
    rintro e w1 ⟨rfl, hw1⟩
    go_wp2_with fail
    go_ret2
    exact iiret rfl rfl hw1
  · obtain ⟨e1, e2⟩ := f3 h
    rw [e1, e2]
    have t1 : decide (wrap64 (wrap64 (a * b) - wrap64 (q * c)) < 0) = false := decide_eq_false (by rw [hR]; omega)
    have t2 : decide (0 < wrap64 (wrap64 (a * b) - wrap64 (q * c))) = true := decide_eq_true (by rw [hR]; exact h)
    clear f1 f2 f3 e1 e2 hR h f4 f5
    go_enter Try.func139, Try.ntmps139
    go_wp2_with fail
    refine (HM.out _).mono ?_
    rintro e w1 ⟨rfl, hw1⟩
    go_wp2_with fail
    go_ret2
    exact iiret rfl rfl hw1
end Go.Proofs.Ytkokokgmhpkoiaa

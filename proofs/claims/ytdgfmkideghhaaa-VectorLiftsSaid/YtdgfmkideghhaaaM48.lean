/-
  math/bits.Div64 at any two words: the walk.
  math/bits.Div64 at any two words.
  MulDiv of the reference, and VectorMulDiv: the walk.
-/
import Derived.LoopTactic
import Derived.Deep.DeepCutAuto
import Derived.LoopN
import Derived.Deep.CutBlock
import Derived.Laws.BitsAllLaws
import Derived.Lib.ItoaNum
import Derived.Lib.BitFns
import Derived.Test.YtdgfmkideghhaaaM03
import Derived.Test.YtdgfmkideghhaaaM12
import Derived.Test.YtdgfmkideghhaaaM47
namespace Go.Proofs.Ytdgfmkideghhaaa
open Go.RowKit PB VB
set_option maxRecDepth 100000 in
theorem wrap_id {a : Int} (h0 : 0 ≤ a) (h1 : a ≤ 18446744073709551615) : IntKind.u64.wrap a = a := by rw [IntKind.wrap_u64]; omega
set_option maxRecDepth 100000 in
/-- The estimate and its rest, as the program has them. -/
theorem est_words {U Y y1 y0 u : Nat} (h : Sd U Y y1 y0 u) (hU : (U : Int) ≤ 18446744073709551615) : IntKind.u64.wrap ((U : Int) / y1) = ((U / y1 : Nat) : Int) ∧ IntKind.u64.wrap ((U : Int) - IntKind.u64.wrap (((U / y1 : Nat) : Int) * y1)) = ((U % y1 : Nat) : Int) := by
  have e := es_init h
  have h1 := e.hq
  have h2 := e.e
  have h3 : (((U / y1 : Nat) : Int) * y1) + ((U % y1 : Nat) : Int) = U := by rw [← Int.natCast_mul]; omega
  have h4 : 0 ≤ (((U / y1 : Nat) : Int) * y1) := Int.mul_nonneg (Int.natCast_nonneg _) (Int.natCast_nonneg _)
  rw [show (U : Int) / (y1 : Int) = ((U / y1 : Nat) : Int) from rfl]
  generalize U / y1 = p at *
  generalize U % y1 = r at *
  refine ⟨wrap_id (by omega) (by omega), ?_⟩
  generalize (p : Int) * y1 = P at *
  rw [wrap_id (a := P) h4 (by omega)]
  rw [wrap_id (by omega) (by omega)]
  omega
set_option maxHeartbeats 8000000 in
set_option maxRecDepth 100000 in
theorem div64_walk (hi lo y s Y y1 y0 U T u1 u0 V Q1 Q0 R : Nat) (w : World) (h1 : hi < y) (hhi : 0 < hi) (hs : s ≤ 63)
    (HL : Hid (∀ w, Calls Try.prog 152 #[.int .u64 y] w fun e w' => e = .returned (.int .i64 (s : Int)) ∧ w = w'))
    (fY : IntKind.u64.wrap ((y : Int) * 2 ^ s) = Y) (fy1 : (Y : Int) / 4294967296 = y1) (fy0 : bits BinOp.and IntKind.u64 Y 4294967295 = y0)
    (fU : bits BinOp.or IntKind.u64 (IntKind.u64.wrap ((hi : Int) * 2 ^ s)) ((lo : Int) / 2 ^ (64 - s)) = U)
    (fT : IntKind.u64.wrap ((lo : Int) * 2 ^ s) = T) (fu1 : (T : Int) / 4294967296 = u1) (fu0 : bits BinOp.and IntKind.u64 T 4294967295 = u0)
    (S1 : Sd U Y y1 y0 u1) (S0 : Sd V Y y1 y0 u0) (hQ1 : (U * 4294967296 + u1) / Y = Q1) (hQ0 : (V * 4294967296 + u0) / Y = Q0)
    (fV : IntKind.u64.wrap (IntKind.u64.wrap (IntKind.u64.wrap ((U : Int) * 4294967296) + u1) - IntKind.u64.wrap ((Q1 : Int) * Y)) = V)
    (fR : IntKind.u64.wrap (IntKind.u64.wrap (IntKind.u64.wrap ((V : Int) * 4294967296) + u0) - IntKind.u64.wrap ((Q0 : Int) * Y)) = R)
    (bU : (U : Int) ≤ 18446744073709551615) (bV : (V : Int) ≤ 18446744073709551615) :
    Calls Try.prog 137 #[.int .u64 hi, .int .u64 lo, .int .u64 y] w fun e w' => e = .returned (.tuple #[.int .u64 ((Q1 : Int) * 4294967296 + Q0), .int .u64 ((R : Int) / 2 ^ s)]) ∧ Below w.heap.size w w' := by
  have bY1 : (2147483648 : Int) ≤ y1 := by have := S1.hy1; omega
  have by1 : (y1 : Int) ≤ 4294967295 := by have := S1.hy2; omega
  have bu1 : (u1 : Int) ≤ 4294967295 := by have := S1.hu; omega
  have bu0 : (u0 : Int) ≤ 4294967295 := by have := S0.hu; omega
  have by0 : (y0 : Int) ≤ 4294967295 := by have := S1.hy0; omega
  have bq1 : (Q1 : Int) ≤ 4294967295 := by have := dig_lt S1; omega
  have bq0 : (Q0 : Int) ≤ 4294967295 := by have := dig_lt S0; omega
  obtain ⟨fq1, fr1⟩ := est_words S1 bU
  obtain ⟨fq0, fr0⟩ := est_words S0 bV
  have HE1 := Lib.hid (es_init S1)
  have HE0 := Lib.hid (es_init S0)
  have HS1 := Lib.hid S1
  have HS0 := Lib.hid S0
  have HQ1 := Lib.hid hQ1
  have HQ0 := Lib.hid hQ0
  clear S1 S0 hQ1 hQ0
  generalize U / y1 = p1 at *
  generalize U % y1 = r1 at *
  generalize V / y1 = p0 at *
  generalize V % y1 = r0 at *
  have k1 : ((y : Int) == 0) = false := by simp; omega
  have k2 : ((hi : Int) == 0) = false := by simp; omega
  have k3 : ¬ y ≤ hi := by omega
  have b0 : ¬ (y1 : Int) = 0 := by omega
  have b1 : (0 : Int) < y1 := by omega
  go_enter Try.func137, Try.ntmps137
  go_wp2_with fail
  refine (HL.out _).mono ?_
  rintro e w1 ⟨rfl, rfl⟩
  go_upto_block 0 with fail
  go_cut [15, 16] from 67 to 85 (fun sa sb wx => sa = .int .u64 Q1 ∧ w = wx)
  case first =>
    go_wp2_with fail
    go_loop [15, 16] (fun sa sb => ∃ q r : Nat, Hid (Es U Y y1 y0 u1 q r) ∧ sa = .int .u64 q ∧ sb = .int .u64 r) (fun sa _ => (intOf sa).toNat)
    case atStart => exact ⟨p1, r1, HE1, rfl, rfl⟩
    case round =>
      obtain ⟨q, r, hE, rfl, rfl⟩ := hrel
      have hq := hE.out.hq
      have hr := hE.out.hr
      have gq : (q : Int) ≤ 4294967297 := by omega
      have gr : (r : Int) ≤ 4294967295 := by omega
      have gm : 0 ≤ (q : Int) * y0 ∧ (q : Int) * y0 ≤ 4294967297 * 4294967295 := ⟨Int.mul_nonneg (by omega) (by omega), Int.mul_le_mul gq by0 (by omega) (by omega)⟩
      obtain ⟨gm1, gm2⟩ := gm
      by_cases ht : 4294967296 ≤ q ∨ 4294967296 * r + u1 < q * y0
      · obtain ⟨d1, d2, d3, d4⟩ := es_dec HS1.out hE.out ht
        have HD2 := Lib.hid d2; have HD3 := Lib.hid d3; have HD4 := Lib.hid d4; have HD1 := Lib.hid d1
        have j1 : (1 : Int) ≤ q := by omega
        clear d2 d3 d4 hE
        by_cases hbr : 4294967296 ≤ r + y1
        · have HX := Lib.hid ((es_break HS1.out HD2.out HD3.out HD4.out hbr).trans HQ1.out)
          have HX2 := Lib.hid (show (q : Int) - 1 = Q1 by have := HX.out; omega)
          have j2 : (4294967296 : Int) ≤ (r : Int) + y1 := by omega
          rcases ht with ht | ht
          · have i1 : (4294967296 : Int) ≤ q := by omega
            go_wp2_with fail
            all_goals (go_meet; exact ⟨congrArg (Value.int .u64) HX2.out, rfl⟩)
          · by_cases ht0 : 4294967296 ≤ q
            · have i1 : (4294967296 : Int) ≤ q := by omega
              go_wp2_with fail
              all_goals (go_meet; exact ⟨congrArg (Value.int .u64) HX2.out, rfl⟩)
            · have i1 : ¬ (4294967296 : Int) ≤ q := by omega
              have i2 : (4294967296 : Int) * r + u1 < (q : Int) * y0 := by rw [← Int.natCast_mul]; omega
              go_wp2_with fail
              all_goals (go_meet; exact ⟨congrArg (Value.int .u64) HX2.out, rfl⟩)
        · have j2 : ¬ (4294967296 : Int) ≤ (r : Int) + y1 := by omega
          have HN : Hid (Es U Y y1 y0 u1 (q - 1) (r + y1)) := Lib.hid ⟨HD2.out, HD3.out, by omega, by have := HD4.out; omega⟩
          have HX2 := Lib.hid (show (q : Int) - 1 = ((q - 1 : Nat) : Int) by omega)
          have HX3 := Lib.hid (show (r : Int) + y1 = ((r + y1 : Nat) : Int) by omega)
          rcases ht with ht | ht
          · have i1 : (4294967296 : Int) ≤ q := by omega
            go_wp2_with fail
            go_round
            case rel => exact ⟨q - 1, r + y1, HN, congrArg (Value.int .u64) HX2.out, congrArg (Value.int .u64) HX3.out⟩
            case measure => simp [intOf]; omega
          · by_cases ht0 : 4294967296 ≤ q
            · have i1 : (4294967296 : Int) ≤ q := by omega
              go_wp2_with fail
              go_round
              case rel => exact ⟨q - 1, r + y1, HN, congrArg (Value.int .u64) HX2.out, congrArg (Value.int .u64) HX3.out⟩
              case measure => simp [intOf]; omega
            · have i1 : ¬ (4294967296 : Int) ≤ q := by omega
              have i2 : (4294967296 : Int) * r + u1 < (q : Int) * y0 := by rw [← Int.natCast_mul]; omega
              go_wp2_with fail
              go_round
              case rel => exact ⟨q - 1, r + y1, HN, congrArg (Value.int .u64) HX2.out, congrArg (Value.int .u64) HX3.out⟩
              case measure => simp [intOf]; omega
      · have i1 : ¬ (4294967296 : Int) ≤ q := by omega
        have i2 : ¬ (4294967296 : Int) * r + u1 < (q : Int) * y0 := by rw [← Int.natCast_mul]; omega
        have HX := Lib.hid ((es_done HS1.out hE.out.e hE.out.le (by omega)).trans HQ1.out)
        have HX2 := Lib.hid (show (q : Int) = Q1 by have := HX.out; omega)
        clear hE ht
        go_wp2_with fail
        all_goals (go_meet; exact ⟨congrArg (Value.int .u64) HX2.out, rfl⟩)
  case rest =>
  obtain ⟨rfl, rfl⟩ := hcut
  go_upto_block 2 with fail
  go_cut [18, 16] from 102 to 120 (fun sa sb wx => sa = .int .u64 Q0 ∧ w = wx)
  case first =>
    go_wp2_with fail
    go_loop [18, 16] (fun sa sb => ∃ q r : Nat, Hid (Es V Y y1 y0 u0 q r) ∧ sa = .int .u64 q ∧ sb = .int .u64 r) (fun sa _ => (intOf sa).toNat)
    case atStart => exact ⟨p0, r0, HE0, rfl, rfl⟩
    case round =>
      obtain ⟨q, r, hE, rfl, rfl⟩ := hrel
      have hq := hE.out.hq
      have hr := hE.out.hr
      have gq : (q : Int) ≤ 4294967297 := by omega
      have gr : (r : Int) ≤ 4294967295 := by omega
      have gm : 0 ≤ (q : Int) * y0 ∧ (q : Int) * y0 ≤ 4294967297 * 4294967295 := ⟨Int.mul_nonneg (by omega) (by omega), Int.mul_le_mul gq by0 (by omega) (by omega)⟩
      obtain ⟨gm1, gm2⟩ := gm
      by_cases ht : 4294967296 ≤ q ∨ 4294967296 * r + u0 < q * y0
      · obtain ⟨d1, d2, d3, d4⟩ := es_dec HS0.out hE.out ht
        have HD2 := Lib.hid d2; have HD3 := Lib.hid d3; have HD4 := Lib.hid d4; have HD1 := Lib.hid d1
        have j1 : (1 : Int) ≤ q := by omega
        clear d2 d3 d4 hE
        by_cases hbr : 4294967296 ≤ r + y1
        · have HX := Lib.hid ((es_break HS0.out HD2.out HD3.out HD4.out hbr).trans HQ0.out)
          have HX2 := Lib.hid (show (q : Int) - 1 = Q0 by have := HX.out; omega)
          have j2 : (4294967296 : Int) ≤ (r : Int) + y1 := by omega
          rcases ht with ht | ht
          · have i1 : (4294967296 : Int) ≤ q := by omega
            go_wp2_with fail
            all_goals (go_meet; exact ⟨congrArg (Value.int .u64) HX2.out, rfl⟩)
          · by_cases ht0 : 4294967296 ≤ q
            · have i1 : (4294967296 : Int) ≤ q := by omega
              go_wp2_with fail
              all_goals (go_meet; exact ⟨congrArg (Value.int .u64) HX2.out, rfl⟩)
            · have i1 : ¬ (4294967296 : Int) ≤ q := by omega
              have i2 : (4294967296 : Int) * r + u0 < (q : Int) * y0 := by rw [← Int.natCast_mul]; omega
              go_wp2_with fail
              all_goals (go_meet; exact ⟨congrArg (Value.int .u64) HX2.out, rfl⟩)
        · have j2 : ¬ (4294967296 : Int) ≤ (r : Int) + y1 := by omega
          have HN : Hid (Es V Y y1 y0 u0 (q - 1) (r + y1)) := Lib.hid ⟨HD2.out, HD3.out, by omega, by have := HD4.out; omega⟩
          have HX2 := Lib.hid (show (q : Int) - 1 = ((q - 1 : Nat) : Int) by omega)
          have HX3 := Lib.hid (show (r : Int) + y1 = ((r + y1 : Nat) : Int) by omega)
          rcases ht with ht | ht
          · have i1 : (4294967296 : Int) ≤ q := by omega
            go_wp2_with fail
            go_round
            case rel => exact ⟨q - 1, r + y1, HN, congrArg (Value.int .u64) HX2.out, congrArg (Value.int .u64) HX3.out⟩
            case measure => simp [intOf]; omega
          · by_cases ht0 : 4294967296 ≤ q
            · have i1 : (4294967296 : Int) ≤ q := by omega
              go_wp2_with fail
              go_round
              case rel => exact ⟨q - 1, r + y1, HN, congrArg (Value.int .u64) HX2.out, congrArg (Value.int .u64) HX3.out⟩
              case measure => simp [intOf]; omega
            · have i1 : ¬ (4294967296 : Int) ≤ q := by omega
              have i2 : (4294967296 : Int) * r + u0 < (q : Int) * y0 := by rw [← Int.natCast_mul]; omega
              go_wp2_with fail
              go_round
              case rel => exact ⟨q - 1, r + y1, HN, congrArg (Value.int .u64) HX2.out, congrArg (Value.int .u64) HX3.out⟩
              case measure => simp [intOf]; omega
      · have i1 : ¬ (4294967296 : Int) ≤ q := by omega
        have i2 : ¬ (4294967296 : Int) * r + u0 < (q : Int) * y0 := by rw [← Int.natCast_mul]; omega
        have HX := Lib.hid ((es_done HS0.out hE.out.e hE.out.le (by omega)).trans HQ0.out)
        have HX2 := Lib.hid (show (q : Int) = Q0 by have := HX.out; omega)
        clear hE ht
        go_wp2_with fail
        all_goals (go_meet; exact ⟨congrArg (Value.int .u64) HX2.out, rfl⟩)
  case rest =>
  obtain ⟨rfl, rfl⟩ := hcut
  go_wp2_with fail
  go_ret2
  exact tret rfl rfl (Below.refl _ _)
end Go.Proofs.Ytdgfmkideghhaaa

namespace VB
open Go Go.RowKit PB
theorem mask32 (x : Nat) (hx : x < 18446744073709551616) : bits BinOp.and IntKind.u64 (x : Int) 4294967295 = ((x % 4294967296 : Nat) : Int) := by
  have h := u64_and_nat x 4294967295 hx (by decide)
  rw [show x &&& 4294967295 = x % 4294967296 from Nat.and_two_pow_sub_one_eq_mod x 32] at h
  exact h
/-- The shift that makes the divisor's highest bit one. -/
structure Nrm (y s : Nat) : Prop where
  hs : s ≤ 63
  lo : 9223372036854775808 ≤ y * 2^s
  hi : y * 2^s < 18446744073709551616
  p : 2^s * 2^(64 - s) = 18446744073709551616
theorem nrm_of {y : Nat} (h0 : y ≠ 0) (h : y < 18446744073709551616) : Nrm y (64 - Lib.bitLen y) ∧ Lib.bitLen y ≤ 64 := by
  have hb := Lib.bitLenAux_bounds 64 y h h0
  have hl : Lib.bitLen y ≤ 64 := Lib.bitLen_le y 64 (by decide) h
  have he : Lib.bitLen y = Lib.bitLenAux 64 y := rfl
  rw [← he] at hb
  generalize Lib.bitLen y = L at *
  obtain ⟨b1, b2, b3⟩ := hb
  refine ⟨⟨by omega, ?_, ?_, ?_⟩, hl⟩
  · have h1 : 2^(L-1) * 2^(64 - L) ≤ y * 2^(64 - L) := Nat.mul_le_mul_right _ b2
    rw [← Nat.pow_add, show L - 1 + (64 - L) = 63 by omega] at h1
    exact h1
  · have h1 : y * 2^(64 - L) < 2^L * 2^(64 - L) := Nat.mul_lt_mul_of_pos_right b3 (Nat.pow_pos (by decide))
    rw [← Nat.pow_add, show L + (64 - L) = 64 by omega] at h1
    exact h1
  · rw [← Nat.pow_add, show 64 - L + (64 - (64 - L)) = 64 by omega]
theorem parts_of {hi lo y s : Nat} (n : Nrm y s) (h1 : hi < y) (hlo : lo < 18446744073709551616) :
    lo / 2^(64 - s) < 2^s ∧ hi * 2^s + lo / 2^(64 - s) < y * 2^s ∧ lo * 2^s = lo / 2^(64 - s) * 18446744073709551616 + lo * 2^s % 18446744073709551616 := by
  have hp := n.p
  have ha : 0 < 2^s := Nat.pow_pos (by decide)
  have hb : 0 < 2^(64 - s) := Nat.pow_pos (by decide)
  have e1 : lo / 2^(64 - s) < 2^s := by
    apply Nat.div_lt_of_lt_mul
    rw [Nat.mul_comm, hp]; exact hlo
  refine ⟨e1, ?_, ?_⟩
  · have h2 : (hi + 1) * 2^s ≤ y * 2^s := Nat.mul_le_mul_right _ h1
    rw [Nat.add_mul, Nat.one_mul] at h2
    omega
  · have e2 : lo * 2^s / 18446744073709551616 = lo / 2^(64 - s) := by
      rw [← hp, Nat.mul_comm (2^s) (2^(64-s)), Nat.mul_div_mul_right _ _ ha]
    have e3 := Nat.div_add_mod (lo * 2^s) 18446744073709551616
    rw [e2] at e3
    omega
theorem wrap_sub64 (A P u V : Nat) (h : V + P = A * 4294967296 + u) (hV : V < 18446744073709551616) : IntKind.u64.wrap (IntKind.u64.wrap (IntKind.u64.wrap ((A : Int) * 4294967296) + u) - IntKind.u64.wrap (P : Int)) = V := by
  simp only [IntKind.wrap_u64]
  omega
end VB
namespace Go.Proofs.Ytdgfmkideghhaaa
open Go.RowKit PB VB
set_option maxRecDepth 100000 in
theorem div64_ok {hi lo y : Nat} (h1 : hi < y) (hlo : lo < 18446744073709551616) (hy : y < 18446744073709551616) : DivOK 137 hi lo y := by
  by_cases h0 : hi = 0
  · subst h0; exact div64_low lo y hlo h1 hy
  · intro w
    obtain ⟨n, hl⟩ := nrm_of (show y ≠ 0 by omega) hy
    have HL := Lib.hid (fun w => (show Calls Try.prog 152 #[.int .u64 y] w fun e w' => e = .returned (.int .i64 ((64 - Lib.bitLen y : Nat) : Int)) ∧ w = w' from by
      have h := Try.bits_LeadingZeros64 y w (by omega) (by omega)
      rw [show (64 - (Lib.bitLen (y : Int).toNat : Int)) = ((64 - Lib.bitLen y : Nat) : Int) by rw [Int.toNat_natCast]; omega] at h
      exact h.mono fun _ _ h => ⟨h.1, h.2.symm⟩))
    generalize 64 - Lib.bitLen y = s at *
    clear hl
    obtain ⟨p1, p2, p3⟩ := parts_of n h1 hlo
    have n1 := n.lo
    have n2 := n.hi
    have hU : hi * 2^s < 18446744073709551616 := by omega
    have hpow : ((2 : Int)^s) = ((2^s : Nat) : Int) := by push_cast; rfl
    have hpow2 : ((2 : Int)^(64 - s)) = ((2^(64 - s) : Nat) : Int) := by push_cast; rfl
    have fY : IntKind.u64.wrap ((y : Int) * 2 ^ s) = ((y * 2^s : Nat) : Int) := by rw [hpow, ← Int.natCast_mul]; exact wrap_id (by omega) (by omega)
    have fU : bits BinOp.or IntKind.u64 (IntKind.u64.wrap ((hi : Int) * 2 ^ s)) ((lo : Int) / 2 ^ (64 - s)) = ((hi * 2^s + lo / 2^(64 - s) : Nat) : Int) := by
      rw [hpow, ← Int.natCast_mul, wrap_id (by omega) (by omega), hpow2, show (lo : Int) / ((2^(64 - s) : Nat) : Int) = ((lo / 2^(64 - s) : Nat) : Int) from rfl, u64_or_nat _ _ hU (by omega), nat_join s _ _ (Nat.mul_mod_left _ _) p1]
    have fT : IntKind.u64.wrap ((lo : Int) * 2 ^ s) = ((lo * 2^s % 18446744073709551616 : Nat) : Int) := by rw [hpow, ← Int.natCast_mul, IntKind.wrap_u64]; rfl
    have hTl : lo * 2^s % 18446744073709551616 < 18446744073709551616 := Nat.mod_lt _ (by decide)
    have hN : (hi * 18446744073709551616 + lo) * 2^s = (hi * 2^s + lo / 2^(64 - s)) * 18446744073709551616 + lo * 2^s % 18446744073709551616 := by
      have e1 : (hi * 18446744073709551616 + lo) * 2^s = hi * 2^s * 18446744073709551616 + lo * 2^s := by grind
      rw [e1, Nat.add_mul]
      omega
    have hdiv : (hi * 18446744073709551616 + lo) * 2^s / (y * 2^s) = (hi * 18446744073709551616 + lo) / y := Nat.mul_div_mul_right _ _ (Nat.pow_pos (by decide))
    have hmod : (hi * 18446744073709551616 + lo) * 2^s % (y * 2^s) = (hi * 18446744073709551616 + lo) % y * 2^s := Nat.mul_mod_mul_right ..
    generalize hi * 2^s + lo / 2^(64 - s) = U at *
    generalize lo * 2^s % 18446744073709551616 = T at *
    generalize hYY : y * 2^s = Y at *
    have S1 : Sd U Y (Y / 4294967296) (Y % 4294967296) (T / 4294967296) := ⟨by omega, by omega, by omega, by omega, by omega, p2⟩
    obtain ⟨r1, r2⟩ := step_rest S1
    obtain ⟨V, hV⟩ : ∃ V, U * 4294967296 + T / 4294967296 - (U * 4294967296 + T / 4294967296) / Y * Y = V := ⟨_, rfl⟩
    rw [hV] at r1
    have S0 : Sd V Y (Y / 4294967296) (Y % 4294967296) (T % 4294967296) := ⟨by omega, by omega, by omega, by omega, by omega, r1⟩
    obtain ⟨t1, t2⟩ := step_rest S0
    have hts := two_steps (N := (hi * 18446744073709551616 + lo) * 2^s) (K := 4294967296) (U := U) (u1 := T / 4294967296) (u0 := T % 4294967296) S1.pos (by rw [hN]; omega) V hV.symm
    rw [hdiv, hmod] at hts
    have hw := div64_walk hi lo y s Y (Y / 4294967296) (Y % 4294967296) U T (T / 4294967296) (T % 4294967296) V _ _ ((hi * 18446744073709551616 + lo) % y * 2^s) w h1 (by omega) n.hs HL fY rfl (mask32 Y n2) fU fT rfl (mask32 T hTl) S1 S0 rfl rfl
      (by rw [← Int.natCast_mul]; exact wrap_sub64 _ _ _ _ (by omega) (by omega)) (by rw [← Int.natCast_mul]; exact wrap_sub64 _ _ _ _ (by rw [hts.2]; omega) (by rw [hts.2]; omega)) (by omega) (by omega)
    rw [hts.1]
    have hr : (((hi * 18446744073709551616 + lo) % y * 2^s : Nat) : Int) / 2^s = (((hi * 18446744073709551616 + lo) % y : Nat) : Int) := by
      rw [hpow, ← Int.natCast_ediv, Nat.mul_div_cancel _ (Nat.pow_pos (by decide))]
    rw [hr] at hw
    refine hw.mono fun e w' h => ⟨?_, h.2⟩
    rw [h.1]
    congr 4
set_option maxRecDepth 100000 in
/-- The division that MulDiv needs. -/
theorem div_for {a b c : Int} (hc : I64 c) : DivFor (DivOK 137) a b c := fun h => div64_ok h (Nat.mod_lt _ (by decide)) (nat_lt64 hc)
end Go.Proofs.Ytdgfmkideghhaaa

namespace VB
/-- What MulDiv returns. -/
def mdV (a b c : Int) : Int := if c = 0 then 0 else numV ((a * b).tdiv c)
def mdB (a b c : Int) : Bool := if c = 0 then false else decide (numOk ((a * b).tdiv c))
theorem md_t {a b c : Int} (h : mdOk a b c) : mdV a b c = (a * b).tdiv c ∧ mdB a b c = true := by
  have k : numOk ((a * b).tdiv c) := h.2
  unfold mdV mdB numV
  rw [if_neg h.1, if_neg h.1, if_pos k]
  exact ⟨rfl, decide_eq_true k⟩
theorem md_f {a b c : Int} (h : ¬ mdOk a b c) : mdV a b c = 0 ∧ mdB a b c = false := by
  unfold mdV mdB
  by_cases hc : c = 0
  · rw [if_pos hc, if_pos hc]; exact ⟨rfl, rfl⟩
  · have hn : ¬ numOk ((a * b).tdiv c) := fun k => h ⟨hc, k.1, k.2⟩
    rw [if_neg hc, if_neg hc]
    unfold numV
    rw [if_neg hn]
    exact ⟨rfl, decide_eq_false hn⟩
end VB
namespace Go.Proofs.Ytdgfmkideghhaaa
open Go.RowKit PB VB
set_option maxRecDepth 100000 in
theorem md_all {a b c : Int} (w : World) (ha : I64 a) (hb : I64 b) (hc : I64 c) :
    Calls Try.prog 59 #[.int .i64 a, .int .i64 b, .int .i64 c] w fun e w' => e = .returned (.tuple #[.int .i64 (mdV a b c), .bool (mdB a b c)]) ∧ Below w.heap.size w w' := by
  by_cases h : mdOk a b c
  · rw [(md_t h).1, (md_t h).2]; exact md_yes w ha hb hc (div_for hc) h
  · rw [(md_f h).1, (md_f h).2]; exact md_no w ha hb hc (div_for hc) h
set_option maxRecDepth 100000 in
theorem rmd_zero (a b : Int) (w : World) :
    Calls Try.prog 60 #[.int .i64 a, .int .i64 b, .int .i64 0] w fun e w' => e = .returned (.tuple #[.int .i64 (mdV a b 0), .bool (mdB a b 0)]) ∧ Below w.heap.size w w' := by
  have E := Lib.hid (md_f (a := a) (b := b) (c := 0) (fun k => k.1 rfl))
  go_enter Try.func60, Try.ntmps60
  go_wp2_with fail
  go_ret2
  exact nbret E.out.1.symm E.out.2.symm (Below.refl _ _)
set_option maxHeartbeats 2000000 in
set_option maxRecDepth 100000 in
theorem rmd_some (a b c : Int) (w : World) (ha : I64 a) (hb : I64 b) (hc : I64 c) (h0 : c ≠ 0) :
    Calls Try.prog 60 #[.int .i64 a, .int .i64 b, .int .i64 c] w fun e w' => e = .returned (.tuple #[.int .i64 (mdV a b c), .bool (mdB a b c)]) ∧ Below w.heap.size w w' := by
  have E1 := Lib.hid (show numV ((a * b).tdiv c) = mdV a b c by unfold mdV; rw [if_neg h0])
  have E2 := Lib.hid (show decide (numOk ((a * b).tdiv c)) = mdB a b c by unfold mdB; rw [if_neg h0])
  have HA := Lib.hid (fun w => of_ref a w ha.1 ha.2)
  have HB := Lib.hid (fun w => of_ref b w hb.1 hb.2)
  have HC := Lib.hid (fun w => of_ref c w hc.1 hc.2)
  have na := nl_i64 ha
  have nb := nl_i64 hb
  have nc := nl_i64 hc
  have nab : nl (a * b).natAbs ≤ 4 := nl_le (by
    have h1 : a.natAbs < 18446744073709551616 := nat_lt64 ha
    have h2 : b.natAbs < 18446744073709551616 := nat_lt64 hb
    show (a * b).natAbs < 18446744073709551616 * 18446744073709551616
    rw [Int.natAbs_mul]
    exact Nat.mul_lt_mul'' h1 h2)
  have HN := Lib.hid (⟨na, nb, nc, nab⟩ : _ ∧ _ ∧ _ ∧ _)
  have H0 := Lib.hid h0
  have k0 : (c == 0) = false := by simpa using h0
  clear ha hb hc h0 na nb nc nab
  go_enter Try.func60, Try.ntmps60
  go_wp2_with fail
  refine (HA.out _).mono ?_
  rintro e w1 ⟨v1, rfl, hc1, hb1⟩
  have i1 := Lib.hid hc1.int
  clear hc1
  go_wp2_with fail
  refine (HB.out _).mono ?_
  rintro e w2 ⟨v2, rfl, hc2, hb2⟩
  have i1' := Lib.hid (i1.out.kept hb2)
  have i2 := Lib.hid hc2.int
  have q2 := next hb1 hb2
  clear hc2 i1 hb1 hb2
  go_wp2_with fail
  refine (times_ref v1 v2 a b w2 i1'.out i2.out (by have := HN.out.1; omega) (by have := HN.out.2.1; omega)).mono ?_
  rintro e w3 ⟨v3, rfl, hc3, hb3⟩
  have i3 := Lib.hid hc3.int
  have q3 := next q2 hb3
  clear hc3 i1' i2 hb3 q2
  go_wp2_with fail
  refine (HC.out _).mono ?_
  rintro e w4 ⟨v4, rfl, hc4, hb4⟩
  have i3' := Lib.hid (i3.out.kept hb4)
  have i4 := Lib.hid hc4.int
  have q4 := next q3 hb4
  clear hc4 i3 hb4 q3
  go_wp2_with fail
  refine (div_ref v3 v4 (a * b) c w4 i3'.out i4.out (by have := HN.out.2.2.2; omega) (by have := HN.out.2.2.1; omega) H0.out).mono ?_
  rintro e w5 ⟨v5, v6, rfl, hc5, hc6, hb5⟩
  obtain ⟨s5, p5, n5, c5, rfl, i5⟩ := can_form hc5
  obtain ⟨s6, p6, n6, c6, rfl, i6⟩ := can_form hc6
  have q5 := Lib.hid (next q4 hb5)
  clear hc5 hc6 hb5 q4 i3' i4 i6
  have I5 := Lib.hid i5
  clear i5
  go_wp2_with fail
  refine (number_can s5 p5 n5 c5 ((a * b).tdiv c) _ (I5.out.kept (((Below.refl _ _).alloc (Nat.le_refl _) _).alloc (by simp) _))).mono ?_
  rintro e w6 ⟨rfl, hw6⟩
  have q6 := Lib.hid (next q5.out (in2 hw6))
  clear hw6
  go_wp2_with fail
  go_ret2
  exact nbret E1.out E2.out q6.out
set_option maxRecDepth 100000 in
theorem muldiv_any (a b c : Int) (w : World) (ha : I64 a) (hb : I64 b) (hc : I64 c) :
    Calls Try.prog 5 #[.int .i64 a, .int .i64 b, .int .i64 c] w fun e w' => e = .returned (.bool true) ∧ Below w.heap.size w w' := by
  have HV := Lib.hid (fun w => md_all w ha hb hc)
  have HR := Lib.hid (fun w => (show Calls Try.prog 60 #[.int .i64 a, .int .i64 b, .int .i64 c] w fun e w' => e = .returned (.tuple #[.int .i64 (mdV a b c), .bool (mdB a b c)]) ∧ Below w.heap.size w w' from by
    by_cases h : c = 0
    · subst h; exact rmd_zero a b w
    · exact rmd_some a b c w ha hb hc h))
  clear ha hb hc
  generalize mdV a b c = x at *
  generalize mdB a b c = s at *
  go_enter Try.func5, Try.ntmps5
  go_wp2_with fail
  refine (vawake_any _).mono ?_
  rintro e w1 ⟨rfl, hw1⟩
  go_wp2_with fail
  refine (HV.out _).mono ?_
  rintro e w2 ⟨rfl, hw2⟩
  go_wp2_with fail
  refine (HR.out _).mono ?_
  rintro e w3 ⟨rfl, hw3⟩
  go_wp2_with fail
  go_ret
  exact ⟨rfl, next hw1 (next hw2 hw3)⟩
end Go.Proofs.Ytdgfmkideghhaaa

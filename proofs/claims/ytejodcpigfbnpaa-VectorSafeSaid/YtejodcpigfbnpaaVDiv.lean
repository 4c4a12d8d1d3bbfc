/-
  math/bits.Div64 at any two words: the walk.
-/
import Derived.Test.YtejodcpigfbnpaaVDivM
import Derived.LoopTactic
import Derived.Deep.DeepCutAuto
import Derived.LoopN
import Derived.Deep.CutBlock
namespace Go.Proofs.Ytejodcpigfbnpaa
open Go.RowKit PB VB
set_option maxRecDepth 100000 in
theorem wrap_id {a : Int} (h0 : 0 ≤ a) (h1 : a ≤ 18446744073709551615) : IntKind.u64.wrap a = a := by rw [IntKind.wrap_u64]; omega
set_option maxRecDepth 100000 in
/-- The estimate and its rest, as the program has them. -/
theorem est_words {U Y y1 y0 u : Nat} (h : Sd U Y y1 y0 u) (hU : (U : Int) ≤ 18446744073709551615) : IntKind.u64.wrap ((U : Int) / y1) = ((U / y1 : Nat) : Int) ∧ IntKind.u64.wrap ((U : Int) - IntKind.u64.wrap (((U / y1 : Nat) : Int) * y1)) = ((U % y1 : Nat) : Int) := by
  have e := es_init h
  have h1 := e.hq
  have h2 := e.e
  have h3 : (((U / y1 : Nat) : Int) * y1) + ((U % y1 : Nat) : Int) = U := by rw [← Int.natCast_mul]; omega
  have h4 : 0 ≤ (((U / y1 : Nat) : Int) * y1) := Int.mul_nonneg (Int.natCast_nonneg _) (Int.natCast_nonneg _)
  rw [show (U : Int) / (y1 : Int) = ((U / y1 : Nat) : Int) from rfl]
  generalize U / y1 = p at *
  generalize U % y1 = r at *
  refine ⟨wrap_id (by omega) (by omega), ?_⟩
  generalize (p : Int) * y1 = P at *
  rw [wrap_id (a := P) h4 (by omega)]
  rw [wrap_id (by omega) (by omega)]
  omega
set_option maxHeartbeats 8000000 in
set_option maxRecDepth 100000 in
theorem div64_walk (hi lo y s Y y1 y0 U T u1 u0 V Q1 Q0 R : Nat) (w : World) (h1 : hi < y) (hhi : 0 < hi) (hs : s ≤ 63)
    (HL : Hid (∀ w, Calls Try.prog 80 #[.int .u64 y] w fun e w' => e = .returned (.int .i64 (s : Int)) ∧ w = w'))
    (fY : IntKind.u64.wrap ((y : Int) * 2 ^ s) = Y) (fy1 : (Y : Int) / 4294967296 = y1) (fy0 : bits BinOp.and IntKind.u64 Y 4294967295 = y0)
    (fU : bits BinOp.or IntKind.u64 (IntKind.u64.wrap ((hi : Int) * 2 ^ s)) ((lo : Int) / 2 ^ (64 - s)) = U)
    (fT : IntKind.u64.wrap ((lo : Int) * 2 ^ s) = T) (fu1 : (T : Int) / 4294967296 = u1) (fu0 : bits BinOp.and IntKind.u64 T 4294967295 = u0)
    (S1 : Sd U Y y1 y0 u1) (S0 : Sd V Y y1 y0 u0) (hQ1 : (U * 4294967296 + u1) / Y = Q1) (hQ0 : (V * 4294967296 + u0) / Y = Q0)
    (fV : IntKind.u64.wrap (IntKind.u64.wrap (IntKind.u64.wrap ((U : Int) * 4294967296) + u1) - IntKind.u64.wrap ((Q1 : Int) * Y)) = V)
    (fR : IntKind.u64.wrap (IntKind.u64.wrap (IntKind.u64.wrap ((V : Int) * 4294967296) + u0) - IntKind.u64.wrap ((Q0 : Int) * Y)) = R)
    (bU : (U : Int) ≤ 18446744073709551615) (bV : (V : Int) ≤ 18446744073709551615) :
    Calls Try.prog 64 #[.int .u64 hi, .int .u64 lo, .int .u64 y] w fun e w' => e = .returned (.tuple #[.int .u64 ((Q1 : Int) * 4294967296 + Q0), .int .u64 ((R : Int) / 2 ^ s)]) ∧ Below w.heap.size w w' := by
  have bY1 : (2147483648 : Int) ≤ y1 := by have := S1.hy1; omega
  have by1 : (y1 : Int) ≤ 4294967295 := by have := S1.hy2; omega
  have bu1 : (u1 : Int) ≤ 4294967295 := by have := S1.hu; omega
  have bu0 : (u0 : Int) ≤ 4294967295 := by have := S0.hu; omega
  have by0 : (y0 : Int) ≤ 4294967295 := by have := S1.hy0; omega
  have bq1 : (Q1 : Int) ≤ 4294967295 := by have := dig_lt S1; omega
  have bq0 : (Q0 : Int) ≤ 4294967295 := by have := dig_lt S0; omega
  obtain ⟨fq1, fr1⟩ := est_words S1 bU
  obtain ⟨fq0, fr0⟩ := est_words S0 bV
  have HE1 := Lib.hid (es_init S1)
  have HE0 := Lib.hid (es_init S0)
  have HS1 := Lib.hid S1
  have HS0 := Lib.hid S0
  have HQ1 := Lib.hid hQ1
  have HQ0 := Lib.hid hQ0
  clear S1 S0 hQ1 hQ0
  generalize U / y1 = p1 at *
  generalize U % y1 = r1 at *
  generalize V / y1 = p0 at *
  generalize V % y1 = r0 at *
  have k1 : ((y : Int) == 0) = false := by simp; omega
  have k2 : ((hi : Int) == 0) = false := by simp; omega
  have k3 : ¬ y ≤ hi := by omega
  have b0 : ¬ (y1 : Int) = 0 := by omega
  have b1 : (0 : Int) < y1 := by omega
  go_enter Try.func64, Try.ntmps64
  go_wp2_with fail
  refine (HL.out _).mono ?_
  rintro e w1 ⟨rfl, rfl⟩
  go_upto_block 0 with fail
  go_cut [15, 16] from 67 to 85 (fun sa sb wx => sa = .int .u64 Q1 ∧ w = wx)
  case first =>
    go_wp2_with fail
    go_loop [15, 16] (fun sa sb => ∃ q r : Nat, Hid (Es U Y y1 y0 u1 q r) ∧ sa = .int .u64 q ∧ sb = .int .u64 r) (fun sa _ => (intOf sa).toNat)
    case atStart => exact ⟨p1, r1, HE1, rfl, rfl⟩
    case round =>
      obtain ⟨q, r, hE, rfl, rfl⟩ := hrel
      have hq := hE.out.hq
      have hr := hE.out.hr
      have gq : (q : Int) ≤ 4294967297 := by omega
      have gr : (r : Int) ≤ 4294967295 := by omega
      have gm : 0 ≤ (q : Int) * y0 ∧ (q : Int) * y0 ≤ 4294967297 * 4294967295 := ⟨Int.mul_nonneg (by omega) (by omega), Int.mul_le_mul gq by0 (by omega) (by omega)⟩
      obtain ⟨gm1, gm2⟩ := gm
      by_cases ht : 4294967296 ≤ q ∨ 4294967296 * r + u1 < q * y0
      · obtain ⟨d1, d2, d3, d4⟩ := es_dec HS1.out hE.out ht
        have HD2 := Lib.hid d2; have HD3 := Lib.hid d3; have HD4 := Lib.hid d4; have HD1 := Lib.hid d1
        have j1 : (1 : Int) ≤ q := by omega
        clear d2 d3 d4 hE
        by_cases hbr : 4294967296 ≤ r + y1
        · have HX := Lib.hid ((es_break HS1.out HD2.out HD3.out HD4.out hbr).trans HQ1.out)
          have HX2 := Lib.hid (show (q : Int) - 1 = Q1 by have := HX.out; omega)
          have j2 : (4294967296 : Int) ≤ (r : Int) + y1 := by omega
          rcases ht with ht | ht
          · have i1 : (4294967296 : Int) ≤ q := by omega
            go_wp2_with fail
            all_goals (go_meet; exact ⟨congrArg (Value.int .u64) HX2.out, rfl⟩)
          · by_cases ht0 : 4294967296 ≤ q
            · have i1 : (4294967296 : Int) ≤ q := by omega
              go_wp2_with fail
              all_goals (go_meet; exact ⟨congrArg (Value.int .u64) HX2.out, rfl⟩)
            · have i1 : ¬ (4294967296 : Int) ≤ q := by omega
              have i2 : (4294967296 : Int) * r + u1 < (q : Int) * y0 := by rw [← Int.natCast_mul]; omega
              go_wp2_with fail
              all_goals (go_meet; exact ⟨congrArg (Value.int .u64) HX2.out, rfl⟩)
        · have j2 : ¬ (4294967296 : Int) ≤ (r : Int) + y1 := by omega
          have HN : Hid (Es U Y y1 y0 u1 (q - 1) (r + y1)) := Lib.hid ⟨HD2.out, HD3.out, by omega, by have := HD4.out; omega⟩
          have HX2 := Lib.hid (show (q : Int) - 1 = ((q - 1 : Nat) : Int) by omega)
          have HX3 := Lib.hid (show (r : Int) + y1 = ((r + y1 : Nat) : Int) by omega)
          rcases ht with ht | ht
          · have i1 : (4294967296 : Int) ≤ q := by omega
            go_wp2_with fail
            go_round
            case rel => exact ⟨q - 1, r + y1, HN, congrArg (Value.int .u64) HX2.out, congrArg (Value.int .u64) HX3.out⟩
            case measure => simp [intOf]; omega
          · by_cases ht0 : 4294967296 ≤ q
            · have i1 : (4294967296 : Int) ≤ q := by omega
              go_wp2_with fail
              go_round
              case rel => exact ⟨q - 1, r + y1, HN, congrArg (Value.int .u64) HX2.out, congrArg (Value.int .u64) HX3.out⟩
              case measure => simp [intOf]; omega
            · have i1 : ¬ (4294967296 : Int) ≤ q := by omega
              have i2 : (4294967296 : Int) * r + u1 < (q : Int) * y0 := by rw [← Int.natCast_mul]; omega
              go_wp2_with fail
              go_round
              case rel => exact ⟨q - 1, r + y1, HN, congrArg (Value.int .u64) HX2.out, congrArg (Value.int .u64) HX3.out⟩
              case measure => simp [intOf]; omega
      · have i1 : ¬ (4294967296 : Int) ≤ q := by omega
        have i2 : ¬ (4294967296 : Int) * r + u1 < (q : Int) * y0 := by rw [← Int.natCast_mul]; omega
        have HX := Lib.hid ((es_done HS1.out hE.out.e hE.out.le (by omega)).trans HQ1.out)
        have HX2 := Lib.hid (show (q : Int) = Q1 by have := HX.out; omega)
        clear hE ht
        go_wp2_with fail
        all_goals (go_meet; exact ⟨congrArg (Value.int .u64) HX2.out, rfl⟩)
  case rest =>
  obtain ⟨rfl, rfl⟩ := hcut
  go_upto_block 2 with fail
  go_cut [18, 16] from 102 to 120 (fun sa sb wx => sa = .int .u64 Q0 ∧ w = wx)
  case first =>
    go_wp2_with fail
    go_loop [18, 16] (fun sa sb => ∃ q r : Nat, Hid (Es V Y y1 y0 u0 q r) ∧ sa = .int .u64 q ∧ sb = .int .u64 r) (fun sa _ => (intOf sa).toNat)
    case atStart => exact ⟨p0, r0, HE0, rfl, rfl⟩
    case round =>
      obtain ⟨q, r, hE, rfl, rfl⟩ := hrel
      have hq := hE.out.hq
      have hr := hE.out.hr
      have gq : (q : Int) ≤ 4294967297 := by omega
      have gr : (r : Int) ≤ 4294967295 := by omega
      have gm : 0 ≤ (q : Int) * y0 ∧ (q : Int) * y0 ≤ 4294967297 * 4294967295 := ⟨Int.mul_nonneg (by omega) (by omega), Int.mul_le_mul gq by0 (by omega) (by omega)⟩
      obtain ⟨gm1, gm2⟩ := gm
      by_cases ht : 4294967296 ≤ q ∨ 4294967296 * r + u0 < q * y0
      · obtain ⟨d1, d2, d3, d4⟩ := es_dec HS0.out hE.out ht
        have HD2 := Lib.hid d2; have HD3 := Lib.hid d3; have HD4 := Lib.hid d4; have HD1 := Lib.hid d1
        have j1 : (1 : Int) ≤ q := by omega
        clear d2 d3 d4 hE
        by_cases hbr : 4294967296 ≤ r + y1
        · have HX := Lib.hid ((es_break HS0.out HD2.out HD3.out HD4.out hbr).trans HQ0.out)
          have HX2 := Lib.hid (show (q : Int) - 1 = Q0 by have := HX.out; omega)
          have j2 : (4294967296 : Int) ≤ (r : Int) + y1 := by omega
          rcases ht with ht | ht
          · have i1 : (4294967296 : Int) ≤ q := by omega
            go_wp2_with fail
            all_goals (go_meet; exact ⟨congrArg (Value.int .u64) HX2.out, rfl⟩)
          · by_cases ht0 : 4294967296 ≤ q
            · have i1 : (4294967296 : Int) ≤ q := by omega
              go_wp2_with fail
              all_goals (go_meet; exact ⟨congrArg (Value.int .u64) HX2.out, rfl⟩)
            · have i1 : ¬ (4294967296 : Int) ≤ q := by omega
              have i2 : (4294967296 : Int) * r + u0 < (q : Int) * y0 := by rw [← Int.natCast_mul]; omega
              go_wp2_with fail
              all_goals (go_meet; exact ⟨congrArg (Value.int .u64) HX2.out, rfl⟩)
        · have j2 : ¬ (4294967296 : Int) ≤ (r : Int) + y1 := by omega
          have HN : Hid (Es V Y y1 y0 u0 (q - 1) (r + y1)) := Lib.hid ⟨HD2.out, HD3.out, by omega, by have := HD4.out; omega⟩
          have HX2 := Lib.hid (show (q : Int) - 1 = ((q - 1 : Nat) : Int) by omega)
          have HX3 := Lib.hid (show (r : Int) + y1 = ((r + y1 : Nat) : Int) by omega)
          rcases ht with ht | ht
          · have i1 : (4294967296 : Int) ≤ q := by omega
            go_wp2_with fail
            go_round
            case rel => exact ⟨q - 1, r + y1, HN, congrArg (Value.int .u64) HX2.out, congrArg (Value.int .u64) HX3.out⟩
            case measure => simp [intOf]; omega
          · by_cases ht0 : 4294967296 ≤ q
            · have i1 : (4294967296 : Int) ≤ q := by omega
              go_wp2_with fail
              go_round
              case rel => exact ⟨q - 1, r + y1, HN, congrArg (Value.int .u64) HX2.out, congrArg (Value.int .u64) HX3.out⟩
              case measure => simp [intOf]; omega
            · have i1 : ¬ (4294967296 : Int) ≤ q := by omega
              have i2 : (4294967296 : Int) * r + u0 < (q : Int) * y0 := by rw [← Int.natCast_mul]; omega
              go_wp2_with fail
              go_round
              case rel => exact ⟨q - 1, r + y1, HN, congrArg (Value.int .u64) HX2.out, congrArg (Value.int .u64) HX3.out⟩
              case measure => simp [intOf]; omega
      · have i1 : ¬ (4294967296 : Int) ≤ q := by omega
        have i2 : ¬ (4294967296 : Int) * r + u0 < (q : Int) * y0 := by rw [← Int.natCast_mul]; omega
        have HX := Lib.hid ((es_done HS0.out hE.out.e hE.out.le (by omega)).trans HQ0.out)
        have HX2 := Lib.hid (show (q : Int) = Q0 by have := HX.out; omega)
        clear hE ht
        go_wp2_with fail
        all_goals (go_meet; exact ⟨congrArg (Value.int .u64) HX2.out, rfl⟩)
  case rest =>
  obtain ⟨rfl, rfl⟩ := hcut
  go_wp2_with fail
  go_ret2
  exact tret rfl rfl (Below.refl _ _)
end Go.Proofs.Ytejodcpigfbnpaa

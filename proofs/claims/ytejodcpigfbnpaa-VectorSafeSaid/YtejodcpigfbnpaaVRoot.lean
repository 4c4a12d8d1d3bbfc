/-
  Root of both sides.
-/
import Derived.Test.YtejodcpigfbnpaaVNum
import Derived.Lib.ItoaNum
import Derived.Lib.BitFns
namespace VB
open Go Go.RowKit PB
/-- R is the integer root of n, 0 if n is negative. -/
structure Rt (n R : Int) : Prop where
  z : 0 ≤ R
  le : R ≤ 3037000499
  lo : 1 ≤ R → R * R ≤ n
  hi : n < (R + 1) * (R + 1)
theorem sqn (a : Int) : 0 ≤ a * a := by
  rcases Int.le_total 0 a with h | h
  · exact Int.mul_nonneg h h
  · exact Int.mul_nonneg_of_nonpos_of_nonpos h h
theorem sqm {a b : Int} (h0 : 0 ≤ a) (h : a ≤ b) : a * a ≤ b * b := Int.mul_le_mul h h h0 (by omega)
theorem Rt.iff {n R m : Int} (h : Rt n R) (hm : 1 ≤ m) : m * m ≤ n ↔ m ≤ R := by
  constructor
  · intro hle
    apply Int.le_of_not_gt
    intro hgt
    have := sqm (a := R + 1) (b := m) (by have := h.z; omega) (by omega)
    have := h.hi
    omega
  · intro hle
    have := sqm (a := m) (b := R) (by omega) hle
    have := h.lo (by omega)
    omega
theorem root_nat : ∀ n : Nat, ∃ r : Nat, r * r ≤ n ∧ n < (r + 1) * (r + 1)
  | 0 => ⟨0, by decide, by decide⟩
  | n + 1 => by
    obtain ⟨r, h1, h2⟩ := root_nat n
    by_cases h : (r + 1) * (r + 1) ≤ n + 1
    · refine ⟨r + 1, h, ?_⟩
      have e : (r + 1 + 1) * (r + 1 + 1) = (r + 1) * (r + 1) + 2 * (r + 1) + 1 := by grind
      omega
    · exact ⟨r, by omega, by omega⟩
theorem rt_exists (n : Int) (h : n ≤ 9223372036854775807) : ∃ R, Rt n R := by
  by_cases h0 : n < 0
  · exact ⟨0, by decide, by decide, fun h => by omega, by omega⟩
  · obtain ⟨r, h1, h2⟩ := root_nat n.toNat
    have e1 : ((r : Int) * r) ≤ n := by have := Int.ofNat_le.2 h1; rw [Int.natCast_mul] at this; omega
    have e2 : n < ((r : Int) + 1) * (r + 1) := by have := Int.ofNat_lt.2 h2; rw [Int.natCast_mul] at this; push_cast at this; omega
    refine ⟨r, by omega, ?_, fun _ => e1, e2⟩
    apply Int.le_of_not_gt
    intro hgt
    have := sqm (a := 3037000500) (b := (r : Int)) (by decide) (by omega)
    omega
theorem newton {n R x : Int} (h : Rt n R) (hn : 0 < n) (hx : 0 < x) : R ≤ (x + n / x) / 2 ∧ ((x + n / x) / 2 ≥ x → x ≤ R) := by
  have hR : 1 ≤ R := (h.iff (by decide)).1 (by omega)
  have hlo := h.lo hR
  constructor
  · have h1 : (2 * R - x) * x ≤ n := by
      have := sqn (R - x)
      have e : (R - x) * (R - x) = R * R - (2 * R - x) * x := by grind
      omega
    have h2 := (Int.le_ediv_iff_mul_le hx).2 h1
    omega
  · intro hge
    have h1 : x ≤ n / x := by omega
    have h2 := (Int.le_ediv_iff_mul_le hx).1 h1
    exact (h.iff (by omega)).1 h2
theorem mul_bd' {a : Int} (h0 : 0 ≤ a) (h : a ≤ 3037000499) : 0 ≤ a * a ∧ a * a ≤ 9223372030926249001 := ⟨sqn a, Int.le_trans (sqm h0 h) (by decide)⟩
theorem div_small {n R x : Int} (h : Rt n R) (hn : 0 < n) (hx : R ≤ x) : 0 ≤ n / x ∧ n / x ≤ R + 3 := by
  have hR : 1 ≤ R := (h.iff (by decide)).1 (by omega)
  refine ⟨Int.ediv_nonneg (by omega) (by omega), ?_⟩
  have h1 : n < (R + 4) * x := by
    have h2 : (R + 4) * R ≤ (R + 4) * x := Int.mul_le_mul_of_nonneg_left hx (by omega)
    have h3 := h.hi
    have e : (R + 4) * R = (R + 1) * (R + 1) + 2 * R - 1 := by grind
    omega
  have := (Int.ediv_lt_iff_lt_mul (show 0 < x by omega)).2 h1
  omega
end VB
namespace Go.Proofs.Ytejodcpigfbnpaa
open Go.RowKit PB VB
set_option maxRecDepth 100000 in
theorem ir0 {a b : Int} {w : World} (h : a = b) : Ending.returned (.int .i64 a) = Ending.returned (.int .i64 b) ∧ w = w := ⟨by rw [h], rfl⟩
set_option maxRecDepth 100000 in
set_option maxHeartbeats 1000000 in
theorem rroot_any (n R : Int) (w : World) (h : Rt n R) : Calls Try.prog 29 #[.int .i64 n] w fun e w' => e = .returned (.int .i64 R) ∧ w = w' := by
  have H := Lib.hid h
  have hz := h.z
  have hle := h.le
  clear h
  go_enter Try.func29, Try.ntmps29
  go_wp2_with fail
  go_loop [3, 4] (fun a b => ∃ lo hi : Int, 0 ≤ lo ∧ lo ≤ R ∧ R ≤ hi ∧ hi ≤ 3037000499 ∧ a = .int .i64 lo ∧ b = .int .i64 hi) (fun a b => (intOf b - intOf a).toNat)
  case atStart => exact ⟨0, 3037000499, by omega, hz, hle, by omega, rfl, rfl⟩
  case round =>
    obtain ⟨lo, hi, h1, h2, h3, h4, rfl, rfl⟩ := hrel
    by_cases hlt : lo < hi
    · have hm1 : 1 ≤ (lo + hi + 1) / 2 := by omega
      have hif := H.out.iff hm1
      have hm2 := mul_bd' (a := (lo + hi + 1) / 2) (by omega) (by omega)
      have b1 : lo < (lo + hi + 1) / 2 := by omega
      have b2 : (lo + hi + 1) / 2 ≤ hi := by omega
      by_cases hc : (lo + hi + 1) / 2 ≤ R
      · have hc1 := hif.2 hc
        clear hif
        go_wp2_with fail
        go_round
        case rel => exact ⟨(lo + hi + 1) / 2, hi, by omega, by omega, by omega, by omega, rfl, rfl⟩
        case measure => simp [intOf]; omega
      · have hc1 : ¬ (lo + hi + 1) / 2 * ((lo + hi + 1) / 2) ≤ n := fun k => hc (hif.1 k)
        clear hif
        go_wp2_with fail
        go_round
        case rel => exact ⟨lo, (lo + hi + 1) / 2 - 1, by omega, by omega, by omega, by omega, rfl, rfl⟩
        case measure => simp [intOf]; omega
    · obtain rfl : lo = R := by omega
      go_wp2_with fail
      go_ret
      exact ir0 rfl
set_option maxRecDepth 100000 in
theorem rt_zero {n R : Int} (h : Rt n R) (hn : n ≤ 0) : R = 0 := by
  have hz := h.z
  apply Int.le_antisymm _ hz
  apply Int.le_of_not_gt
  intro hgt
  have h1 := h.lo (by omega)
  have h2 := sqm (a := 1) (b := R) (by decide) (by omega)
  omega
set_option maxRecDepth 100000 in
theorem bit_start {n R : Int} (h : Rt n R) (hn : 0 < n) (h2 : n ≤ 9223372036854775807) : 1 ≤ Lib.bitLen n.toNat ∧ Lib.bitLen n.toNat ≤ 63 ∧ R ≤ 2^((Lib.bitLen n.toNat + 1) / 2) ∧ (2 : Int)^((Lib.bitLen n.toNat + 1) / 2) ≤ 4294967296 ∧ 1 ≤ (2:Int)^((Lib.bitLen n.toNat + 1) / 2) := by
  have hb := Lib.bitLenAux_bounds 64 n.toNat (by omega) (by omega)
  have hl : Lib.bitLen n.toNat ≤ 63 := Lib.bitLen_le n.toNat 63 (by decide) (by omega)
  have he : Lib.bitLen n.toNat = Lib.bitLenAux 64 n.toNat := rfl
  rw [← he] at hb
  generalize Lib.bitLen n.toNat = L at *
  have hp : (2 : Int)^((L + 1) / 2) ≤ 2^32 := by
    have := Nat.pow_le_pow_right (show 0 < 2 by decide) (show (L + 1) / 2 ≤ 32 by omega)
    exact_mod_cast this
  have hp1 : (1 : Int) ≤ 2^((L + 1) / 2) := by
    have := Nat.pow_pos (n := (L + 1) / 2) (show 0 < 2 by decide)
    exact_mod_cast this
  refine ⟨hb.1, hl, ?_, hp, hp1⟩
  apply Int.le_of_not_gt
  intro hgt
  have h3 := (h.iff (m := 2^((L + 1) / 2)) hp1).2 (by omega)
  have h4 : (2 : Nat)^L ≤ 2^((L + 1) / 2) * 2^((L + 1) / 2) := by
    rw [← Nat.pow_add]; exact Nat.pow_le_pow_right (by decide) (by omega)
  have h5 : ((2^((L + 1) / 2) * 2^((L + 1) / 2) : Nat) : Int) ≤ n := by push_cast; exact h3
  have h6 := hb.2.2
  omega
set_option maxRecDepth 100000 in
set_option maxHeartbeats 1000000 in
theorem vroot_zero (n R : Int) (w : World) (h : Rt n R) (hn : n ≤ 0) : Calls Try.prog 28 #[.int .i64 n] w fun e w' => e = .returned (.int .i64 R) ∧ w = w' := by
  have E := Lib.hid (rt_zero h hn)
  clear h
  go_enter Try.func28, Try.ntmps28
  go_wp2_with fail
  go_ret
  exact ir0 E.out.symm
set_option maxRecDepth 100000 in
set_option maxHeartbeats 1000000 in
theorem vroot_pos (n R : Int) (w : World) (h : Rt n R) (hn : 0 < n) (h2 : n ≤ 9223372036854775807) : Calls Try.prog 28 #[.int .i64 n] w fun e w' => e = .returned (.int .i64 R) ∧ w = w' := by
  have H := Lib.hid h
  have hR : 1 ≤ R := (h.iff (by decide)).1 (by omega)
  have hle := h.le
  obtain ⟨l1, l2, hs, hp, hp1⟩ := bit_start h hn h2
  have HL := Lib.hid (fun w => (Try.bits_Len n w (by omega) (by omega)).mono fun _ _ h => (⟨h.1, h.2.symm⟩ : _ ∧ w = _))
  generalize Lib.bitLen n.toNat = L at *
  have hwr : wrap64 (2 ^ ((L + 1) / 2)) = 2 ^ ((L + 1) / 2) := by unfold wrap64; omega
  have HW := Lib.hid hwr
  clear h hwr
  go_enter Try.func28, Try.ntmps28
  go_wp2_with fail
  refine (HL.out _).mono ?_
  rintro e w1 ⟨rfl, rfl⟩
  go_wp2_with fail
  clear HW
  generalize (2 : Int) ^ ((L + 1) / 2) = x0 at *
  go_loop [3, 4] (fun a b => ∃ x : Int, R ≤ x ∧ x ≤ 4294967296 ∧ a = .int .i64 x) (fun a b => (intOf a).toNat)
  case atStart => exact ⟨x0, hs, hp, rfl⟩
  case round =>
    obtain ⟨x, hx1, hx2, rfl⟩ := hrel
    obtain ⟨d0, d1⟩ := div_small H.out hn hx1
    obtain ⟨n0, n1⟩ := newton H.out hn (show 0 < x by omega)
    have x0 : 0 < x := by omega
    by_cases hge : (x + n / x) / 2 ≥ x
    · obtain rfl : x = R := by have := n1 hge; omega
      clear n1 n0
      go_wp2_with fail
      go_ret
      exact ir0 rfl
    · have hge' : ¬ x ≤ (x + n / x) / 2 := hge
      clear n1 hge
      go_wp2_with fail
      go_round
      case rel => exact ⟨(x + n / x) / 2, n0, by omega, rfl⟩
      case measure => simp [intOf]; omega
set_option maxRecDepth 100000 in
theorem vroot_any (n R : Int) (w : World) (h : Rt n R) (h2 : n ≤ 9223372036854775807) : Calls Try.prog 28 #[.int .i64 n] w fun e w' => e = .returned (.int .i64 R) ∧ w = w' := by
  by_cases hn : n ≤ 0
  · exact vroot_zero n R w h hn
  · exact vroot_pos n R w h (by omega) h2
end Go.Proofs.Ytejodcpigfbnpaa

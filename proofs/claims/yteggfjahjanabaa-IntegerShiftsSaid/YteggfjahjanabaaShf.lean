/-
  The walk of IntegerShifts (written by wip/genshift.py).
-/
import Derived.Test.YteggfjahjanabaaShiftZ
namespace Go.Proofs.Yteggfjahjanabaa
open Go.RowKit PB
theorem sign_nn {v : Value} {z : Int} (w : World) (h : IsInt w v z) (hz : 0 ≤ z) :
    Calls Try.prog 32 #[v] w fun e w' => ∃ r : Int, 0 ≤ r ∧ e = .returned (.int .i64 r) ∧ Below w.heap.size w w' := by
  refine (sign_any v z w h).mono ?_
  rintro e w' ⟨rfl, hb⟩
  exact ⟨z.sign, Int.sign_nonneg_iff.2 hz, rfl, hb⟩
theorem cmp_less {v1 v2 : Value} {z1 z2 : Int} (w : World) (h1 : IsInt w v1 z1) (h2 : IsInt w v2 z2) (e : z1 < z2) :
    Calls Try.prog 36 #[v1, v2] w fun e w' => e = .returned (.int .i64 (-1)) ∧ Below w.heap.size w w' := by
  have h := cmp_any v1 v2 z1 z2 w h1 h2
  rwa [show cmpi z1 z2 = -1 by unfold cmpi; rw [if_pos e]] at h

theorem pow_cast (l : Nat) : ((2^l : Nat) : Int) = 2^l := by rw [Int.natCast_pow]; rfl
theorem pow_pos_int (l : Nat) : (0 : Int) < 2^l := by rw [← pow_cast]; exact Int.natCast_pos.2 (Nat.pow_pos (by decide))
theorem shf_back (a : Int) (k : Nat) : a * 2^k / (2^k : Nat) = a := by rw [pow_cast]; exact Int.mul_ediv_cancel _ (Int.ne_of_gt (pow_pos_int k))
theorem shf_add (a : Int) (k l : Nat) : a * 2^k * 2^l = a * 2^(k + l) := by rw [Int.pow_add, Int.mul_assoc]
theorem shf_mod (a : Int) (l : Nat) : a - a / (2^l : Nat) * 2^l = a % 2^l := by rw [pow_cast, Int.emod_def, Int.mul_comm]
theorem shf_nn (a : Int) (l : Nat) : 0 ≤ a - a / (2^l : Nat) * 2^l := by rw [shf_mod]; exact Int.emod_nonneg _ (Int.ne_of_gt (pow_pos_int l))
theorem shf_less (a : Int) (l : Nat) : a - a / (2^l : Nat) * 2^l < 1 * 2^l := by rw [shf_mod, Int.one_mul]; exact Int.emod_lt_of_pos _ (pow_pos_int l)
theorem sm_one : sm 1 1 := by unfold sm B; decide
theorem sm_div {j : Nat} {z : Int} (h : sm j z) (l : Nat) : sm j (z / (2^l : Nat)) := by
  unfold sm at *
  have h1 : 0 < 2^l := Nat.pow_pos (by decide)
  exact Nat.lt_of_le_of_lt (Int.natAbs_ediv_le_natAbs z _) h

set_option maxHeartbeats 12800000 in
set_option maxRecDepth 100000 in
theorem shf_small (sa : Bool) (qa : Option Addr) (na ca : Nat) (a : Int) (k l : Nat) (w : World)
    (ha : IsInt w (.agg #[.bool sa, .slice qa na ca]) a) (la : na ≤ 40) (hk : k ≤ 600) (hl : l ≤ 600) :
    Calls Try.prog 7 #[.agg #[.bool sa, .slice qa na ca], .int .i64 k, .int .i64 l] w fun e w' => e = .returned (.bool true) ∧ Below w.heap.size w w' := by
  have k3 := Lib.hid (sm_int ha la)
  have i1 : decide ((k : Int) < 0) = false := decide_eq_false (by omega)
  have i2 : decide ((600 : Int) < k) = false := decide_eq_false (by omega)
  have i3 : decide ((l : Int) < 0) = false := decide_eq_false (by omega)
  have i4 : decide ((600 : Int) < l) = false := decide_eq_false (by omega)
  go_enter Try.func7, Try.ntmps7
  go_wp2_with fail
  generalize hW : World.alloc _ _ = W
  obtain ⟨N, hN⟩ : ∃ N, w.heap.size = N := ⟨_, rfl⟩
  have HB0 : Hid (Below w.heap.size w W) := Lib.hid (by rw [← hW]; exact below_one (Below.refl _ _) (Nat.le_refl _) _)
  have BL0 : Blk W w.heap.size #[.bool sa, .slice qa na ca] := by rw [← hW]; exact blk_new rfl
  rw [hN]
  have VA0 : Hid (Vars W [(N, a)]) := Lib.hid (by
    have h0 : Vars W [] := fun q hq => by cases hq
    refine h0.cons (p := N) (z := a) ?_
    exact ⟨_, _, _, _, hN ▸ BL0, ha.kept HB0.out⟩)
  have HBL := Lib.hid (show Blk W N #[.bool sa, .slice qa na ca] from hN ▸ BL0)
  clear hW BL0
  refine (awake_any W).mono ?_
  rintro e u0 ⟨rfl, hb1⟩
  have HB1 : Hid (Below w.heap.size w u0) := Lib.hid (HB0.out.trans (hb1.mono HB0.out.size))
  have VA1 := Lib.hid (VA0.out.kept hb1)
  obtain ⟨a0, a1⟩ := Blk2 (HBL.out.kept hb1)
  clear hb1 HB0 VA0 HBL ha
  have F1 := Lib.hid (fun W => few_any sa qa na ca W)
  rw [decide_eq_true la] at F1
  clear la
  go_wp2_with fail
  refine (F1.out u0).mono ?_
  rintro e u1 ⟨rfl, hx⟩
  have VA := Lib.hid (VA1.out.kept hx)
  have HB := Lib.hid (HB1.out.trans (hx.mono HB1.out.size))
  clear hx VA1 HB1 F1 a0 a1
  obtain ⟨Z7, hZ⟩ : ∃ Z : Int, Z = (a * 2^k) := ⟨_, rfl⟩
  have HZ7 := Lib.hid hZ
  have k7 : Hid (sm 59 Z7) := Lib.hid (by rw [hZ]; exact sm_shift (m := 19) (k := k) k3.out (by omega))
  obtain ⟨s0, q0, n0, c0, f00, f01, _, _, I0⟩ := var_out (VA.out (N, a) (by simp))
  have call := shift_up_sm (m := 19) (k := k) u1 I0 k3.out (by omega) (by decide) (by omega)
  rw [← hZ] at call
  clear hZ
  go_wp2_with fail
  refine call.mono ?_
  clear call
  rintro e x7 ⟨v, rfl, hc, hx⟩
  obtain ⟨s7, q7, n7, c7, rfl, i⟩ := can_form hc
  have VB := Lib.hid (VA.out.kept hx)
  have HC := Lib.hid (HB.out.trans (hx.mono HB.out.size))
  clear hc hx I0 f00 f01 VA HB
  go_upto_region 6 with fail
  generalize hW : World.alloc _ _ = y7
  obtain ⟨P7, hP⟩ : ∃ P, x7.heap.size = P := ⟨_, rfl⟩
  rw [hP]
  have hy : Below x7.heap.size x7 y7 := by rw [← hW]; exact (Below.refl _ _).alloc (Nat.le_refl _) _
  have bl : Blk y7 P7 #[.bool s7, .slice q7 n7 c7] := by rw [← hW, ← hP]; exact blk_new rfl
  have VA := Lib.hid ((VB.out.kept hy).cons ⟨_, _, _, _, bl, i.kept hy⟩)
  have HB := Lib.hid (HC.out.trans (hy.mono HC.out.size))
  have J7 := Lib.hid (i.kept hy)
  clear hW hP hy VB HC i bl
  obtain ⟨Z9, hZ⟩ : ∃ Z : Int, Z = (Z7 / (2^k : Nat)) := ⟨_, rfl⟩
  have HZ9 := Lib.hid hZ
  obtain ⟨s0, q0, n0, c0, f00, f01, _, _, I0⟩ := var_out (VA.out (P7, Z7) (by simp))
  have call := shift_down_sm (k := k) y7 I0 k7.out (by decide) (by omega)
  rw [← hZ] at call
  clear hZ
  go_wp2_with fail
  refine call.mono ?_
  clear call
  rintro e x9 ⟨v, rfl, hc, hx⟩
  obtain ⟨s9, q9, n9, c9, rfl, i⟩ := can_form hc
  have VB := Lib.hid (VA.out.kept hx)
  have HC := Lib.hid (HB.out.trans (hx.mono HB.out.size))
  clear hc hx I0 f00 f01 VA HB
  go_upto_region 7 with fail
  generalize hW : World.alloc _ _ = y9
  obtain ⟨P9, hP⟩ : ∃ P, x9.heap.size = P := ⟨_, rfl⟩
  rw [hP]
  have hy : Below x9.heap.size x9 y9 := by rw [← hW]; exact (Below.refl _ _).alloc (Nat.le_refl _) _
  have bl : Blk y9 P9 #[.bool s9, .slice q9 n9 c9] := by rw [← hW, ← hP]; exact blk_new rfl
  have VA := Lib.hid ((VB.out.kept hy).cons ⟨_, _, _, _, bl, i.kept hy⟩)
  have HB := Lib.hid (HC.out.trans (hy.mono HC.out.size))
  clear hW hP hy VB HC i bl
  obtain ⟨Z11, hZ⟩ : ∃ Z : Int, Z = (Z7 * 2^l) := ⟨_, rfl⟩
  have HZ11 := Lib.hid hZ
  obtain ⟨s0, q0, n0, c0, f00, f01, _, _, I0⟩ := var_out (VA.out (P7, Z7) (by simp))
  have call := shift_up_sm (m := 19) (k := l) y9 I0 k7.out (by omega) (by decide) (by omega)
  rw [← hZ] at call
  clear hZ
  go_wp2_with fail
  refine call.mono ?_
  clear call
  rintro e x11 ⟨v, rfl, hc, hx⟩
  obtain ⟨s11, q11, n11, c11, rfl, i⟩ := can_form hc
  have VB := Lib.hid (VA.out.kept hx)
  have HC := Lib.hid (HB.out.trans (hx.mono HB.out.size))
  clear hc hx I0 f00 f01 VA HB
  go_upto_region 8 with fail
  generalize hW : World.alloc _ _ = y11
  obtain ⟨P11, hP⟩ : ∃ P, x11.heap.size = P := ⟨_, rfl⟩
  rw [hP]
  have hy : Below x11.heap.size x11 y11 := by rw [← hW]; exact (Below.refl _ _).alloc (Nat.le_refl _) _
  have bl : Blk y11 P11 #[.bool s11, .slice q11 n11 c11] := by rw [← hW, ← hP]; exact blk_new rfl
  have VA := Lib.hid ((VB.out.kept hy).cons ⟨_, _, _, _, bl, i.kept hy⟩)
  have HB := Lib.hid (HC.out.trans (hy.mono HC.out.size))
  clear hW hP hy VB HC i bl
  obtain ⟨Z13, hZ⟩ : ∃ Z : Int, Z = (a * 2^(k + l)) := ⟨_, rfl⟩
  have HZ13 := Lib.hid hZ
  obtain ⟨s0, q0, n0, c0, f00, f01, _, _, I0⟩ := var_out (VA.out (N, a) (by simp))
  have call := (by have h := shift_up_sm (m := 38) (k := k + l) y11 I0 k3.out (by omega) (by decide) (by omega); rw [Int.natCast_add] at h; exact h)
  rw [← hZ] at call
  clear hZ
  go_wp2_with fail
  refine call.mono ?_
  clear call
  rintro e x13 ⟨v, rfl, hc, hx⟩
  obtain ⟨s13, q13, n13, c13, rfl, i⟩ := can_form hc
  have VB := Lib.hid (VA.out.kept hx)
  have HC := Lib.hid (HB.out.trans (hx.mono HB.out.size))
  clear hc hx I0 f00 f01 VA HB
  go_upto_region 9 with fail
  generalize hW : World.alloc _ _ = y13
  obtain ⟨P13, hP⟩ : ∃ P, x13.heap.size = P := ⟨_, rfl⟩
  rw [hP]
  have hy : Below x13.heap.size x13 y13 := by rw [← hW]; exact (Below.refl _ _).alloc (Nat.le_refl _) _
  have bl : Blk y13 P13 #[.bool s13, .slice q13 n13 c13] := by rw [← hW, ← hP]; exact blk_new rfl
  have VA := Lib.hid ((VB.out.kept hy).cons ⟨_, _, _, _, bl, i.kept hy⟩)
  have HB := Lib.hid (HC.out.trans (hy.mono HC.out.size))
  clear hW hP hy VB HC i bl
  obtain ⟨Z15, hZ⟩ : ∃ Z : Int, Z = (a / (2^l : Nat)) := ⟨_, rfl⟩
  have HZ15 := Lib.hid hZ
  have k15 : Hid (sm 40 Z15) := Lib.hid (by rw [hZ]; exact sm_div k3.out l)
  obtain ⟨s0, q0, n0, c0, f00, f01, _, _, I0⟩ := var_out (VA.out (N, a) (by simp))
  have call := shift_down_sm (k := l) y13 I0 k3.out (by decide) (by omega)
  rw [← hZ] at call
  clear hZ
  go_wp2_with fail
  refine call.mono ?_
  clear call
  rintro e x15 ⟨v, rfl, hc, hx⟩
  obtain ⟨s15, q15, n15, c15, rfl, i⟩ := can_form hc
  have VB := Lib.hid (VA.out.kept hx)
  have HC := Lib.hid (HB.out.trans (hx.mono HB.out.size))
  clear hc hx I0 f00 f01 VA HB
  go_upto_region 10 with fail
  generalize hW : World.alloc _ _ = y15
  obtain ⟨P15, hP⟩ : ∃ P, x15.heap.size = P := ⟨_, rfl⟩
  rw [hP]
  have hy : Below x15.heap.size x15 y15 := by rw [← hW]; exact (Below.refl _ _).alloc (Nat.le_refl _) _
  have bl : Blk y15 P15 #[.bool s15, .slice q15 n15 c15] := by rw [← hW, ← hP]; exact blk_new rfl
  have VA := Lib.hid ((VB.out.kept hy).cons ⟨_, _, _, _, bl, i.kept hy⟩)
  have HB := Lib.hid (HC.out.trans (hy.mono HC.out.size))
  have J15 := Lib.hid (i.kept hy)
  clear hW hP hy VB HC i bl
  obtain ⟨Z17, hZ⟩ : ∃ Z : Int, Z = (Z15 * 2^l) := ⟨_, rfl⟩
  have HZ17 := Lib.hid hZ
  have k17 : Hid (sm 59 Z17) := Lib.hid (by rw [hZ]; exact sm_shift (m := 19) (k := l) k15.out (by omega))
  obtain ⟨s0, q0, n0, c0, f00, f01, _, _, I0⟩ := var_out (VA.out (P15, Z15) (by simp))
  have call := shift_up_sm (m := 19) (k := l) y15 I0 k15.out (by omega) (by decide) (by omega)
  rw [← hZ] at call
  clear hZ
  go_wp2_with fail
  refine call.mono ?_
  clear call
  rintro e x17 ⟨v, rfl, hc, hx⟩
  obtain ⟨s17, q17, n17, c17, rfl, i⟩ := can_form hc
  have VB := Lib.hid (VA.out.kept hx)
  have HC := Lib.hid (HB.out.trans (hx.mono HB.out.size))
  clear hc hx I0 f00 f01 VA HB
  go_upto_region 11 with fail
  generalize hW : World.alloc _ _ = y17
  obtain ⟨P17, hP⟩ : ∃ P, x17.heap.size = P := ⟨_, rfl⟩
  rw [hP]
  have hy : Below x17.heap.size x17 y17 := by rw [← hW]; exact (Below.refl _ _).alloc (Nat.le_refl _) _
  have bl : Blk y17 P17 #[.bool s17, .slice q17 n17 c17] := by rw [← hW, ← hP]; exact blk_new rfl
  have VA := Lib.hid ((VB.out.kept hy).cons ⟨_, _, _, _, bl, i.kept hy⟩)
  have HB := Lib.hid (HC.out.trans (hy.mono HC.out.size))
  clear hW hP hy VB HC i bl
  obtain ⟨Z19, hZ⟩ : ∃ Z : Int, Z = (a - Z17) := ⟨_, rfl⟩
  have HZ19 := Lib.hid hZ
  obtain ⟨s0, q0, n0, c0, f00, f01, _, _, I0⟩ := var_out (VA.out (N, a) (by simp))
  obtain ⟨s1, q1, n1, c1, f10, f11, _, _, I1⟩ := var_out (VA.out (P17, Z17) (by simp))
  have call := sub_sm y17 I0 I1 (sm_mono k3.out (by decide)) (sm_mono k17.out (by decide))
  rw [← hZ] at call
  clear hZ
  go_wp2_with fail
  refine call.mono ?_
  clear call
  rintro e x19 ⟨v, rfl, hc, hx⟩
  obtain ⟨s19, q19, n19, c19, rfl, i⟩ := can_form hc
  have VB := Lib.hid (VA.out.kept hx)
  have HC := Lib.hid (HB.out.trans (hx.mono HB.out.size))
  clear hc hx I0 f00 f01 I1 f10 f11 VA HB
  go_upto_region 12 with fail
  generalize hW : World.alloc _ _ = y19
  obtain ⟨P19, hP⟩ : ∃ P, x19.heap.size = P := ⟨_, rfl⟩
  rw [hP]
  have hy : Below x19.heap.size x19 y19 := by rw [← hW]; exact (Below.refl _ _).alloc (Nat.le_refl _) _
  have bl : Blk y19 P19 #[.bool s19, .slice q19 n19 c19] := by rw [← hW, ← hP]; exact blk_new rfl
  have VA := Lib.hid ((VB.out.kept hy).cons ⟨_, _, _, _, bl, i.kept hy⟩)
  have HB := Lib.hid (HC.out.trans (hy.mono HC.out.size))
  clear hW hP hy VB HC i bl
  go_wp2_with fail
  refine (of_any 1 y19 (by decide) (by decide)).mono ?_
  rintro e w1 ⟨v1, rfl, hc, hx⟩
  have I0 := hc.int
  have VB := Lib.hid (VA.out.kept hx)
  have HC := Lib.hid (HB.out.trans (hx.mono HB.out.size))
  clear hc hx VA HB
  have VA := VB
  have HB := HC
  clear VB HC
  obtain ⟨Z21, hZ⟩ : ∃ Z : Int, Z = (1 * 2^l) := ⟨_, rfl⟩
  have HZ21 := Lib.hid hZ
  have call := shift_up_sm (m := 19) (k := l) w1 I0 sm_one (by omega) (by decide) (by omega)
  rw [← hZ] at call
  clear hZ
  go_wp2_with fail
  refine call.mono ?_
  clear call
  rintro e x21 ⟨v, rfl, hc, hx⟩
  obtain ⟨s21, q21, n21, c21, rfl, i⟩ := can_form hc
  have VB := Lib.hid (VA.out.kept hx)
  have HC := Lib.hid (HB.out.trans (hx.mono HB.out.size))
  clear hc hx VA HB
  go_upto_region 13 with fail
  generalize hW : World.alloc _ _ = y21
  obtain ⟨P21, hP⟩ : ∃ P, x21.heap.size = P := ⟨_, rfl⟩
  rw [hP]
  have hy : Below x21.heap.size x21 y21 := by rw [← hW]; exact (Below.refl _ _).alloc (Nat.le_refl _) _
  have bl : Blk y21 P21 #[.bool s21, .slice q21 n21 c21] := by rw [← hW, ← hP]; exact blk_new rfl
  have VA := Lib.hid ((VB.out.kept hy).cons ⟨_, _, _, _, bl, i.kept hy⟩)
  have HB := Lib.hid (HC.out.trans (hy.mono HC.out.size))
  clear hW hP hy VB HC i bl
  clear k3 k7 k15 k17
  obtain ⟨s0, q0, n0, c0, f00, f01, _, _, I0⟩ := var_out (VA.out (P9, Z9) (by simp))
  obtain ⟨s1, q1, n1, c1, f10, f11, _, _, I1⟩ := var_out (VA.out (N, a) (by simp))
  go_wp2_with fail
  refine (cmp_eq y21 I0 I1 (by rw [HZ9.out, HZ7.out]; exact shf_back a k)).mono ?_
  rintro e m0 ⟨rfl, hx⟩
  have VB := Lib.hid (VA.out.kept hx)
  have HC := Lib.hid (HB.out.trans (hx.mono HB.out.size))
  clear hx I0 f00 f01 I1 f10 f11 VA HB
  have VA := VB
  have HB := HC
  clear VB HC
  obtain ⟨s0, q0, n0, c0, f00, f01, _, _, I0⟩ := var_out (VA.out (P11, Z11) (by simp))
  obtain ⟨s1, q1, n1, c1, f10, f11, _, _, I1⟩ := var_out (VA.out (P13, Z13) (by simp))
  go_wp2_with fail
  refine (cmp_eq m0 I0 I1 (by rw [HZ11.out, HZ13.out, HZ7.out]; exact shf_add a k l)).mono ?_
  rintro e m1 ⟨rfl, hx⟩
  have VB := Lib.hid (VA.out.kept hx)
  have HC := Lib.hid (HB.out.trans (hx.mono HB.out.size))
  clear hx I0 f00 f01 I1 f10 f11 VA HB
  have VA := VB
  have HB := HC
  clear VB HC
  obtain ⟨s0, q0, n0, c0, f00, f01, _, _, I0⟩ := var_out (VA.out (P19, Z19) (by simp))
  go_wp2_with fail
  refine (sign_nn m1 I0 (by rw [HZ19.out, HZ17.out, HZ15.out]; exact shf_nn a l)).mono ?_
  rintro e m2 ⟨r, hr, rfl, hx⟩
  have VB := Lib.hid (VA.out.kept hx)
  have HC := Lib.hid (HB.out.trans (hx.mono HB.out.size))
  clear hx I0 f00 f01 VA HB
  have VA := VB
  have HB := HC
  clear VB HC
  obtain ⟨s0, q0, n0, c0, f00, f01, _, _, I0⟩ := var_out (VA.out (P19, Z19) (by simp))
  obtain ⟨s1, q1, n1, c1, f10, f11, _, _, I1⟩ := var_out (VA.out (P21, Z21) (by simp))
  go_wp2_with fail
  refine (cmp_less m2 I0 I1 (by rw [HZ19.out, HZ21.out, HZ17.out, HZ15.out]; exact shf_less a l)).mono ?_
  rintro e m3 ⟨rfl, hx⟩
  have VB := Lib.hid (VA.out.kept hx)
  have HC := Lib.hid (HB.out.trans (hx.mono HB.out.size))
  clear hx I0 f00 f01 I1 f10 f11 VA HB
  have VA := VB
  have HB := HC
  clear VB HC
  go_wp2_with fail
  go_ret
  exact ⟨rfl, HB.out⟩
end Go.Proofs.Yteggfjahjanabaa

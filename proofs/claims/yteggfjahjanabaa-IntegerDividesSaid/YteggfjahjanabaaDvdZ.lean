/-
  The walk of IntegerDivides (written by wip/gendiv.py).
-/
import Derived.Test.YteggfjahjanabaaDivL
namespace Go.Proofs.Yteggfjahjanabaa
open Go.RowKit PB

set_option maxHeartbeats 12800000 in
set_option maxRecDepth 100000 in
theorem dvd_zero (sa sb sc : Bool) (qa qb qc : Option Addr) (na nb nc ca cb cc : Nat) (a b c : Int) (w : World)
    (ha : IsInt w (.agg #[.bool sa, .slice qa na ca]) a) (hb : IsInt w (.agg #[.bool sb, .slice qb nb cb]) b) (hc : IsInt w (.agg #[.bool sc, .slice qc nc cc]) c) (la : na ≤ 20) (lb : nb ≤ 20) (lc : nc ≤ 20) (hb0 : b ≠ 0) (hr1 : a.tmod b = 0) :
    Calls Try.prog 6 #[.agg #[.bool sa, .slice qa na ca], .agg #[.bool sb, .slice qb nb cb], .agg #[.bool sc, .slice qc nc cc]] w fun e w' => e = .returned (.bool true) ∧ Below w.heap.size w w' := by
  have ka := Lib.hid (sm_int ha la)
  have kb := Lib.hid (sm_int hb lb)
  have kc := Lib.hid (sm_int hc lc)
  have i1 : decide ((20 : Int) < na) = false := decide_eq_false (by omega)
  have i2 : decide ((20 : Int) < nb) = false := decide_eq_false (by omega)
  have i3 : decide ((20 : Int) < nc) = false := decide_eq_false (by omega)
  have HB00 := Lib.hid hb0
  have HR1 := Lib.hid hr1
  clear la lb lc hb0 hr1
  go_enter Try.func6, Try.ntmps6
  go_wp2_with fail
  generalize hW : World.alloc _ _ = W
  obtain ⟨N, hN⟩ : ∃ N, w.heap.size = N := ⟨_, rfl⟩
  have HB0 : Hid (Below w.heap.size w W) := Lib.hid (by rw [← hW]; exact bs_alloc (bs_alloc (bs_alloc (Below.refl _ _) _) _) _)
  have BL0 : Blk W w.heap.size #[.bool sa, .slice qa na ca] := by rw [← hW]; exact ((blk_new rfl).alloc _).alloc _
  have BL1 : Blk W (w.heap.size + 1) #[.bool sb, .slice qb nb cb] := by rw [← hW]; exact (blk_new (by simp)).alloc _
  have BL2 : Blk W (w.heap.size + 1 + 1) #[.bool sc, .slice qc nc cc] := by rw [← hW]; exact blk_new (by simp)
  rw [hN]
  have VA0 : Hid (Vars W [(N, a), (N + 1, b), (N + 1 + 1, c)]) := Lib.hid (by
    have h0 : Vars W [] := fun q hq => by cases hq
    refine ((h0.cons (p := N + 1 + 1) (z := c) ?_).cons (p := N + 1) (z := b) ?_).cons (p := N) (z := a) ?_
    · exact ⟨_, _, _, _, hN ▸ BL2, hc.kept HB0.out⟩
    · exact ⟨_, _, _, _, hN ▸ BL1, hb.kept HB0.out⟩
    · exact ⟨_, _, _, _, hN ▸ BL0, ha.kept HB0.out⟩)
  have HBL := Lib.hid (show Blk W N #[.bool sa, .slice qa na ca] ∧ Blk W (N + 1) #[.bool sb, .slice qb nb cb] ∧ Blk W (N + 1 + 1) #[.bool sc, .slice qc nc cc] from ⟨hN ▸ BL0, hN ▸ BL1, hN ▸ BL2⟩)
  clear hW BL0 BL1 BL2 ha hb hc
  refine (awake_any W).mono ?_
  rintro e u0 ⟨rfl, hb1⟩
  have HB : Hid (Below w.heap.size w u0) := Lib.hid (bs_trans HB0.out hb1)
  have VA := Lib.hid (VA0.out.kept hb1)
  obtain ⟨B0, B1, B2⟩ := HBL.out
  obtain ⟨a0, a1⟩ := Blk2 (B0.kept hb1)
  obtain ⟨b0, b1⟩ := Blk2 (B1.kept hb1)
  obtain ⟨c0, c1⟩ := Blk2 (B2.kept hb1)
  clear hb1 HB0 VA0 HBL B0 B1 B2
  go_upto_region 5 with fail
  clear a0 a1 b0 b1 c0 c1
  obtain ⟨Z7, hZ⟩ : ∃ Z : Int, Z = (a.tdiv b) := ⟨_, rfl⟩
  have HZ7 := Lib.hid hZ
  obtain ⟨Z8, hZ2⟩ : ∃ Z : Int, Z = (a.tmod b) := ⟨_, rfl⟩
  have HZ8 := Lib.hid hZ2
  have k7 : Hid (sm 20 Z7) := Lib.hid (by rw [hZ]; exact sm_tdiv ka.out b)
  have k8 : Hid (sm 20 Z8) := Lib.hid (by rw [hZ2]; exact sm_tmod ka.out b)
  obtain ⟨s0, q0, n0, c0, f00, f01, _, _, I0⟩ := var_out (VA.out (N, a) (by simp))
  obtain ⟨s1, q1, n1, c1, f10, f11, _, _, I1⟩ := var_out (VA.out (N + 1, b) (by simp))
  have call := quo_fine _ _ _ _ u0 I0 I1 (not_big ka.out (by decide)) (not_big kb.out (by decide)) HB00.out
  rw [← hZ, ← hZ2] at call
  clear hZ hZ2
  go_wp2_with fail
  refine call.mono ?_
  clear call
  rintro e x7 ⟨v, v', rfl, hc, hc2, hx⟩
  obtain ⟨s7, q7, n7, c7, rfl, i⟩ := can_form hc
  obtain ⟨s8, q8, n8, c8, rfl, i2⟩ := can_form hc2
  have VB := Lib.hid (VA.out.kept hx)
  have HC := Lib.hid (bs_trans HB.out hx)
  clear hc hc2 hx I0 f00 f01 I1 f10 f11 VA HB
  go_upto_region 6 with fail
  generalize hW : World.alloc _ _ = y7
  obtain ⟨P7, hP⟩ : ∃ P, x7.heap.size = P := ⟨_, rfl⟩
  rw [hP]
  have hy : Below x7.heap.size x7 y7 := by rw [← hW]; exact bs_alloc (bs_alloc (Below.refl _ _) _) _
  have bl : Blk y7 P7 #[.bool s7, .slice q7 n7 c7] := by rw [← hW, ← hP]; exact (blk_new rfl).alloc _
  have bl2 : Blk y7 (P7 + 1) #[.bool s8, .slice q8 n8 c8] := by rw [← hW, ← hP]; exact blk_new (by simp)
  have VA := Lib.hid (((VB.out.kept hy).cons (p := P7) (z := Z7) ⟨_, _, _, _, bl, i.kept hy⟩).cons (p := P7 + 1) (z := Z8) ⟨_, _, _, _, bl2, i2.kept hy⟩)
  have HB := Lib.hid (bs_trans HC.out hy)
  clear hW hP hy VB HC i bl i2 bl2
  obtain ⟨r, hr⟩ : ∃ r, b.sign = r := ⟨_, rfl⟩
  have HR := Lib.hid hr
  have t0 : (r == (0 : Int)) = false := by rw [← hr]; simp; exact HB00.out
  clear hr
  obtain ⟨s0, q0, n0, c0, f00, f01, _, _, I0⟩ := var_out (VA.out (N + 1, b) (by simp))
  go_wp2_with fail
  refine (sign_is y7 I0 HR.out).mono ?_
  rintro e m0 ⟨rfl, hx⟩
  have VB := Lib.hid (VA.out.kept hx)
  have HC := Lib.hid (bs_trans HB.out hx)
  clear hx I0 f00 f01 VA HB
  have VA := VB
  have HB := HC
  clear VB HC
  obtain ⟨Z10, hZ⟩ : ∃ Z : Int, Z = (Z7 * b) := ⟨_, rfl⟩
  have HZ10 := Lib.hid hZ
  have k10 : Hid (sm (20 + 20) Z10) := Lib.hid (by rw [hZ]; exact sm_mul k7.out kb.out)
  obtain ⟨s0, q0, n0, c0, f00, f01, _, _, I0⟩ := var_out (VA.out (P7, Z7) (by simp))
  obtain ⟨s1, q1, n1, c1, f10, f11, _, _, I1⟩ := var_out (VA.out (N + 1, b) (by simp))
  have call := mul_sm m0 I0 I1 (sm_mono k7.out (by decide)) (sm_mono kb.out (by decide))
  rw [← hZ] at call
  clear hZ
  go_wp2_with fail
  refine call.mono ?_
  clear call
  rintro e x10 ⟨v, rfl, hc, hx⟩
  obtain ⟨s10, q10, n10, c10, rfl, i⟩ := can_form hc
  have VB := Lib.hid (VA.out.kept hx)
  have HC := Lib.hid (bs_trans HB.out hx)
  clear hc hx I0 f00 f01 I1 f10 f11 VA HB
  go_upto_region 9 with fail
  generalize hW : World.alloc _ _ = y10
  obtain ⟨P10, hP⟩ : ∃ P, x10.heap.size = P := ⟨_, rfl⟩
  rw [hP]
  have hy : Below x10.heap.size x10 y10 := by rw [← hW]; exact (Below.refl _ _).alloc (Nat.le_refl _) _
  have bl : Blk y10 P10 #[.bool s10, .slice q10 n10 c10] := by rw [← hW, ← hP]; exact blk_new rfl
  have VA := Lib.hid ((VB.out.kept hy).cons ⟨_, _, _, _, bl, i.kept hy⟩)
  have HB := Lib.hid (bs_trans HC.out hy)
  clear hW hP hy VB HC i bl
  obtain ⟨Z12, hZ⟩ : ∃ Z : Int, Z = (Z10 + Z8) := ⟨_, rfl⟩
  have HZ12 := Lib.hid hZ
  obtain ⟨s0, q0, n0, c0, f00, f01, _, _, I0⟩ := var_out (VA.out (P10, Z10) (by simp))
  obtain ⟨s1, q1, n1, c1, f10, f11, _, _, I1⟩ := var_out (VA.out (P7 + 1, Z8) (by simp))
  have call := add_sm y10 I0 I1 (sm_mono k10.out (by decide)) (sm_mono k8.out (by decide))
  rw [← hZ] at call
  clear hZ
  go_wp2_with fail
  refine call.mono ?_
  clear call
  rintro e x12 ⟨v, rfl, hc, hx⟩
  obtain ⟨s12, q12, n12, c12, rfl, i⟩ := can_form hc
  have VB := Lib.hid (VA.out.kept hx)
  have HC := Lib.hid (bs_trans HB.out hx)
  clear hc hx I0 f00 f01 I1 f10 f11 VA HB
  go_upto_region 10 with fail
  generalize hW : World.alloc _ _ = y12
  obtain ⟨P12, hP⟩ : ∃ P, x12.heap.size = P := ⟨_, rfl⟩
  rw [hP]
  have hy : Below x12.heap.size x12 y12 := by rw [← hW]; exact (Below.refl _ _).alloc (Nat.le_refl _) _
  have bl : Blk y12 P12 #[.bool s12, .slice q12 n12 c12] := by rw [← hW, ← hP]; exact blk_new rfl
  have VA := Lib.hid ((VB.out.kept hy).cons ⟨_, _, _, _, bl, i.kept hy⟩)
  have HB := Lib.hid (bs_trans HC.out hy)
  clear hW hP hy VB HC i bl
  obtain ⟨s0, q0, n0, c0, D0, I0⟩ := VA.out (P7 + 1, Z8) (by simp)
  obtain ⟨s1, q1, n1, c1, D1, I1⟩ := VA.out (N + 1, b) (by simp)
  have HK := Lib.hid (show ∀ w', Below y12.heap.size y12 w' → (w'.cell? ⟨P7 + 1, 0, none⟩ = some (.bool s0) ∧ w'.cell? ⟨P7 + 1, 1, none⟩ = some (.slice q0 n0 c0)) ∧ (w'.cell? ⟨N + 1, 0, none⟩ = some (.bool s1) ∧ w'.cell? ⟨N + 1, 1, none⟩ = some (.slice q1 n1 c1)) from fun w1 h => ⟨Blk2 (D0.kept h), Blk2 (D1.kept h)⟩)
  have HI0 := Lib.hid (fun w' (h : Below y12.heap.size y12 w') => I0.kept h)
  have HI1 := Lib.hid (fun w' (h : Below y12.heap.size y12 w') => I1.kept h)
  obtain ⟨⟨g00, g01⟩, g10, g11⟩ := HK.out _ (Below.refl _ _)
  clear D0 I0 D1 I1
  have hlt : ((Z8.natAbs : Nat) : Int) < (b.natAbs : Nat) := by rw [HZ8.out, Int.natAbs_tmod]; exact Int.ofNat_lt.2 (Nat.mod_lt _ (by have := HB00.out; omega))
  have HLT := Lib.hid hlt
  clear hlt
  go_cut [14] from 64 to 69 (fun s14 wx => s14 = .int .i64 (-1) ∧ Below y12.heap.size y12 wx)
  case first =>
    go_region_held3 (fun w' => (w'.cell? ⟨P7 + 1, 0, none⟩ = some (.bool s0) ∧ w'.cell? ⟨P7 + 1, 1, none⟩ = some (.slice q0 n0 c0)) ∧ (w'.cell? ⟨N + 1, 0, none⟩ = some (.bool s1) ∧ w'.cell? ⟨N + 1, 1, none⟩ = some (.slice q1 n1 c1)))
      ((refine HK.out _ ?_; (repeat (first | with_reducible assumption | with_reducible exact Below.refl _ _ | with_reducible refine bs_alloc ?_ _ | with_reducible refine bs_drew ?_ | with_reducible refine bs_set ?_ ?_ _))))
      (first
        | (go_at_call 36; refine (cmp_lt0 _ (hz1.out.kept (by (repeat (first | with_reducible assumption | with_reducible exact Below.refl _ _ | with_reducible refine bs_alloc ?_ _ | with_reducible refine bs_drew ?_ | with_reducible refine bs_set ?_ ?_ _)))) (hz2.out.kept (by (repeat (first | with_reducible assumption | with_reducible exact Below.refl _ _ | with_reducible refine bs_alloc ?_ _ | with_reducible refine bs_drew ?_ | with_reducible refine bs_set ?_ ?_ _)))) HLT.out).mono ?_; rintro e z3 ⟨rfl, hx3⟩; have hq3 : Below y12.heap.size y12 z3 := bs_trans (by (repeat (first | with_reducible assumption | with_reducible exact Below.refl _ _ | with_reducible refine bs_alloc ?_ _ | with_reducible refine bs_drew ?_ | with_reducible refine bs_set ?_ ?_ _))) hx3)
        | (go_at_call_of 43 (Value.agg #[Value.bool s0, Value.slice q0 n0 c0]); refine (positive_any _ _ _ _ _ _ (HI0.out _ (by (repeat (first | with_reducible assumption | with_reducible exact Below.refl _ _ | with_reducible refine bs_alloc ?_ _ | with_reducible refine bs_drew ?_ | with_reducible refine bs_set ?_ ?_ _))))).mono ?_; rintro e z1 ⟨s5, q5, n5, c5, rfl, i5, hx1⟩; have hz1 := Lib.hid i5; have hq1 : Below y12.heap.size y12 z1 := bs_trans (by (repeat (first | with_reducible assumption | with_reducible exact Below.refl _ _ | with_reducible refine bs_alloc ?_ _ | with_reducible refine bs_drew ?_ | with_reducible refine bs_set ?_ ?_ _))) hx1; clear i5)
        | (go_at_call_of 43 (Value.agg #[Value.bool s1, Value.slice q1 n1 c1]); refine (positive_any _ _ _ _ _ _ (HI1.out _ (by (repeat (first | with_reducible assumption | with_reducible exact Below.refl _ _ | with_reducible refine bs_alloc ?_ _ | with_reducible refine bs_drew ?_ | with_reducible refine bs_set ?_ ?_ _))))).mono ?_; rintro e z2 ⟨s6, q6, n6, c6, rfl, i6, hx2⟩; have hz2 := Lib.hid i6; have hq2 : Below y12.heap.size y12 z2 := bs_trans (by (repeat (first | with_reducible assumption | with_reducible exact Below.refl _ _ | with_reducible refine bs_alloc ?_ _ | with_reducible refine bs_drew ?_ | with_reducible refine bs_set ?_ ?_ _))) hx2; clear i6))
    all_goals
      go_wp2_with fail
      go_meet
      refine ⟨rfl, ?_⟩
      (repeat (first | with_reducible assumption | with_reducible exact Below.refl _ _ | with_reducible refine bs_alloc ?_ _ | with_reducible refine bs_drew ?_ | with_reducible refine bs_set ?_ ?_ _))
  case rest =>
  obtain ⟨rfl, hq⟩ := hcut
  have VB := Lib.hid (VA.out.kept hq)
  have HC := Lib.hid (bs_trans HB.out hq)
  clear hq HK HI0 HI1 HLT g00 g01 g10 g11 VA HB
  have VA := VB
  have HB := HC
  clear VB HC
  obtain ⟨Z15, hZ⟩ : ∃ Z : Int, Z = (a * c) := ⟨_, rfl⟩
  have HZ15 := Lib.hid hZ
  have k15 : Hid (sm (20 + 20) Z15) := Lib.hid (by rw [hZ]; exact sm_mul ka.out kc.out)
  obtain ⟨s0, q0, n0, c0, f00, f01, _, _, I0⟩ := var_out (VA.out (N, a) (by simp))
  obtain ⟨s1, q1, n1, c1, f10, f11, _, _, I1⟩ := var_out (VA.out (N + 1 + 1, c) (by simp))
  have call := mul_sm wc I0 I1 (sm_mono ka.out (by decide)) (sm_mono kc.out (by decide))
  rw [← hZ] at call
  clear hZ
  go_wp2_with fail
  refine call.mono ?_
  clear call
  rintro e x15 ⟨v, rfl, hc, hx⟩
  obtain ⟨s15, q15, n15, c15, rfl, i⟩ := can_form hc
  have VB := Lib.hid (VA.out.kept hx)
  have HC := Lib.hid (bs_trans HB.out hx)
  clear hc hx I0 f00 f01 I1 f10 f11 VA HB
  go_upto_region 12 with fail
  generalize hW : World.alloc _ _ = y15
  obtain ⟨P15, hP⟩ : ∃ P, x15.heap.size = P := ⟨_, rfl⟩
  rw [hP]
  have hy : Below x15.heap.size x15 y15 := by rw [← hW]; exact (Below.refl _ _).alloc (Nat.le_refl _) _
  have bl : Blk y15 P15 #[.bool s15, .slice q15 n15 c15] := by rw [← hW, ← hP]; exact blk_new rfl
  have VA := Lib.hid ((VB.out.kept hy).cons ⟨_, _, _, _, bl, i.kept hy⟩)
  have HB := Lib.hid (bs_trans HC.out hy)
  clear hW hP hy VB HC i bl
  obtain ⟨Z17, hZ⟩ : ∃ Z : Int, Z = (b * c) := ⟨_, rfl⟩
  have HZ17 := Lib.hid hZ
  have k17 : Hid (sm (20 + 20) Z17) := Lib.hid (by rw [hZ]; exact sm_mul kb.out kc.out)
  obtain ⟨s0, q0, n0, c0, f00, f01, _, _, I0⟩ := var_out (VA.out (N + 1, b) (by simp))
  obtain ⟨s1, q1, n1, c1, f10, f11, _, _, I1⟩ := var_out (VA.out (N + 1 + 1, c) (by simp))
  have call := mul_sm y15 I0 I1 (sm_mono kb.out (by decide)) (sm_mono kc.out (by decide))
  rw [← hZ] at call
  clear hZ
  go_wp2_with fail
  refine call.mono ?_
  clear call
  rintro e x17 ⟨v, rfl, hc, hx⟩
  obtain ⟨s17, q17, n17, c17, rfl, i⟩ := can_form hc
  have VB := Lib.hid (VA.out.kept hx)
  have HC := Lib.hid (bs_trans HB.out hx)
  clear hc hx I0 f00 f01 I1 f10 f11 VA HB
  go_upto_region 13 with fail
  generalize hW : World.alloc _ _ = y17
  obtain ⟨P17, hP⟩ : ∃ P, x17.heap.size = P := ⟨_, rfl⟩
  rw [hP]
  have hy : Below x17.heap.size x17 y17 := by rw [← hW]; exact (Below.refl _ _).alloc (Nat.le_refl _) _
  have bl : Blk y17 P17 #[.bool s17, .slice q17 n17 c17] := by rw [← hW, ← hP]; exact blk_new rfl
  have VA := Lib.hid ((VB.out.kept hy).cons ⟨_, _, _, _, bl, i.kept hy⟩)
  have HB := Lib.hid (bs_trans HC.out hy)
  clear hW hP hy VB HC i bl
  obtain ⟨Z19, hZ⟩ : ∃ Z : Int, Z = ((Nat.gcd Z15.natAbs Z17.natAbs : Nat) : Int) := ⟨_, rfl⟩
  have HZ19 := Lib.hid hZ
  have k19 : Hid (sm (20 + 20) Z19) := Lib.hid (by rw [hZ]; exact sm_gcd k15.out k17.out)
  obtain ⟨s0, q0, n0, c0, f00, f01, _, _, I0⟩ := var_out (VA.out (P15, Z15) (by simp))
  obtain ⟨s1, q1, n1, c1, f10, f11, _, _, I1⟩ := var_out (VA.out (P17, Z17) (by simp))
  have call := gcd_fine _ _ _ _ y17 I0 I1 (not_big k15.out (by decide)) (not_big k17.out (by decide))
  rw [← hZ] at call
  clear hZ
  go_wp2_with fail
  refine call.mono ?_
  clear call
  rintro e x19 ⟨v, rfl, hc, hx⟩
  obtain ⟨s19, q19, n19, c19, rfl, i⟩ := can_form hc
  have VB := Lib.hid (VA.out.kept hx)
  have HC := Lib.hid (bs_trans HB.out hx)
  clear hc hx I0 f00 f01 I1 f10 f11 VA HB
  go_upto_region 14 with fail
  generalize hW : World.alloc _ _ = y19
  obtain ⟨P19, hP⟩ : ∃ P, x19.heap.size = P := ⟨_, rfl⟩
  rw [hP]
  have hy : Below x19.heap.size x19 y19 := by rw [← hW]; exact (Below.refl _ _).alloc (Nat.le_refl _) _
  have bl : Blk y19 P19 #[.bool s19, .slice q19 n19 c19] := by rw [← hW, ← hP]; exact blk_new rfl
  have VA := Lib.hid ((VB.out.kept hy).cons ⟨_, _, _, _, bl, i.kept hy⟩)
  have HB := Lib.hid (bs_trans HC.out hy)
  clear hW hP hy VB HC i bl
  have hr0 : Z8 = 0 := by rw [HZ8.out, HR1.out]
  obtain ⟨s0, q0, n0, c0, D0, I0⟩ := VA.out (P12, Z12) (by simp)
  obtain ⟨s1, q1, n1, c1, D1, I1⟩ := VA.out (N, a) (by simp)
  obtain ⟨s2, q2, n2, c2, D2, I2⟩ := VA.out (P7 + 1, Z8) (by simp)
  have HK := Lib.hid (show ∀ w', Below y19.heap.size y19 w' → (w'.cell? ⟨P12, 0, none⟩ = some (.bool s0) ∧ w'.cell? ⟨P12, 1, none⟩ = some (.slice q0 n0 c0)) ∧ (w'.cell? ⟨N, 0, none⟩ = some (.bool s1) ∧ w'.cell? ⟨N, 1, none⟩ = some (.slice q1 n1 c1)) ∧ (w'.cell? ⟨P7 + 1, 0, none⟩ = some (.bool s2) ∧ w'.cell? ⟨P7 + 1, 1, none⟩ = some (.slice q2 n2 c2)) from fun w1 h => ⟨Blk2 (D0.kept h), Blk2 (D1.kept h), Blk2 (D2.kept h)⟩)
  have HI0 := Lib.hid (fun w' (h : Below y19.heap.size y19 w') => I0.kept h)
  have HI1 := Lib.hid (fun w' (h : Below y19.heap.size y19 w') => I1.kept h)
  have HI2 := Lib.hid (fun w' (h : Below y19.heap.size y19 w') => I2.kept h)
  obtain ⟨⟨g00, g01⟩, ⟨g10, g11⟩, g20, g21⟩ := HK.out _ (Below.refl _ _)
  clear D0 I0 D1 I1 D2 I2
  have CE := Lib.hid (fun W' (h : Below y19.heap.size y19 W') => cmp_eq W' (HI0.out _ h) (HI1.out _ h) (by rw [HZ12.out, HZ10.out, HZ8.out, HZ7.out]; exact Int.tdiv_mul_add_tmod a b))
  have SR := Lib.hid (fun W' (h : Below y19.heap.size y19 W') => sign_is W' (HI2.out _ h) (show Z8.sign = 0 by rw [hr0]; rfl))
  clear hr0
  go_cut [130] (fun s130 wx => s130 = .bool false ∧ Below y19.heap.size y19 wx)
  case first =>
    refine wp_region_held_drew (S := fun w' => (w'.cell? ⟨P12, 0, none⟩ = some (.bool s0) ∧ w'.cell? ⟨P12, 1, none⟩ = some (.slice q0 n0 c0)) ∧ (w'.cell? ⟨N, 0, none⟩ = some (.bool s1) ∧ w'.cell? ⟨N, 1, none⟩ = some (.slice q1 n1 c1)) ∧ (w'.cell? ⟨P7 + 1, 0, none⟩ = some (.bool s2) ∧ w'.cell? ⟨P7 + 1, 1, none⟩ = some (.slice q2 n2 c2))) (by kernel_rfl) (HK.out _ (bs_drew (Below.refl _ _))) (fun hHeld => ?_)
    try simp only [Act.put, List.setIfInBounds_toArray, List.set_cons_zero, List.set_cons_succ]
    refine wpAnyH_take (i := 0) (oi := { dst := some 87, op := Go.Op.move (Go.Operand.tmp 9), type := 27, pos := "law.go:148", after := #[], guard := none }) (v := ?v0) rfl (by kernel_rfl) (by kernel_rfl) (by kernel_rfl) (fun _ _ _ h => h) (Or.inl ⟨by rfl, ?hy0⟩) (by assumption) ?rest0
    case hy0 => ((intro w hSw; (try dsimp only at hSw); go_simp); (try (with_reducible rfl)))
    try simp only [Act.put, List.setIfInBounds_toArray, List.set_cons_zero, List.set_cons_succ]
    refine wpAnyH_take (i := 1) (oi := { dst := some 88, op := Go.Op.binOp Go.BinOp.neq 27 (Go.Operand.tmp 87) (Go.Operand.const (Go.Value.int Go.IntKind.i64 0)) 27, type := 4, pos := "law.go:148", after := #[{ on := 0, ground := Go.Ground.data }], guard := none }) (v := ?v1) rfl (by kernel_rfl) (by kernel_rfl) (by kernel_rfl) (fun _ _ _ h => h) (Or.inl ⟨by rfl, ?hy1⟩) (by assumption) ?rest1
    case hy1 => ((intro w hSw; (try dsimp only at hSw); go_simp); (try (with_reducible rfl)))
    try simp only [Act.put, List.setIfInBounds_toArray, List.set_cons_zero, List.set_cons_succ]
    refine wpAnyH_take (i := 2) (oi := { dst := some 89, op := Go.Op.move (Go.Operand.tmp 88), type := 4, pos := "law.go:148", after := #[{ on := 1, ground := Go.Ground.data }], guard := none }) (v := ?v2) rfl (by kernel_rfl) (by kernel_rfl) (by kernel_rfl) (fun _ _ _ h => h) (Or.inl ⟨by rfl, ?hy2⟩) (by assumption) ?rest2
    case hy2 => ((intro w hSw; (try dsimp only at hSw); go_simp); (try (with_reducible rfl)))
    try simp only [Act.put, List.setIfInBounds_toArray, List.set_cons_zero, List.set_cons_succ]
    refine wpAnyH_take (i := 3) (oi := { dst := some 90, op := Go.Op.move (Go.Operand.tmp 11), type := 27, pos := "law.go:148", after := #[{ on := 2, ground := Go.Ground.guard }], guard := some (2, false) }) (v := ?v3) rfl (by kernel_rfl) (by kernel_rfl) (by kernel_rfl) (fun _ _ _ h => h) (Or.inl ⟨by rfl, ?hy3⟩) (by assumption) ?rest3
    case hy3 => ((intro w hSw; (try dsimp only at hSw); go_simp); (try (with_reducible rfl)))
    try simp only [Act.put, List.setIfInBounds_toArray, List.set_cons_zero, List.set_cons_succ]
    refine wpAnyH_take (i := 4) (oi := { dst := some 91, op := Go.Op.binOp Go.BinOp.neq 27 (Go.Operand.tmp 90) (Go.Operand.const (Go.Value.int Go.IntKind.i64 0)) 27, type := 4, pos := "law.go:148", after := #[{ on := 3, ground := Go.Ground.data }, { on := 2, ground := Go.Ground.guard }], guard := some (2, false) }) (v := ?v4) rfl (by kernel_rfl) (by kernel_rfl) (by kernel_rfl) (fun _ _ _ h => h) (Or.inl ⟨by rfl, ?hy4⟩) (by assumption) ?rest4
    case hy4 => ((intro w hSw; (try dsimp only at hSw); go_simp); (try (with_reducible rfl)))
    try simp only [Act.put, List.setIfInBounds_toArray, List.set_cons_zero, List.set_cons_succ]
    refine wpAnyH_take (i := 5) (oi := { dst := some 92, op := Go.Op.pick (Go.Operand.tmp 89) (Go.Operand.const (Go.Value.bool true)) (Go.Operand.tmp 91), type := 4, pos := "law.go:148", after := #[{ on := 2, ground := Go.Ground.data }, { on := 4, ground := Go.Ground.data }], guard := none }) (v := ?v5) rfl (by kernel_rfl) (by kernel_rfl) (by kernel_rfl) (fun _ _ _ h => h) (Or.inl ⟨by rfl, ?hy5⟩) (by assumption) ?rest5
    case hy5 => ((intro w hSw; (try dsimp only at hSw); go_simp); (try (with_reducible rfl)))
    try simp only [Act.put, List.setIfInBounds_toArray, List.set_cons_zero, List.set_cons_succ]
    refine wpAnyH_take (i := 6) (oi := { dst := some 93, op := Go.Op.move (Go.Operand.tmp 92), type := 4, pos := "law.go:148", after := #[{ on := 5, ground := Go.Ground.data }, { on := 2, ground := Go.Ground.chain }], guard := none }) (v := ?v6) rfl (by kernel_rfl) (by kernel_rfl) (by kernel_rfl) (fun _ _ _ h => h) (Or.inl ⟨by rfl, ?hy6⟩) (by assumption) ?rest6
    case hy6 => ((intro w hSw; (try dsimp only at hSw); go_simp); (try (with_reducible rfl)))
    try simp only [Act.put, List.setIfInBounds_toArray, List.set_cons_zero, List.set_cons_succ]
    refine wpAnyH_take (i := 7) (oi := { dst := some 94, op := Go.Op.move (Go.Operand.tmp 13), type := 27, pos := "law.go:148", after := #[{ on := 6, ground := Go.Ground.guard }], guard := some (6, false) }) (v := ?v7) rfl (by kernel_rfl) (by kernel_rfl) (by kernel_rfl) (fun _ _ _ h => h) (Or.inl ⟨by rfl, ?hy7⟩) (by assumption) ?rest7
    case hy7 => ((intro w hSw; (try dsimp only at hSw); go_simp); (try (with_reducible rfl)))
    try simp only [Act.put, List.setIfInBounds_toArray, List.set_cons_zero, List.set_cons_succ]
    refine wpAnyH_take (i := 8) (oi := { dst := some 95, op := Go.Op.binOp Go.BinOp.neq 27 (Go.Operand.tmp 94) (Go.Operand.const (Go.Value.int Go.IntKind.i64 0)) 27, type := 4, pos := "law.go:148", after := #[{ on := 7, ground := Go.Ground.data }, { on := 6, ground := Go.Ground.guard }], guard := some (6, false) }) (v := ?v8) rfl (by kernel_rfl) (by kernel_rfl) (by kernel_rfl) (fun _ _ _ h => h) (Or.inl ⟨by rfl, ?hy8⟩) (by assumption) ?rest8
    case hy8 => ((intro w hSw; (try dsimp only at hSw); go_simp); (try (with_reducible rfl)))
    try simp only [Act.put, List.setIfInBounds_toArray, List.set_cons_zero, List.set_cons_succ]
    refine wpAnyH_take (i := 9) (oi := { dst := some 96, op := Go.Op.pick (Go.Operand.tmp 93) (Go.Operand.const (Go.Value.bool true)) (Go.Operand.tmp 95), type := 4, pos := "law.go:148", after := #[{ on := 6, ground := Go.Ground.data }, { on := 8, ground := Go.Ground.data }], guard := none }) (v := ?v9) rfl (by kernel_rfl) (by kernel_rfl) (by kernel_rfl) (fun _ _ _ h => h) (Or.inl ⟨by rfl, ?hy9⟩) (by assumption) ?rest9
    case hy9 => ((intro w hSw; (try dsimp only at hSw); go_simp); (try (with_reducible rfl)))
    try simp only [Act.put, List.setIfInBounds_toArray, List.set_cons_zero, List.set_cons_succ]
    refine wpAnyH_take (i := 10) (oi := { dst := some 97, op := Go.Op.move (Go.Operand.tmp 96), type := 4, pos := "law.go:148", after := #[{ on := 9, ground := Go.Ground.data }, { on := 6, ground := Go.Ground.chain }], guard := none }) (v := ?v10) rfl (by kernel_rfl) (by kernel_rfl) (by kernel_rfl) (fun _ _ _ h => h) (Or.inl ⟨by rfl, ?hy10⟩) (by assumption) ?rest10
    case hy10 => ((intro w hSw; (try dsimp only at hSw); go_simp); (try (with_reducible rfl)))
    try simp only [Act.put, List.setIfInBounds_toArray, List.set_cons_zero, List.set_cons_succ]
    refine wpAnyH_take (i := 11) (oi := { dst := some 98, op := Go.Op.move (Go.Operand.tmp 16), type := 27, pos := "law.go:148", after := #[{ on := 10, ground := Go.Ground.guard }], guard := some (10, false) }) (v := ?v11) rfl (by kernel_rfl) (by kernel_rfl) (by kernel_rfl) (fun _ _ _ h => h) (Or.inl ⟨by rfl, ?hy11⟩) (by assumption) ?rest11
    case hy11 => ((intro w hSw; (try dsimp only at hSw); go_simp); (try (with_reducible rfl)))
    try simp only [Act.put, List.setIfInBounds_toArray, List.set_cons_zero, List.set_cons_succ]
    refine wpAnyH_take (i := 12) (oi := { dst := some 99, op := Go.Op.binOp Go.BinOp.neq 27 (Go.Operand.tmp 98) (Go.Operand.const (Go.Value.int Go.IntKind.i64 0)) 27, type := 4, pos := "law.go:148", after := #[{ on := 11, ground := Go.Ground.data }, { on := 10, ground := Go.Ground.guard }], guard := some (10, false) }) (v := ?v12) rfl (by kernel_rfl) (by kernel_rfl) (by kernel_rfl) (fun _ _ _ h => h) (Or.inl ⟨by rfl, ?hy12⟩) (by assumption) ?rest12
    case hy12 => ((intro w hSw; (try dsimp only at hSw); go_simp); (try (with_reducible rfl)))
    try simp only [Act.put, List.setIfInBounds_toArray, List.set_cons_zero, List.set_cons_succ]
    refine wpAnyH_take (i := 13) (oi := { dst := some 100, op := Go.Op.pick (Go.Operand.tmp 97) (Go.Operand.const (Go.Value.bool true)) (Go.Operand.tmp 99), type := 4, pos := "law.go:148", after := #[{ on := 10, ground := Go.Ground.data }, { on := 12, ground := Go.Ground.data }], guard := none }) (v := ?v13) rfl (by kernel_rfl) (by kernel_rfl) (by kernel_rfl) (fun _ _ _ h => h) (Or.inl ⟨by rfl, ?hy13⟩) (by assumption) ?rest13
    case hy13 => ((intro w hSw; (try dsimp only at hSw); go_simp); (try (with_reducible rfl)))
    try simp only [Act.put, List.setIfInBounds_toArray, List.set_cons_zero, List.set_cons_succ]
    refine wpAnyH_take (i := 14) (oi := { dst := some 101, op := Go.Op.move (Go.Operand.tmp 100), type := 4, pos := "law.go:148", after := #[{ on := 13, ground := Go.Ground.data }, { on := 10, ground := Go.Ground.chain }], guard := none }) (v := ?v14) rfl (by kernel_rfl) (by kernel_rfl) (by kernel_rfl) (fun _ _ _ h => h) (Or.inl ⟨by rfl, ?hy14⟩) (by assumption) ?rest14
    case hy14 => ((intro w hSw; (try dsimp only at hSw); go_simp); (try (with_reducible rfl)))
    try simp only [Act.put, List.setIfInBounds_toArray, List.set_cons_zero, List.set_cons_succ]
    refine wpAnyH_take (i := 15) (oi := { dst := some 102, op := Go.Op.move (Go.Operand.tmp 18), type := 27, pos := "law.go:148", after := #[{ on := 14, ground := Go.Ground.guard }], guard := some (14, false) }) (v := ?v15) rfl (by kernel_rfl) (by kernel_rfl) (by kernel_rfl) (fun _ _ _ h => h) (Or.inl ⟨by rfl, ?hy15⟩) (by assumption) ?rest15
    case hy15 => ((intro w hSw; (try dsimp only at hSw); go_simp); (try (with_reducible rfl)))
    try simp only [Act.put, List.setIfInBounds_toArray, List.set_cons_zero, List.set_cons_succ]
    refine wpAnyH_take (i := 16) (oi := { dst := some 103, op := Go.Op.binOp Go.BinOp.neq 27 (Go.Operand.tmp 102) (Go.Operand.const (Go.Value.int Go.IntKind.i64 0)) 27, type := 4, pos := "law.go:148", after := #[{ on := 15, ground := Go.Ground.data }, { on := 14, ground := Go.Ground.guard }], guard := some (14, false) }) (v := ?v16) rfl (by kernel_rfl) (by kernel_rfl) (by kernel_rfl) (fun _ _ _ h => h) (Or.inl ⟨by rfl, ?hy16⟩) (by assumption) ?rest16
    case hy16 => ((intro w hSw; (try dsimp only at hSw); go_simp); (try (with_reducible rfl)))
    try simp only [Act.put, List.setIfInBounds_toArray, List.set_cons_zero, List.set_cons_succ]
    refine wpAnyH_take (i := 17) (oi := { dst := some 104, op := Go.Op.pick (Go.Operand.tmp 101) (Go.Operand.const (Go.Value.bool true)) (Go.Operand.tmp 103), type := 4, pos := "law.go:148", after := #[{ on := 14, ground := Go.Ground.data }, { on := 16, ground := Go.Ground.data }], guard := none }) (v := ?v17) rfl (by kernel_rfl) (by kernel_rfl) (by kernel_rfl) (fun _ _ _ h => h) (Or.inl ⟨by rfl, ?hy17⟩) (by assumption) ?rest17
    case hy17 => ((intro w hSw; (try dsimp only at hSw); go_simp); (try (with_reducible rfl)))
    try simp only [Act.put, List.setIfInBounds_toArray, List.set_cons_zero, List.set_cons_succ]
    refine wpAnyH_take (i := 18) (oi := { dst := some 105, op := Go.Op.move (Go.Operand.tmp 104), type := 4, pos := "law.go:148", after := #[{ on := 17, ground := Go.Ground.data }, { on := 14, ground := Go.Ground.chain }], guard := none }) (v := ?v18) rfl (by kernel_rfl) (by kernel_rfl) (by kernel_rfl) (fun _ _ _ h => h) (Or.inl ⟨by rfl, ?hy18⟩) (by assumption) ?rest18
    case hy18 => ((intro w hSw; (try dsimp only at hSw); go_simp); (try (with_reducible rfl)))
    try simp only [Act.put, List.setIfInBounds_toArray, List.set_cons_zero, List.set_cons_succ]
    refine wpAnyH_take (i := 19) (oi := { dst := some 106, op := Go.Op.move (Go.Operand.tmp 20), type := 27, pos := "law.go:148", after := #[{ on := 18, ground := Go.Ground.guard }], guard := some (18, false) }) (v := ?v19) rfl (by kernel_rfl) (by kernel_rfl) (by kernel_rfl) (fun _ _ _ h => h) (Or.inl ⟨by rfl, ?hy19⟩) (by assumption) ?rest19
    case hy19 => ((intro w hSw; (try dsimp only at hSw); go_simp); (try (with_reducible rfl)))
    try simp only [Act.put, List.setIfInBounds_toArray, List.set_cons_zero, List.set_cons_succ]
    refine wpAnyH_take (i := 20) (oi := { dst := some 107, op := Go.Op.binOp Go.BinOp.neq 27 (Go.Operand.tmp 106) (Go.Operand.const (Go.Value.int Go.IntKind.i64 0)) 27, type := 4, pos := "law.go:148", after := #[{ on := 19, ground := Go.Ground.data }, { on := 18, ground := Go.Ground.guard }], guard := some (18, false) }) (v := ?v20) rfl (by kernel_rfl) (by kernel_rfl) (by kernel_rfl) (fun _ _ _ h => h) (Or.inl ⟨by rfl, ?hy20⟩) (by assumption) ?rest20
    case hy20 => ((intro w hSw; (try dsimp only at hSw); go_simp); (try (with_reducible rfl)))
    try simp only [Act.put, List.setIfInBounds_toArray, List.set_cons_zero, List.set_cons_succ]
    refine wpAnyH_take (i := 21) (oi := { dst := some 108, op := Go.Op.pick (Go.Operand.tmp 105) (Go.Operand.const (Go.Value.bool true)) (Go.Operand.tmp 107), type := 4, pos := "law.go:148", after := #[{ on := 18, ground := Go.Ground.data }, { on := 20, ground := Go.Ground.data }], guard := none }) (v := ?v21) rfl (by kernel_rfl) (by kernel_rfl) (by kernel_rfl) (fun _ _ _ h => h) (Or.inl ⟨by rfl, ?hy21⟩) (by assumption) ?rest21
    case hy21 => ((intro w hSw; (try dsimp only at hSw); go_simp); (try (with_reducible rfl)))
    try simp only [Act.put, List.setIfInBounds_toArray, List.set_cons_zero, List.set_cons_succ]
    refine wpAnyH_take (i := 22) (oi := { dst := some 109, op := Go.Op.move (Go.Operand.tmp 108), type := 4, pos := "law.go:148", after := #[{ on := 21, ground := Go.Ground.data }, { on := 18, ground := Go.Ground.chain }], guard := none }) (v := ?v22) rfl (by kernel_rfl) (by kernel_rfl) (by kernel_rfl) (fun _ _ _ h => h) (Or.inl ⟨by rfl, ?hy22⟩) (by assumption) ?rest22
    case hy22 => ((intro w hSw; (try dsimp only at hSw); go_simp); (try (with_reducible rfl)))
    try simp only [Act.put, List.setIfInBounds_toArray, List.set_cons_zero, List.set_cons_succ]
    refine wpAnyH_take (i := 23) (oi := { dst := some 110, op := Go.Op.load 24 (Go.Operand.tmp 12), type := 24, pos := "law.go:148", after := #[{ on := 22, ground := Go.Ground.guard }], guard := some (22, false) }) (v := ?v23) rfl (by kernel_rfl) (by kernel_rfl) (by kernel_rfl) (fun _ _ _ h => h) (Or.inl ⟨by rfl, ?hy23⟩) (by assumption) ?rest23
    case hy23 => ((intro w hSw; (try dsimp only at hSw); go_simp); (try (with_reducible rfl)))
    try simp only [Act.put, List.setIfInBounds_toArray, List.set_cons_zero, List.set_cons_succ]
    refine wpAnyH_take (i := 24) (oi := { dst := some 111, op := Go.Op.load 24 (Go.Operand.tmp 3), type := 24, pos := "law.go:148", after := #[{ on := 22, ground := Go.Ground.guard }], guard := some (22, false) }) (v := ?v24) rfl (by kernel_rfl) (by kernel_rfl) (by kernel_rfl) (fun _ _ _ h => h) (Or.inl ⟨by rfl, ?hy24⟩) (by assumption) ?rest24
    case hy24 => ((intro w hSw; (try dsimp only at hSw); go_simp); (try (with_reducible rfl)))
    try simp only [Act.put, List.setIfInBounds_toArray, List.set_cons_zero, List.set_cons_succ]
    refine wpAnyH_ready (rs := [25]) (by kernel_rfl) (by simp) ?_
    refine AllReadyH.cons (o := { dst := some 112, op := Go.Op.call { callee := Go.Callee.value (Go.Operand.func 36), args := #[Go.Operand.tmp 110, Go.Operand.tmp 111], argTypes := #[24, 24] }, type := 3, pos := "law.go:148", after := #[{ on := 23, ground := Go.Ground.data }, { on := 24, ground := Go.Ground.data }, { on := 22, ground := Go.Ground.chain }, { on := 22, ground := Go.Ground.guard }], guard := some (22, false) }) rfl (fun K hK => ?_) AllReadyH.nil
    go_simp
    refine (CE.out _ (by (repeat (first | with_reducible assumption | with_reducible exact Below.refl _ _ | with_reducible refine bs_alloc ?_ _ | with_reducible refine bs_drew ?_ | with_reducible refine bs_set ?_ ?_ _)))).mono ?_
    rintro e z1 ⟨rfl, hxz1⟩
    have hqz1 : Below y19.heap.size y19 z1 := bs_trans (by (repeat (first | with_reducible assumption | with_reducible exact Below.refl _ _ | with_reducible refine bs_alloc ?_ _ | with_reducible refine bs_drew ?_ | with_reducible refine bs_set ?_ ?_ _))) hxz1
    go_simp
    refine hK.out _ _ (HK.out _ hqz1) (fun hHeld => ?_)
    clear hK K
    try simp only [Act.put, List.setIfInBounds_toArray, List.set_cons_zero, List.set_cons_succ]
    refine wpAnyH_take (i := 26) (oi := { dst := some 113, op := Go.Op.binOp Go.BinOp.neq 3 (Go.Operand.tmp 112) (Go.Operand.const (Go.Value.int Go.IntKind.i64 0)) 3, type := 4, pos := "law.go:148", after := #[{ on := 25, ground := Go.Ground.data }, { on := 22, ground := Go.Ground.guard }], guard := some (22, false) }) (v := ?v26) rfl (by kernel_rfl) (by kernel_rfl) (by kernel_rfl) (fun _ _ _ h => h) (Or.inl ⟨by rfl, ?hy26⟩) (by assumption) ?rest26
    case hy26 => ((intro w hSw; (try dsimp only at hSw); go_simp); (try (with_reducible rfl)))
    try simp only [Act.put, List.setIfInBounds_toArray, List.set_cons_zero, List.set_cons_succ]
    refine wpAnyH_take (i := 27) (oi := { dst := some 114, op := Go.Op.pick (Go.Operand.tmp 109) (Go.Operand.const (Go.Value.bool true)) (Go.Operand.tmp 113), type := 4, pos := "law.go:148", after := #[{ on := 22, ground := Go.Ground.data }, { on := 26, ground := Go.Ground.data }], guard := none }) (v := ?v27) rfl (by kernel_rfl) (by kernel_rfl) (by kernel_rfl) (fun _ _ _ h => h) (Or.inl ⟨by rfl, ?hy27⟩) (by assumption) ?rest27
    case hy27 => ((intro w hSw; (try dsimp only at hSw); go_simp); (try (with_reducible rfl)))
    try simp only [Act.put, List.setIfInBounds_toArray, List.set_cons_zero, List.set_cons_succ]
    refine wpAnyH_take (i := 28) (oi := { dst := some 115, op := Go.Op.move (Go.Operand.tmp 114), type := 4, pos := "law.go:148", after := #[{ on := 27, ground := Go.Ground.data }, { on := 25, ground := Go.Ground.chain }], guard := none }) (v := ?v28) rfl (by kernel_rfl) (by kernel_rfl) (by kernel_rfl) (fun _ _ _ h => h) (Or.inl ⟨by rfl, ?hy28⟩) (by assumption) ?rest28
    case hy28 => ((intro w hSw; (try dsimp only at hSw); go_simp); (try (with_reducible rfl)))
    try simp only [Act.put, List.setIfInBounds_toArray, List.set_cons_zero, List.set_cons_succ]
    refine wpAnyH_take (i := 29) (oi := { dst := some 116, op := Go.Op.move (Go.Operand.tmp 14), type := 3, pos := "law.go:148", after := #[{ on := 28, ground := Go.Ground.guard }], guard := some (28, false) }) (v := ?v29) rfl (by kernel_rfl) (by kernel_rfl) (by kernel_rfl) (fun _ _ _ h => h) (Or.inl ⟨by rfl, ?hy29⟩) (by assumption) ?rest29
    case hy29 => ((intro w hSw; (try dsimp only at hSw); go_simp); (try (with_reducible rfl)))
    try simp only [Act.put, List.setIfInBounds_toArray, List.set_cons_zero, List.set_cons_succ]
    refine wpAnyH_take (i := 30) (oi := { dst := some 117, op := Go.Op.binOp Go.BinOp.geq 3 (Go.Operand.tmp 116) (Go.Operand.const (Go.Value.int Go.IntKind.i64 0)) 3, type := 4, pos := "law.go:148", after := #[{ on := 29, ground := Go.Ground.data }, { on := 28, ground := Go.Ground.guard }], guard := some (28, false) }) (v := ?v30) rfl (by kernel_rfl) (by kernel_rfl) (by kernel_rfl) (fun _ _ _ h => h) (Or.inl ⟨by rfl, ?hy30⟩) (by assumption) ?rest30
    case hy30 => ((intro w hSw; (try dsimp only at hSw); go_simp); (try (with_reducible rfl)))
    try simp only [Act.put, List.setIfInBounds_toArray, List.set_cons_zero, List.set_cons_succ]
    refine wpAnyH_take (i := 31) (oi := { dst := some 118, op := Go.Op.pick (Go.Operand.tmp 115) (Go.Operand.const (Go.Value.bool true)) (Go.Operand.tmp 117), type := 4, pos := "law.go:148", after := #[{ on := 28, ground := Go.Ground.data }, { on := 30, ground := Go.Ground.data }], guard := none }) (v := ?v31) rfl (by kernel_rfl) (by kernel_rfl) (by kernel_rfl) (fun _ _ _ h => h) (Or.inl ⟨by rfl, ?hy31⟩) (by assumption) ?rest31
    case hy31 => ((intro w hSw; (try dsimp only at hSw); go_simp); (try (with_reducible rfl)))
    try simp only [Act.put, List.setIfInBounds_toArray, List.set_cons_zero, List.set_cons_succ]
    refine wpAnyH_take (i := 32) (oi := { dst := some 119, op := Go.Op.move (Go.Operand.tmp 118), type := 4, pos := "law.go:148", after := #[{ on := 31, ground := Go.Ground.data }, { on := 28, ground := Go.Ground.chain }], guard := none }) (v := ?v32) rfl (by kernel_rfl) (by kernel_rfl) (by kernel_rfl) (fun _ _ _ h => h) (Or.inl ⟨by rfl, ?hy32⟩) (by assumption) ?rest32
    case hy32 => ((intro w hSw; (try dsimp only at hSw); go_simp); (try (with_reducible rfl)))
    try simp only [Act.put, List.setIfInBounds_toArray, List.set_cons_zero, List.set_cons_succ]
    refine wpAnyH_take (i := 33) (oi := { dst := some 120, op := Go.Op.load 24 (Go.Operand.tmp 8), type := 24, pos := "law.go:148", after := #[{ on := 32, ground := Go.Ground.guard }], guard := some (32, false) }) (v := ?v33) rfl (by kernel_rfl) (by kernel_rfl) (by kernel_rfl) (fun _ _ _ h => h) (Or.inl ⟨by rfl, ?hy33⟩) (by assumption) ?rest33
    case hy33 => ((intro w hSw; (try dsimp only at hSw); go_simp); (try (with_reducible rfl)))
    try simp only [Act.put, List.setIfInBounds_toArray, List.set_cons_zero, List.set_cons_succ]
    refine wpAnyH_ready (rs := [34]) (by kernel_rfl) (by simp) ?_
    refine AllReadyH.cons (o := { dst := some 121, op := Go.Op.call { callee := Go.Callee.value (Go.Operand.func 32), args := #[Go.Operand.tmp 120], argTypes := #[24] }, type := 3, pos := "law.go:148", after := #[{ on := 33, ground := Go.Ground.data }, { on := 32, ground := Go.Ground.chain }, { on := 32, ground := Go.Ground.guard }], guard := some (32, false) }) rfl (fun K hK => ?_) AllReadyH.nil
    go_simp
    refine (SR.out _ (by (repeat (first | with_reducible assumption | with_reducible exact Below.refl _ _ | with_reducible refine bs_alloc ?_ _ | with_reducible refine bs_drew ?_ | with_reducible refine bs_set ?_ ?_ _)))).mono ?_
    rintro e z2 ⟨rfl, hxz2⟩
    have hqz2 : Below y19.heap.size y19 z2 := bs_trans (by (repeat (first | with_reducible assumption | with_reducible exact Below.refl _ _ | with_reducible refine bs_alloc ?_ _ | with_reducible refine bs_drew ?_ | with_reducible refine bs_set ?_ ?_ _))) hxz2
    go_simp
    refine hK.out _ _ (HK.out _ hqz2) (fun hHeld => ?_)
    clear hK K
    try simp only [Act.put, List.setIfInBounds_toArray, List.set_cons_zero, List.set_cons_succ]
    refine wpAnyH_take (i := 35) (oi := { dst := some 122, op := Go.Op.binOp Go.BinOp.neq 3 (Go.Operand.tmp 121) (Go.Operand.const (Go.Value.int Go.IntKind.i64 0)) 3, type := 4, pos := "law.go:148", after := #[{ on := 34, ground := Go.Ground.data }, { on := 32, ground := Go.Ground.guard }], guard := some (32, false) }) (v := ?v35) rfl (by kernel_rfl) (by kernel_rfl) (by kernel_rfl) (fun _ _ _ h => h) (Or.inl ⟨by rfl, ?hy35⟩) (by assumption) ?rest35
    case hy35 => ((intro w hSw; (try dsimp only at hSw); go_simp); (try (with_reducible rfl)))
    try simp only [Act.put, List.setIfInBounds_toArray, List.set_cons_zero, List.set_cons_succ]
    refine wpAnyH_take (i := 36) (oi := { dst := some 123, op := Go.Op.move (Go.Operand.tmp 122), type := 4, pos := "law.go:148", after := #[{ on := 35, ground := Go.Ground.data }, { on := 34, ground := Go.Ground.chain }, { on := 32, ground := Go.Ground.guard }], guard := some (32, false) }) (v := ?v36) rfl (by kernel_rfl) (by kernel_rfl) (by kernel_rfl) (fun _ _ _ h => h) (Or.inl ⟨by rfl, ?hy36⟩) (by assumption) ?rest36
    case hy36 => ((intro w hSw; (try dsimp only at hSw); go_simp); (try (with_reducible rfl)))
    try simp only [Act.put, List.setIfInBounds_toArray, List.set_cons_zero, List.set_cons_succ]
    refine wpAnyH_take (i := 37) (oi := { dst := some 124, op := Go.Op.load 24 (Go.Operand.tmp 8), type := 24, pos := "law.go:148", after := #[{ on := 36, ground := Go.Ground.guard }], guard := some (36, true) }) (v := undef) rfl (by kernel_rfl) (by kernel_rfl) (by kernel_rfl) (fun _ _ _ h => h) (Or.inr ⟨by rfl, by rfl⟩) (by assumption) ?rest37
    try simp only [Act.put, List.setIfInBounds_toArray, List.set_cons_zero, List.set_cons_succ]
    refine wpAnyH_take (i := 39) (oi := { dst := some 126, op := Go.Op.load 24 (Go.Operand.tmp 3), type := 24, pos := "law.go:148", after := #[{ on := 36, ground := Go.Ground.guard }], guard := some (36, true) }) (v := undef) rfl (by kernel_rfl) (by kernel_rfl) (by kernel_rfl) (fun _ _ _ h => h) (Or.inr ⟨by rfl, by rfl⟩) (by assumption) ?rest39
    try simp only [Act.put, List.setIfInBounds_toArray, List.set_cons_zero, List.set_cons_succ]
    refine wpAnyH_ready (rs := [38]) (by kernel_rfl) (by simp) ?_
    refine AllReadyH.cons (o := { dst := some 125, op := Go.Op.call { callee := Go.Callee.value (Go.Operand.func 32), args := #[Go.Operand.tmp 124], argTypes := #[24] }, type := 3, pos := "law.go:148", after := #[{ on := 37, ground := Go.Ground.data }, { on := 36, ground := Go.Ground.chain }, { on := 36, ground := Go.Ground.guard }], guard := some (36, true) }) rfl (fun K hK => ?_) AllReadyH.nil
    go_simp
    refine hK.out _ _ (by assumption) (fun hHeld => ?_)
    clear hK K
    try simp only [Act.put, List.setIfInBounds_toArray, List.set_cons_zero, List.set_cons_succ]
    refine wpAnyH_ready (rs := [40]) (by kernel_rfl) (by simp) ?_
    refine AllReadyH.cons (o := { dst := some 127, op := Go.Op.call { callee := Go.Callee.value (Go.Operand.func 32), args := #[Go.Operand.tmp 126], argTypes := #[24] }, type := 3, pos := "law.go:148", after := #[{ on := 39, ground := Go.Ground.data }, { on := 38, ground := Go.Ground.chain }, { on := 36, ground := Go.Ground.guard }], guard := some (36, true) }) rfl (fun K hK => ?_) AllReadyH.nil
    go_simp
    refine hK.out _ _ (by assumption) (fun hHeld => ?_)
    clear hK K
    try simp only [Act.put, List.setIfInBounds_toArray, List.set_cons_zero, List.set_cons_succ]
    refine wpAnyH_take (i := 41) (oi := { dst := some 128, op := Go.Op.binOp Go.BinOp.neq 3 (Go.Operand.tmp 125) (Go.Operand.tmp 127) 3, type := 4, pos := "law.go:148", after := #[{ on := 38, ground := Go.Ground.data }, { on := 40, ground := Go.Ground.data }, { on := 36, ground := Go.Ground.guard }], guard := some (36, true) }) (v := undef) rfl (by kernel_rfl) (by kernel_rfl) (by kernel_rfl) (fun _ _ _ h => h) (Or.inr ⟨by rfl, by rfl⟩) (by assumption) ?rest41
    try simp only [Act.put, List.setIfInBounds_toArray, List.set_cons_zero, List.set_cons_succ]
    refine wpAnyH_take (i := 42) (oi := { dst := some 129, op := Go.Op.pick (Go.Operand.tmp 123) (Go.Operand.tmp 128) (Go.Operand.const (Go.Value.bool false)), type := 4, pos := "law.go:148", after := #[{ on := 36, ground := Go.Ground.data }, { on := 41, ground := Go.Ground.data }, { on := 32, ground := Go.Ground.guard }], guard := some (32, false) }) (v := ?v42) rfl (by kernel_rfl) (by kernel_rfl) (by kernel_rfl) (fun _ _ _ h => h) (Or.inl ⟨by rfl, ?hy42⟩) (by assumption) ?rest42
    case hy42 => ((intro w hSw; (try dsimp only at hSw); go_simp); (try (with_reducible rfl)))
    try simp only [Act.put, List.setIfInBounds_toArray, List.set_cons_zero, List.set_cons_succ]
    refine wpAnyH_take (i := 43) (oi := { dst := some 130, op := Go.Op.pick (Go.Operand.tmp 119) (Go.Operand.const (Go.Value.bool true)) (Go.Operand.tmp 129), type := 4, pos := "law.go:148", after := #[{ on := 32, ground := Go.Ground.data }, { on := 42, ground := Go.Ground.data }], guard := none }) (v := ?v43) rfl (by kernel_rfl) (by kernel_rfl) (by kernel_rfl) (fun _ _ _ h => h) (Or.inl ⟨by rfl, ?hy43⟩) (by assumption) ?rest43
    case hy43 => ((intro w hSw; (try dsimp only at hSw); go_simp); (try (with_reducible rfl)))
    try simp only [Act.put, List.setIfInBounds_toArray, List.set_cons_zero, List.set_cons_succ]
    refine wpAnyH_done (by kernel_rfl) ?_ _
    all_goals
      go_wp2_with fail
      go_meet
      refine ⟨rfl, ?_⟩
      (repeat (first | with_reducible assumption | with_reducible exact Below.refl _ _ | with_reducible refine bs_alloc ?_ _ | with_reducible refine bs_drew ?_ | with_reducible refine bs_set ?_ ?_ _))
  case rest =>
  obtain ⟨rfl, hq⟩ := hcut
  have VB := Lib.hid (VA.out.kept hq)
  have HC := Lib.hid (bs_trans HB.out hq)
  clear hq HK HI0 HI1 HI2 CE SR g00 g01 g10 g11 g20 g21 VA HB
  have VA := VB
  have HB := HC
  clear VB HC
  obtain ⟨s0, q0, n0, c0, f00, f01, _, _, I0⟩ := var_out (VA.out (P19, Z19) (by simp))
  obtain ⟨s1, q1, n1, c1, f10, f11, _, _, I1⟩ := var_out (VA.out (P15, Z15) (by simp))
  go_wp2_with fail
  refine (divides_yes _ _ _ _ _ _ _ _ _ _ wc I0 I1 (sm_mono k19.out (by decide)) (sm_mono k15.out (by decide)) (by rw [HZ19.out]; exact dvd_of_natAbs (Nat.gcd_dvd_left _ _))).mono ?_
  rintro e m10 ⟨rfl, hx⟩
  have VB := Lib.hid (VA.out.kept hx)
  have HC := Lib.hid (bs_trans HB.out hx)
  clear hx I0 f00 f01 I1 f10 f11 VA HB
  have VA := VB
  have HB := HC
  clear VB HC
  obtain ⟨s0, q0, n0, c0, f00, f01, _, _, I0⟩ := var_out (VA.out (P19, Z19) (by simp))
  obtain ⟨s1, q1, n1, c1, f10, f11, _, _, I1⟩ := var_out (VA.out (P17, Z17) (by simp))
  go_wp2_with fail
  refine (divides_yes _ _ _ _ _ _ _ _ _ _ m10 I0 I1 (sm_mono k19.out (by decide)) (sm_mono k17.out (by decide)) (by rw [HZ19.out]; exact dvd_of_natAbs (Nat.gcd_dvd_right _ _))).mono ?_
  rintro e m11 ⟨rfl, hx⟩
  have VB := Lib.hid (VA.out.kept hx)
  have HC := Lib.hid (bs_trans HB.out hx)
  clear hx I0 f00 f01 I1 f10 f11 VA HB
  have VA := VB
  have HB := HC
  clear VB HC
  obtain ⟨s0, q0, n0, c0, f00, f01, _, _, I0⟩ := var_out (VA.out (N + 1 + 1, c) (by simp))
  obtain ⟨s1, q1, n1, c1, f10, f11, _, _, I1⟩ := var_out (VA.out (P19, Z19) (by simp))
  go_wp2_with fail
  refine (divides_yes _ _ _ _ _ _ _ _ _ _ m11 I0 I1 (sm_mono kc.out (by decide)) (sm_mono k19.out (by decide)) (by rw [HZ19.out, HZ15.out, HZ17.out]; exact dvd_gcd_mul a b c)).mono ?_
  rintro e m12 ⟨rfl, hx⟩
  have VB := Lib.hid (VA.out.kept hx)
  have HC := Lib.hid (bs_trans HB.out hx)
  clear hx I0 f00 f01 I1 f10 f11 VA HB
  have VA := VB
  have HB := HC
  clear VB HC
  go_wp2_with fail
  go_ret
  exact ⟨rfl, HB.out⟩

end Go.Proofs.Yteggfjahjanabaa

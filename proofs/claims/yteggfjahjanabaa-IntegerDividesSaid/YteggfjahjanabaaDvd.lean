/-
  The walk of IntegerDivides (written by wip/gendiv.py).
-/
import Derived.Test.YteggfjahjanabaaDivL
namespace Go.Proofs.Yteggfjahjanabaa
open Go.RowKit PB

set_option maxHeartbeats 12800000 in
set_option maxRecDepth 100000 in
theorem dvd_pos (sa sb sc : Bool) (qa qb qc : Option Addr) (na nb nc ca cb cc : Nat) (a b c : Int) (w : World)
    (ha : IsInt w (.agg #[.bool sa, .slice qa na ca]) a) (hb : IsInt w (.agg #[.bool sb, .slice qb nb cb]) b) (hc : IsInt w (.agg #[.bool sc, .slice qc nc cc]) c) (la : na ≤ 20) (lb : nb ≤ 20) (lc : nc ≤ 20) (hb0 : b ≠ 0) (hr1 : a.tmod b ≠ 0) :
    Calls Try.prog 6 #[.agg #[.bool sa, .slice qa na ca], .agg #[.bool sb, .slice qb nb cb], .agg #[.bool sc, .slice qc nc cc]] w fun e w' => e = .returned (.bool true) ∧ Below w.heap.size w w' := by
  have ka := Lib.hid (sm_int ha la)
  have kb := Lib.hid (sm_int hb lb)
  have kc := Lib.hid (sm_int hc lc)
  have i1 : decide ((20 : Int) < na) = false := decide_eq_false (by omega)
  have i2 : decide ((20 : Int) < nb) = false := decide_eq_false (by omega)
  have i3 : decide ((20 : Int) < nc) = false := decide_eq_false (by omega)
  have HB00 := Lib.hid hb0
  have HR1 := Lib.hid hr1
  clear la lb lc hb0 hr1
  go_enter Try.func6, Try.ntmps6
  go_wp2_with fail
  generalize hW : World.alloc _ _ = W
  obtain ⟨N, hN⟩ : ∃ N, w.heap.size = N := ⟨_, rfl⟩
  have HB0 : Hid (Below w.heap.size w W) := Lib.hid (by rw [← hW]; exact bs_alloc (bs_alloc (bs_alloc (Below.refl _ _) _) _) _)
  have BL0 : Blk W w.heap.size #[.bool sa, .slice qa na ca] := by rw [← hW]; exact ((blk_new rfl).alloc _).alloc _
  have BL1 : Blk W (w.heap.size + 1) #[.bool sb, .slice qb nb cb] := by rw [← hW]; exact (blk_new (by simp)).alloc _
  have BL2 : Blk W (w.heap.size + 1 + 1) #[.bool sc, .slice qc nc cc] := by rw [← hW]; exact blk_new (by simp)
  rw [hN]
  have VA0 : Hid (Vars W [(N, a), (N + 1, b), (N + 1 + 1, c)]) := Lib.hid (by
    have h0 : Vars W [] := fun q hq => by cases hq
    refine ((h0.cons (p := N + 1 + 1) (z := c) ?_).cons (p := N + 1) (z := b) ?_).cons (p := N) (z := a) ?_
    · exact ⟨_, _, _, _, hN ▸ BL2, hc.kept HB0.out⟩
    · exact ⟨_, _, _, _, hN ▸ BL1, hb.kept HB0.out⟩
    · exact ⟨_, _, _, _, hN ▸ BL0, ha.kept HB0.out⟩)
  have HBL := Lib.hid (show Blk W N #[.bool sa, .slice qa na ca] ∧ Blk W (N + 1) #[.bool sb, .slice qb nb cb] ∧ Blk W (N + 1 + 1) #[.bool sc, .slice qc nc cc] from ⟨hN ▸ BL0, hN ▸ BL1, hN ▸ BL2⟩)
  clear hW BL0 BL1 BL2 ha hb hc
  refine (awake_any W).mono ?_
  rintro e u0 ⟨rfl, hb1⟩
  have HB : Hid (Below w.heap.size w u0) := Lib.hid (bs_trans HB0.out hb1)
  have VA := Lib.hid (VA0.out.kept hb1)
  obtain ⟨B0, B1, B2⟩ := HBL.out
  obtain ⟨a0, a1⟩ := Blk2 (B0.kept hb1)
  obtain ⟨b0, b1⟩ := Blk2 (B1.kept hb1)
  obtain ⟨c0, c1⟩ := Blk2 (B2.kept hb1)
  clear hb1 HB0 VA0 HBL B0 B1 B2
  go_upto_region 5 with fail
  clear a0 a1 b0 b1 c0 c1
  obtain ⟨Z7, hZ⟩ : ∃ Z : Int, Z = (a.tdiv b) := ⟨_, rfl⟩
  have HZ7 := Lib.hid hZ
  obtain ⟨Z8, hZ2⟩ : ∃ Z : Int, Z = (a.tmod b) := ⟨_, rfl⟩
  have HZ8 := Lib.hid hZ2
  have k7 : Hid (sm 20 Z7) := Lib.hid (by rw [hZ]; exact sm_tdiv ka.out b)
  have k8 : Hid (sm 20 Z8) := Lib.hid (by rw [hZ2]; exact sm_tmod ka.out b)
  obtain ⟨s0, q0, n0, c0, f00, f01, _, _, I0⟩ := var_out (VA.out (N, a) (by simp))
  obtain ⟨s1, q1, n1, c1, f10, f11, _, _, I1⟩ := var_out (VA.out (N + 1, b) (by simp))
  have call := quo_fine _ _ _ _ u0 I0 I1 (not_big ka.out (by decide)) (not_big kb.out (by decide)) HB00.out
  rw [← hZ, ← hZ2] at call
  clear hZ hZ2
  go_wp2_with fail
  refine call.mono ?_
  clear call
  rintro e x7 ⟨v, v', rfl, hc, hc2, hx⟩
  obtain ⟨s7, q7, n7, c7, rfl, i⟩ := can_form hc
  obtain ⟨s8, q8, n8, c8, rfl, i2⟩ := can_form hc2
  have VB := Lib.hid (VA.out.kept hx)
  have HC := Lib.hid (bs_trans HB.out hx)
  clear hc hc2 hx I0 f00 f01 I1 f10 f11 VA HB
  go_upto_region 6 with fail
  generalize hW : World.alloc _ _ = y7
  obtain ⟨P7, hP⟩ : ∃ P, x7.heap.size = P := ⟨_, rfl⟩
  rw [hP]
  have hy : Below x7.heap.size x7 y7 := by rw [← hW]; exact bs_alloc (bs_alloc (Below.refl _ _) _) _
  have bl : Blk y7 P7 #[.bool s7, .slice q7 n7 c7] := by rw [← hW, ← hP]; exact (blk_new rfl).alloc _
  have bl2 : Blk y7 (P7 + 1) #[.bool s8, .slice q8 n8 c8] := by rw [← hW, ← hP]; exact blk_new (by simp)
  have VA := Lib.hid (((VB.out.kept hy).cons (p := P7) (z := Z7) ⟨_, _, _, _, bl, i.kept hy⟩).cons (p := P7 + 1) (z := Z8) ⟨_, _, _, _, bl2, i2.kept hy⟩)
  have HB := Lib.hid (bs_trans HC.out hy)
  clear hW hP hy VB HC i bl i2 bl2
  obtain ⟨r, hr⟩ : ∃ r, b.sign = r := ⟨_, rfl⟩
  have HR := Lib.hid hr
  have t0 : (r == (0 : Int)) = false := by rw [← hr]; simp; exact HB00.out
  clear hr
  obtain ⟨s0, q0, n0, c0, f00, f01, _, _, I0⟩ := var_out (VA.out (N + 1, b) (by simp))
  go_wp2_with fail
  refine (sign_is y7 I0 HR.out).mono ?_
  rintro e m0 ⟨rfl, hx⟩
  have VB := Lib.hid (VA.out.kept hx)
  have HC := Lib.hid (bs_trans HB.out hx)
  clear hx I0 f00 f01 VA HB
  have VA := VB
  have HB := HC
  clear VB HC
  obtain ⟨Z10, hZ⟩ : ∃ Z : Int, Z = (Z7 * b) := ⟨_, rfl⟩
  have HZ10 := Lib.hid hZ
  have k10 : Hid (sm (20 + 20) Z10) := Lib.hid (by rw [hZ]; exact sm_mul k7.out kb.out)
  obtain ⟨s0, q0, n0, c0, f00, f01, _, _, I0⟩ := var_out (VA.out (P7, Z7) (by simp))
  obtain ⟨s1, q1, n1, c1, f10, f11, _, _, I1⟩ := var_out (VA.out (N + 1, b) (by simp))
  have call := mul_sm m0 I0 I1 (sm_mono k7.out (by decide)) (sm_mono kb.out (by decide))
  rw [← hZ] at call
  clear hZ
  go_wp2_with fail
  refine call.mono ?_
  clear call
  rintro e x10 ⟨v, rfl, hc, hx⟩
  obtain ⟨s10, q10, n10, c10, rfl, i⟩ := can_form hc
  have VB := Lib.hid (VA.out.kept hx)
  have HC := Lib.hid (bs_trans HB.out hx)
  clear hc hx I0 f00 f01 I1 f10 f11 VA HB
  go_upto_region 9 with fail
  generalize hW : World.alloc _ _ = y10
  obtain ⟨P10, hP⟩ : ∃ P, x10.heap.size = P := ⟨_, rfl⟩
  rw [hP]
  have hy : Below x10.heap.size x10 y10 := by rw [← hW]; exact (Below.refl _ _).alloc (Nat.le_refl _) _
  have bl : Blk y10 P10 #[.bool s10, .slice q10 n10 c10] := by rw [← hW, ← hP]; exact blk_new rfl
  have VA := Lib.hid ((VB.out.kept hy).cons ⟨_, _, _, _, bl, i.kept hy⟩)
  have HB := Lib.hid (bs_trans HC.out hy)
  clear hW hP hy VB HC i bl
  obtain ⟨Z12, hZ⟩ : ∃ Z : Int, Z = (Z10 + Z8) := ⟨_, rfl⟩
  have HZ12 := Lib.hid hZ
  obtain ⟨s0, q0, n0, c0, f00, f01, _, _, I0⟩ := var_out (VA.out (P10, Z10) (by simp))
  obtain ⟨s1, q1, n1, c1, f10, f11, _, _, I1⟩ := var_out (VA.out (P7 + 1, Z8) (by simp))
  have call := add_sm y10 I0 I1 (sm_mono k10.out (by decide)) (sm_mono k8.out (by decide))
  rw [← hZ] at call
  clear hZ
  go_wp2_with fail
  refine call.mono ?_
  clear call
  rintro e x12 ⟨v, rfl, hc, hx⟩
  obtain ⟨s12, q12, n12, c12, rfl, i⟩ := can_form hc
  have VB := Lib.hid (VA.out.kept hx)
  have HC := Lib.hid (bs_trans HB.out hx)
  clear hc hx I0 f00 f01 I1 f10 f11 VA HB
  go_upto_region 10 with fail
  generalize hW : World.alloc _ _ = y12
  obtain ⟨P12, hP⟩ : ∃ P, x12.heap.size = P := ⟨_, rfl⟩
  rw [hP]
  have hy : Below x12.heap.size x12 y12 := by rw [← hW]; exact (Below.refl _ _).alloc (Nat.le_refl _) _
  have bl : Blk y12 P12 #[.bool s12, .slice q12 n12 c12] := by rw [← hW, ← hP]; exact blk_new rfl
  have VA := Lib.hid ((VB.out.kept hy).cons ⟨_, _, _, _, bl, i.kept hy⟩)
  have HB := Lib.hid (bs_trans HC.out hy)
  clear hW hP hy VB HC i bl
  obtain ⟨s0, q0, n0, c0, D0, I0⟩ := VA.out (P7 + 1, Z8) (by simp)
  obtain ⟨s1, q1, n1, c1, D1, I1⟩ := VA.out (N + 1, b) (by simp)
  have HK := Lib.hid (show ∀ w', Below y12.heap.size y12 w' → (w'.cell? ⟨P7 + 1, 0, none⟩ = some (.bool s0) ∧ w'.cell? ⟨P7 + 1, 1, none⟩ = some (.slice q0 n0 c0)) ∧ (w'.cell? ⟨N + 1, 0, none⟩ = some (.bool s1) ∧ w'.cell? ⟨N + 1, 1, none⟩ = some (.slice q1 n1 c1)) from fun w1 h => ⟨Blk2 (D0.kept h), Blk2 (D1.kept h)⟩)
  have HI0 := Lib.hid (fun w' (h : Below y12.heap.size y12 w') => I0.kept h)
  have HI1 := Lib.hid (fun w' (h : Below y12.heap.size y12 w') => I1.kept h)
  obtain ⟨⟨g00, g01⟩, g10, g11⟩ := HK.out _ (Below.refl _ _)
  clear D0 I0 D1 I1
  have hlt : ((Z8.natAbs : Nat) : Int) < (b.natAbs : Nat) := by rw [HZ8.out, Int.natAbs_tmod]; exact Int.ofNat_lt.2 (Nat.mod_lt _ (by have := HB00.out; omega))
  have HLT := Lib.hid hlt
  clear hlt
  go_cut [14] from 64 to 69 (fun s14 wx => s14 = .int .i64 (-1) ∧ Below y12.heap.size y12 wx)
  case first =>
    go_region_held3 (fun w' => (w'.cell? ⟨P7 + 1, 0, none⟩ = some (.bool s0) ∧ w'.cell? ⟨P7 + 1, 1, none⟩ = some (.slice q0 n0 c0)) ∧ (w'.cell? ⟨N + 1, 0, none⟩ = some (.bool s1) ∧ w'.cell? ⟨N + 1, 1, none⟩ = some (.slice q1 n1 c1)))
      ((refine HK.out _ ?_; (repeat (first | with_reducible assumption | with_reducible exact Below.refl _ _ | with_reducible refine bs_alloc ?_ _ | with_reducible refine bs_drew ?_ | with_reducible refine bs_set ?_ ?_ _))))
      (first
        | (go_at_call 36; refine (cmp_lt0 _ (hz1.out.kept (by (repeat (first | with_reducible assumption | with_reducible exact Below.refl _ _ | with_reducible refine bs_alloc ?_ _ | with_reducible refine bs_drew ?_ | with_reducible refine bs_set ?_ ?_ _)))) (hz2.out.kept (by (repeat (first | with_reducible assumption | with_reducible exact Below.refl _ _ | with_reducible refine bs_alloc ?_ _ | with_reducible refine bs_drew ?_ | with_reducible refine bs_set ?_ ?_ _)))) HLT.out).mono ?_; rintro e z3 ⟨rfl, hx3⟩; have hq3 : Below y12.heap.size y12 z3 := bs_trans (by (repeat (first | with_reducible assumption | with_reducible exact Below.refl _ _ | with_reducible refine bs_alloc ?_ _ | with_reducible refine bs_drew ?_ | with_reducible refine bs_set ?_ ?_ _))) hx3)
        | (go_at_call_of 43 (Value.agg #[Value.bool s0, Value.slice q0 n0 c0]); refine (positive_any _ _ _ _ _ _ (HI0.out _ (by (repeat (first | with_reducible assumption | with_reducible exact Below.refl _ _ | with_reducible refine bs_alloc ?_ _ | with_reducible refine bs_drew ?_ | with_reducible refine bs_set ?_ ?_ _))))).mono ?_; rintro e z1 ⟨s5, q5, n5, c5, rfl, i5, hx1⟩; have hz1 := Lib.hid i5; have hq1 : Below y12.heap.size y12 z1 := bs_trans (by (repeat (first | with_reducible assumption | with_reducible exact Below.refl _ _ | with_reducible refine bs_alloc ?_ _ | with_reducible refine bs_drew ?_ | with_reducible refine bs_set ?_ ?_ _))) hx1; clear i5)
        | (go_at_call_of 43 (Value.agg #[Value.bool s1, Value.slice q1 n1 c1]); refine (positive_any _ _ _ _ _ _ (HI1.out _ (by (repeat (first | with_reducible assumption | with_reducible exact Below.refl _ _ | with_reducible refine bs_alloc ?_ _ | with_reducible refine bs_drew ?_ | with_reducible refine bs_set ?_ ?_ _))))).mono ?_; rintro e z2 ⟨s6, q6, n6, c6, rfl, i6, hx2⟩; have hz2 := Lib.hid i6; have hq2 : Below y12.heap.size y12 z2 := bs_trans (by (repeat (first | with_reducible assumption | with_reducible exact Below.refl _ _ | with_reducible refine bs_alloc ?_ _ | with_reducible refine bs_drew ?_ | with_reducible refine bs_set ?_ ?_ _))) hx2; clear i6))
    all_goals
      go_wp2_with fail
      go_meet
      refine ⟨rfl, ?_⟩
      (repeat (first | with_reducible assumption | with_reducible exact Below.refl _ _ | with_reducible refine bs_alloc ?_ _ | with_reducible refine bs_drew ?_ | with_reducible refine bs_set ?_ ?_ _))
  case rest =>
  obtain ⟨rfl, hq⟩ := hcut
  have VB := Lib.hid (VA.out.kept hq)
  have HC := Lib.hid (bs_trans HB.out hq)
  clear hq HK HI0 HI1 HLT g00 g01 g10 g11 VA HB
  have VA := VB
  have HB := HC
  clear VB HC
  obtain ⟨Z15, hZ⟩ : ∃ Z : Int, Z = (a * c) := ⟨_, rfl⟩
  have HZ15 := Lib.hid hZ
  have k15 : Hid (sm (20 + 20) Z15) := Lib.hid (by rw [hZ]; exact sm_mul ka.out kc.out)
  obtain ⟨s0, q0, n0, c0, f00, f01, _, _, I0⟩ := var_out (VA.out (N, a) (by simp))
  obtain ⟨s1, q1, n1, c1, f10, f11, _, _, I1⟩ := var_out (VA.out (N + 1 + 1, c) (by simp))
  have call := mul_sm wc I0 I1 (sm_mono ka.out (by decide)) (sm_mono kc.out (by decide))
  rw [← hZ] at call
  clear hZ
  go_wp2_with fail
  refine call.mono ?_
  clear call
  rintro e x15 ⟨v, rfl, hc, hx⟩
  obtain ⟨s15, q15, n15, c15, rfl, i⟩ := can_form hc
  have VB := Lib.hid (VA.out.kept hx)
  have HC := Lib.hid (bs_trans HB.out hx)
  clear hc hx I0 f00 f01 I1 f10 f11 VA HB
  go_upto_region 12 with fail
  generalize hW : World.alloc _ _ = y15
  obtain ⟨P15, hP⟩ : ∃ P, x15.heap.size = P := ⟨_, rfl⟩
  rw [hP]
  have hy : Below x15.heap.size x15 y15 := by rw [← hW]; exact (Below.refl _ _).alloc (Nat.le_refl _) _
  have bl : Blk y15 P15 #[.bool s15, .slice q15 n15 c15] := by rw [← hW, ← hP]; exact blk_new rfl
  have VA := Lib.hid ((VB.out.kept hy).cons ⟨_, _, _, _, bl, i.kept hy⟩)
  have HB := Lib.hid (bs_trans HC.out hy)
  clear hW hP hy VB HC i bl
  obtain ⟨Z17, hZ⟩ : ∃ Z : Int, Z = (b * c) := ⟨_, rfl⟩
  have HZ17 := Lib.hid hZ
  have k17 : Hid (sm (20 + 20) Z17) := Lib.hid (by rw [hZ]; exact sm_mul kb.out kc.out)
  obtain ⟨s0, q0, n0, c0, f00, f01, _, _, I0⟩ := var_out (VA.out (N + 1, b) (by simp))
  obtain ⟨s1, q1, n1, c1, f10, f11, _, _, I1⟩ := var_out (VA.out (N + 1 + 1, c) (by simp))
  have call := mul_sm y15 I0 I1 (sm_mono kb.out (by decide)) (sm_mono kc.out (by decide))
  rw [← hZ] at call
  clear hZ
  go_wp2_with fail
  refine call.mono ?_
  clear call
  rintro e x17 ⟨v, rfl, hc, hx⟩
  obtain ⟨s17, q17, n17, c17, rfl, i⟩ := can_form hc
  have VB := Lib.hid (VA.out.kept hx)
  have HC := Lib.hid (bs_trans HB.out hx)
  clear hc hx I0 f00 f01 I1 f10 f11 VA HB
  go_upto_region 13 with fail
  generalize hW : World.alloc _ _ = y17
  obtain ⟨P17, hP⟩ : ∃ P, x17.heap.size = P := ⟨_, rfl⟩
  rw [hP]
  have hy : Below x17.heap.size x17 y17 := by rw [← hW]; exact (Below.refl _ _).alloc (Nat.le_refl _) _
  have bl : Blk y17 P17 #[.bool s17, .slice q17 n17 c17] := by rw [← hW, ← hP]; exact blk_new rfl
  have VA := Lib.hid ((VB.out.kept hy).cons ⟨_, _, _, _, bl, i.kept hy⟩)
  have HB := Lib.hid (bs_trans HC.out hy)
  clear hW hP hy VB HC i bl
  obtain ⟨Z19, hZ⟩ : ∃ Z : Int, Z = ((Nat.gcd Z15.natAbs Z17.natAbs : Nat) : Int) := ⟨_, rfl⟩
  have HZ19 := Lib.hid hZ
  have k19 : Hid (sm (20 + 20) Z19) := Lib.hid (by rw [hZ]; exact sm_gcd k15.out k17.out)
  obtain ⟨s0, q0, n0, c0, f00, f01, _, _, I0⟩ := var_out (VA.out (P15, Z15) (by simp))
  obtain ⟨s1, q1, n1, c1, f10, f11, _, _, I1⟩ := var_out (VA.out (P17, Z17) (by simp))
  have call := gcd_fine _ _ _ _ y17 I0 I1 (not_big k15.out (by decide)) (not_big k17.out (by decide))
  rw [← hZ] at call
  clear hZ
  go_wp2_with fail
  refine call.mono ?_
  clear call
  rintro e x19 ⟨v, rfl, hc, hx⟩
  obtain ⟨s19, q19, n19, c19, rfl, i⟩ := can_form hc
  have VB := Lib.hid (VA.out.kept hx)
  have HC := Lib.hid (bs_trans HB.out hx)
  clear hc hx I0 f00 f01 I1 f10 f11 VA HB
  go_upto_region 14 with fail
  generalize hW : World.alloc _ _ = y19
  obtain ⟨P19, hP⟩ : ∃ P, x19.heap.size = P := ⟨_, rfl⟩
  rw [hP]
  have hy : Below x19.heap.size x19 y19 := by rw [← hW]; exact (Below.refl _ _).alloc (Nat.le_refl _) _
  have bl : Blk y19 P19 #[.bool s19, .slice q19 n19 c19] := by rw [← hW, ← hP]; exact blk_new rfl
  have VA := Lib.hid ((VB.out.kept hy).cons ⟨_, _, _, _, bl, i.kept hy⟩)
  have HB := Lib.hid (bs_trans HC.out hy)
  clear hW hP hy VB HC i bl
  have hr0 : Z8 ≠ 0 := by rw [HZ8.out]; exact HR1.out
  obtain ⟨s0, q0, n0, c0, D0, I0⟩ := VA.out (P12, Z12) (by simp)
  obtain ⟨s1, q1, n1, c1, D1, I1⟩ := VA.out (N, a) (by simp)
  obtain ⟨s2, q2, n2, c2, D2, I2⟩ := VA.out (P7 + 1, Z8) (by simp)
  have HK := Lib.hid (show ∀ w', Below y19.heap.size y19 w' → (w'.cell? ⟨P12, 0, none⟩ = some (.bool s0) ∧ w'.cell? ⟨P12, 1, none⟩ = some (.slice q0 n0 c0)) ∧ (w'.cell? ⟨N, 0, none⟩ = some (.bool s1) ∧ w'.cell? ⟨N, 1, none⟩ = some (.slice q1 n1 c1)) ∧ (w'.cell? ⟨P7 + 1, 0, none⟩ = some (.bool s2) ∧ w'.cell? ⟨P7 + 1, 1, none⟩ = some (.slice q2 n2 c2)) from fun w1 h => ⟨Blk2 (D0.kept h), Blk2 (D1.kept h), Blk2 (D2.kept h)⟩)
  have HI0 := Lib.hid (fun w' (h : Below y19.heap.size y19 w') => I0.kept h)
  have HI1 := Lib.hid (fun w' (h : Below y19.heap.size y19 w') => I1.kept h)
  have HI2 := Lib.hid (fun w' (h : Below y19.heap.size y19 w') => I2.kept h)
  obtain ⟨⟨g00, g01⟩, ⟨g10, g11⟩, g20, g21⟩ := HK.out _ (Below.refl _ _)
  clear D0 I0 D1 I1 D2 I2
  have CE := Lib.hid (fun W' (h : Below y19.heap.size y19 W') => cmp_eq W' (HI0.out _ h) (HI1.out _ h) (by rw [HZ12.out, HZ10.out, HZ8.out, HZ7.out]; exact Int.tdiv_mul_add_tmod a b))
  obtain ⟨σ, hσ⟩ : ∃ σ, Z8.sign = σ := ⟨_, rfl⟩
  have t0 : (σ != (0 : Int)) = true := by rw [← hσ]; simp; exact hr0
  have t1 : (σ != σ) = false := by simp
  have SR := Lib.hid (fun W' (h : Below y19.heap.size y19 W') => sign_is W' (HI2.out _ h) hσ)
  have SA := Lib.hid (fun W' (h : Below y19.heap.size y19 W') => sign_is W' (HI1.out _ h) (show a.sign = σ by rw [← hσ, HZ8.out]; exact (sign_tmod (by rw [← HZ8.out]; exact hr0)).symm))
  clear hr0 hσ
  go_cut [130] (fun s130 wx => s130 = .bool false ∧ Below y19.heap.size y19 wx)
  case first =>
    go_region_held3 (fun w' => (w'.cell? ⟨P12, 0, none⟩ = some (.bool s0) ∧ w'.cell? ⟨P12, 1, none⟩ = some (.slice q0 n0 c0)) ∧ (w'.cell? ⟨N, 0, none⟩ = some (.bool s1) ∧ w'.cell? ⟨N, 1, none⟩ = some (.slice q1 n1 c1)) ∧ (w'.cell? ⟨P7 + 1, 0, none⟩ = some (.bool s2) ∧ w'.cell? ⟨P7 + 1, 1, none⟩ = some (.slice q2 n2 c2)))
      ((refine HK.out _ ?_; (repeat (first | with_reducible assumption | with_reducible exact Below.refl _ _ | with_reducible refine bs_alloc ?_ _ | with_reducible refine bs_drew ?_ | with_reducible refine bs_set ?_ ?_ _))))
      (first
        | (go_at_call 36; refine (CE.out _ (by (repeat (first | with_reducible assumption | with_reducible exact Below.refl _ _ | with_reducible refine bs_alloc ?_ _ | with_reducible refine bs_drew ?_ | with_reducible refine bs_set ?_ ?_ _)))).mono ?_; rintro e z1 ⟨rfl, hx1⟩; have hq1 : Below y19.heap.size y19 z1 := bs_trans (by (repeat (first | with_reducible assumption | with_reducible exact Below.refl _ _ | with_reducible refine bs_alloc ?_ _ | with_reducible refine bs_drew ?_ | with_reducible refine bs_set ?_ ?_ _))) hx1)
        | (go_at_call_of 32 (Value.agg #[Value.bool s2, Value.slice q2 n2 c2]); refine (SR.out _ (by (repeat (first | with_reducible assumption | with_reducible exact Below.refl _ _ | with_reducible refine bs_alloc ?_ _ | with_reducible refine bs_drew ?_ | with_reducible refine bs_set ?_ ?_ _)))).mono ?_; rintro e z2 ⟨rfl, hx2⟩; have hq2 : Below y19.heap.size y19 z2 := bs_trans (by (repeat (first | with_reducible assumption | with_reducible exact Below.refl _ _ | with_reducible refine bs_alloc ?_ _ | with_reducible refine bs_drew ?_ | with_reducible refine bs_set ?_ ?_ _))) hx2)
        | (go_at_call_of 32 (Value.agg #[Value.bool s1, Value.slice q1 n1 c1]); refine (SA.out _ (by (repeat (first | with_reducible assumption | with_reducible exact Below.refl _ _ | with_reducible refine bs_alloc ?_ _ | with_reducible refine bs_drew ?_ | with_reducible refine bs_set ?_ ?_ _)))).mono ?_; rintro e z3 ⟨rfl, hx3⟩; have hq3 : Below y19.heap.size y19 z3 := bs_trans (by (repeat (first | with_reducible assumption | with_reducible exact Below.refl _ _ | with_reducible refine bs_alloc ?_ _ | with_reducible refine bs_drew ?_ | with_reducible refine bs_set ?_ ?_ _))) hx3))
    all_goals
      go_wp2_with fail
      go_meet
      refine ⟨rfl, ?_⟩
      (repeat (first | with_reducible assumption | with_reducible exact Below.refl _ _ | with_reducible refine bs_alloc ?_ _ | with_reducible refine bs_drew ?_ | with_reducible refine bs_set ?_ ?_ _))
  case rest =>
  obtain ⟨rfl, hq⟩ := hcut
  have VB := Lib.hid (VA.out.kept hq)
  have HC := Lib.hid (bs_trans HB.out hq)
  clear hq HK HI0 HI1 HI2 CE SR g00 g01 g10 g11 g20 g21 VA HB
  have VA := VB
  have HB := HC
  clear VB HC
  obtain ⟨s0, q0, n0, c0, f00, f01, _, _, I0⟩ := var_out (VA.out (P19, Z19) (by simp))
  obtain ⟨s1, q1, n1, c1, f10, f11, _, _, I1⟩ := var_out (VA.out (P15, Z15) (by simp))
  go_wp2_with fail
  refine (divides_yes _ _ _ _ _ _ _ _ _ _ wc I0 I1 (sm_mono k19.out (by decide)) (sm_mono k15.out (by decide)) (by rw [HZ19.out]; exact dvd_of_natAbs (Nat.gcd_dvd_left _ _))).mono ?_
  rintro e m10 ⟨rfl, hx⟩
  have VB := Lib.hid (VA.out.kept hx)
  have HC := Lib.hid (bs_trans HB.out hx)
  clear hx I0 f00 f01 I1 f10 f11 VA HB
  have VA := VB
  have HB := HC
  clear VB HC
  obtain ⟨s0, q0, n0, c0, f00, f01, _, _, I0⟩ := var_out (VA.out (P19, Z19) (by simp))
  obtain ⟨s1, q1, n1, c1, f10, f11, _, _, I1⟩ := var_out (VA.out (P17, Z17) (by simp))
  go_wp2_with fail
  refine (divides_yes _ _ _ _ _ _ _ _ _ _ m10 I0 I1 (sm_mono k19.out (by decide)) (sm_mono k17.out (by decide)) (by rw [HZ19.out]; exact dvd_of_natAbs (Nat.gcd_dvd_right _ _))).mono ?_
  rintro e m11 ⟨rfl, hx⟩
  have VB := Lib.hid (VA.out.kept hx)
  have HC := Lib.hid (bs_trans HB.out hx)
  clear hx I0 f00 f01 I1 f10 f11 VA HB
  have VA := VB
  have HB := HC
  clear VB HC
  obtain ⟨s0, q0, n0, c0, f00, f01, _, _, I0⟩ := var_out (VA.out (N + 1 + 1, c) (by simp))
  obtain ⟨s1, q1, n1, c1, f10, f11, _, _, I1⟩ := var_out (VA.out (P19, Z19) (by simp))
  go_wp2_with fail
  refine (divides_yes _ _ _ _ _ _ _ _ _ _ m11 I0 I1 (sm_mono kc.out (by decide)) (sm_mono k19.out (by decide)) (by rw [HZ19.out, HZ15.out, HZ17.out]; exact dvd_gcd_mul a b c)).mono ?_
  rintro e m12 ⟨rfl, hx⟩
  have VB := Lib.hid (VA.out.kept hx)
  have HC := Lib.hid (bs_trans HB.out hx)
  clear hx I0 f00 f01 I1 f10 f11 VA HB
  have VA := VB
  have HB := HC
  clear VB HC
  go_wp2_with fail
  go_ret
  exact ⟨rfl, HB.out⟩

end Go.Proofs.Yteggfjahjanabaa

/-
  The verifier's sanity check of this layer is true.
  MulDiv of the reference, and VectorMulDiv: the walk.
-/
import Derived.Test.YtkokokgmhpkoiaaM45
import Derived.Test.YtkokokgmhpkoiaaM47
import Derived.Test.YtkokokgmhpkoiaaM53
import Derived.Test.YtkokokgmhpkoiaaM54
namespace Go.Proofs.Ytkokokgmhpkoiaa
open Go.RowKit PB VB
set_option maxRecDepth 100000 in
theorem len_c : Lib.bitLen 1125899906842624 = 51 := by decide
set_option maxHeartbeats 4000000 in
set_option maxRecDepth 100000 in
theorem div_c : DivOK 137 65536 0 1125899906842624 := by
  intro w
  have hl : ∀ w, Calls Try.prog 152 #[.int .u64 1125899906842624] w fun e w' => e = .returned (.int .i64 13) ∧ w = w' := fun w => by
    have h := Try.bits_LeadingZeros64 1125899906842624 w (by decide) (by decide)
    rw [show (64 - (Lib.bitLen (1125899906842624 : Int).toNat : Int)) = 13 from by decide] at h
    exact h.mono fun _ _ h => ⟨h.1, h.2.symm⟩
  have HL := Lib.hid hl
  have E := Lib.hid (show (((65536 * 18446744073709551616 + 0) / 1125899906842624 : Nat) : Int) = 1073741824 by decide)
  have E2 := Lib.hid (show (((65536 * 18446744073709551616 + 0) % 1125899906842624 : Nat) : Int) = 0 by decide)
  rw [E.out, E2.out]
  clear E E2 hl
  simp only [show ((65536 : Nat) : Int) = 65536 from rfl, show ((1125899906842624 : Nat) : Int) = 1125899906842624 from rfl]
  have b1 : bits BinOp.and IntKind.u64 9223372036854775808 4294967295 = 0 := by decide
  have b2 : bits BinOp.or IntKind.u64 536870912 0 = 536870912 := by decide
  have b3 : bits BinOp.and IntKind.u64 0 4294967295 = 0 := by decide
  go_enter Try.func137, Try.ntmps137
  go_wp2_with fail
  refine (HL.out _).mono ?_
  rintro e w1 ⟨rfl, rfl⟩
  go_wp2_with fail
  refine wp_loop_rounds 1 ?_
  rw [rounds_succ]
  go_wp2_with fail
  refine wp_loop_rounds 1 ?_
  rw [rounds_succ]
  go_wp2_with fail
  go_ret2
  exact tret rfl rfl (Below.refl _ _)
set_option maxRecDepth 100000 in
theorem aw_md (w : World) : Calls Try.prog 59 #[.int .i64 1099511627776, .int .i64 1099511627776, .int .i64 (-1125899906842624)] w fun e w' => e = .returned (.tuple #[.int .i64 (-1073741824), .bool true]) ∧ Below w.heap.size w w' := by
  have h := md_yes (a := 1099511627776) (b := 1099511627776) (c := -1125899906842624) w ⟨by decide, by decide⟩ ⟨by decide, by decide⟩ ⟨by decide, by decide⟩ (fun _ => by rw [show (1099511627776 : Int).natAbs * (1099511627776 : Int).natAbs / 18446744073709551616 = 65536 by decide, show (1099511627776 : Int).natAbs * (1099511627776 : Int).natAbs % 18446744073709551616 = 0 by decide, show (-1125899906842624 : Int).natAbs = 1125899906842624 by decide]; exact div_c) ⟨by decide, by decide, by decide⟩
  rw [show ((1099511627776 : Int) * 1099511627776).tdiv (-1125899906842624) = -1073741824 by decide] at h
  exact h
set_option maxRecDepth 100000 in
theorem aw_root (w : World) : Calls Try.prog 57 #[.int .i64 99] w fun e w' => e = .returned (.int .i64 9) ∧ w = w' :=
  vroot_any 99 9 w ⟨by decide, by decide, fun _ => by decide, by decide⟩ (by decide)
set_option maxRecDepth 100000 in
theorem aw_turn (w : World) : Calls Try.prog 66 #[vec 257 0, vec 0 1] w fun e w' => e = .returned (.tuple #[vec 255 32, .bool true]) ∧ Below w.heap.size w w' := by
  have h := vturn_any 257 0 0 1 w
  rwa [show tX 257 0 0 1 = 255 by decide, show tY 257 0 0 1 = 32 by decide, show tB 257 0 0 1 = true by decide] at h
set_option maxRecDepth 100000 in
/-- One vector in memory. -/
theorem vsl_one {w : World} {g : Nat} {x y : Int} (h : Blk w g #[.int .i64 x, .int .i64 y]) : VSl w g 0 1 (fun _ => (x, y)) := by
  intro i hi
  obtain rfl : i = 0 := by omega
  exact Blk2 h
set_option maxRecDepth 100000 in
theorem allsm_one {x y : Int} (h : Sm x y) : AllSm (fun _ => (x, y)) 1 := fun _ _ => h
set_option maxRecDepth 100000 in
theorem liftV_one {xx xy x y rx ry : Int} (hx : Sm xx xy) (hn : Sm x y) (h1 : (sidesOf (fun _ => (x, y)) 1).al xx xy = false) (h2 : bestOf xx xy (sidesOf (fun _ => (x, y)) 1) (fun _ => (x, y)) 1 = (rx, ry)) : liftV xx xy (fun _ => (x, y)) 1 = (rx, ry) := by
  unfold liftV
  rw [if_pos ⟨hx, allsm_one hn⟩, h1, if_neg (by decide), h2]
set_option maxRecDepth 100000 in
theorem aw_lift1 (g : Nat) (w : World) (h : Blk w g #[.int .i64 0, .int .i64 1]) : Calls Try.prog 61 #[vec 3 (-4), .slice (some ⟨g, 0, none⟩) 1 1] w fun e w' => e = .returned (vec 3 0) ∧ Below w.heap.size w w' := by
  have h := lift_any 3 (-4) (some ⟨g, 0, none⟩) g 0 1 1 (fun _ => (0, 1)) w (fun _ => rfl) (fun _ => h.lt) (vsl_one h) (by decide)
    (fun _ _ _ _ _ => ⟨div_short (a := -1) (b := crossI 0 1 3 (-4)) (c := dotI 0 1 0 1) ⟨by decide, by decide⟩ (by decide), div_short (a := 0) (b := crossI 0 1 3 (-4)) (c := dotI 0 1 0 1) ⟨by decide, by decide⟩ (by decide)⟩)
  rwa [liftV_one (rx := 3) (ry := 0) ⟨by decide, by decide, by decide, by decide⟩ ⟨by decide, by decide, by decide, by decide⟩ (by decide) (by decide)] at h
set_option maxRecDepth 100000 in
theorem aw_lift2 (g : Nat) (w : World) (h : Blk w g #[.int .i64 1, .int .i64 2]) : Calls Try.prog 61 #[vec 0 (-5), .slice (some ⟨g, 0, none⟩) 1 1] w fun e w' => e = .returned (vec 2 (-1)) ∧ Below w.heap.size w w' := by
  have h := lift_any 0 (-5) (some ⟨g, 0, none⟩) g 0 1 1 (fun _ => (1, 2)) w (fun _ => rfl) (fun _ => h.lt) (vsl_one h) (by decide)
    (fun _ _ _ _ _ => ⟨div_short (a := -2) (b := crossI 1 2 0 (-5)) (c := dotI 1 2 1 2) ⟨by decide, by decide⟩ (by decide), div_short (a := 1) (b := crossI 1 2 0 (-5)) (c := dotI 1 2 1 2) ⟨by decide, by decide⟩ (by decide)⟩)
  rwa [liftV_one (rx := 2) (ry := -1) ⟨by decide, by decide, by decide, by decide⟩ ⟨by decide, by decide, by decide, by decide⟩ (by decide) (by decide)] at h
set_option maxHeartbeats 4000000 in
set_option maxRecDepth 100000 in
theorem vawake_any (w : World) : Calls Try.prog 38 #[] w fun e w' => e = .returned (.bool true) ∧ Below w.heap.size w w' := by
  go_enter Try.func38, Try.ntmps38
  go_wp2_with fail
  refine (aw_turn _).mono ?_
  rintro e w1 ⟨rfl, hw1⟩
  have L1 : Blk w1 w.heap.size #[.int .i64 0, .int .i64 1] := (blk_new rfl).kept hw1
  have q1 := in1 hw1
  clear hw1
  go_wp2_with fail
  refine (aw_md _).mono ?_
  rintro e w2 ⟨rfl, hw2⟩
  have L2 := blk_keep L1 hw2
  have T2 : Blk w2 w1.heap.size #[.int .i64 255, .int .i64 32] := (blk_new rfl).kept hw2
  have q2 := next1 q1 hw2
  clear hw2 L1 q1
  go_wp2_with fail
  refine (aw_lift1 _ _ L2).mono ?_
  rintro e w3 ⟨rfl, hw3⟩
  have T3 := T2.kept hw3
  have q3 := next q2 hw3
  clear hw3 L2 q2 T2
  go_wp2_with fail
  refine (aw_lift2 _ _ (blk_new rfl)).mono ?_
  rintro e w4 ⟨rfl, hw4⟩
  have T4 := blk_keep T3 hw4
  have q4 := next1 q3 hw4
  obtain ⟨t0, t1⟩ := Blk2 T4
  clear hw4 q3 T3
  go_wp2_with fail
  refine (aw_root _).mono ?_
  rintro e w5 ⟨rfl, rfl⟩
  go_wp2_with fail
  go_ret
  exact ⟨rfl, q4⟩
end Go.Proofs.Ytkokokgmhpkoiaa

namespace VB
/-- What MulDiv returns. -/
def mdV (a b c : Int) : Int := if c = 0 then 0 else numV ((a * b).tdiv c)
def mdB (a b c : Int) : Bool := if c = 0 then false else decide (numOk ((a * b).tdiv c))
theorem md_t {a b c : Int} (h : mdOk a b c) : mdV a b c = (a * b).tdiv c ∧ mdB a b c = true := by
  have k : numOk ((a * b).tdiv c) := h.2
  unfold mdV mdB numV
  rw [if_neg h.1, if_neg h.1, if_pos k]
  exact ⟨rfl, decide_eq_true k⟩
theorem md_f {a b c : Int} (h : ¬ mdOk a b c) : mdV a b c = 0 ∧ mdB a b c = false := by
  unfold mdV mdB
  by_cases hc : c = 0
  · rw [if_pos hc, if_pos hc]; exact ⟨rfl, rfl⟩
  · have hn : ¬ numOk ((a * b).tdiv c) := fun k => h ⟨hc, k.1, k.2⟩
    rw [if_neg hc, if_neg hc]
    unfold numV
    rw [if_neg hn]
    exact ⟨rfl, decide_eq_false hn⟩
end VB
namespace Go.Proofs.Ytkokokgmhpkoiaa
open Go.RowKit PB VB
set_option maxRecDepth 100000 in
theorem md_all {a b c : Int} (w : World) (ha : I64 a) (hb : I64 b) (hc : I64 c) :
    Calls Try.prog 59 #[.int .i64 a, .int .i64 b, .int .i64 c] w fun e w' => e = .returned (.tuple #[.int .i64 (mdV a b c), .bool (mdB a b c)]) ∧ Below w.heap.size w w' := by
  by_cases h : mdOk a b c
  · rw [(md_t h).1, (md_t h).2]; exact md_yes w ha hb hc (div_for hc) h
  · rw [(md_f h).1, (md_f h).2]; exact md_no w ha hb hc (div_for hc) h
set_option maxRecDepth 100000 in
theorem rmd_zero (a b : Int) (w : World) :
    Calls Try.prog 60 #[.int .i64 a, .int .i64 b, .int .i64 0] w fun e w' => e = .returned (.tuple #[.int .i64 (mdV a b 0), .bool (mdB a b 0)]) ∧ Below w.heap.size w w' := by
  have E := Lib.hid (md_f (a := a) (b := b) (c := 0) (fun k => k.1 rfl))
  go_enter Try.func60, Try.ntmps60
  go_wp2_with fail
  go_ret2
  exact nbret E.out.1.symm E.out.2.symm (Below.refl _ _)
set_option maxHeartbeats 2000000 in
set_option maxRecDepth 100000 in
theorem rmd_some (a b c : Int) (w : World) (ha : I64 a) (hb : I64 b) (hc : I64 c) (h0 : c ≠ 0) :
    Calls Try.prog 60 #[.int .i64 a, .int .i64 b, .int .i64 c] w fun e w' => e = .returned (.tuple #[.int .i64 (mdV a b c), .bool (mdB a b c)]) ∧ Below w.heap.size w w' := by
  have E1 := Lib.hid (show numV ((a * b).tdiv c) = mdV a b c by unfold mdV; rw [if_neg h0])
  have E2 := Lib.hid (show decide (numOk ((a * b).tdiv c)) = mdB a b c by unfold mdB; rw [if_neg h0])
  have HA := Lib.hid (fun w => of_ref a w ha.1 ha.2)
  have HB := Lib.hid (fun w => of_ref b w hb.1 hb.2)
  have HC := Lib.hid (fun w => of_ref c w hc.1 hc.2)
  have na := nl_i64 ha
  have nb := nl_i64 hb
  have nc := nl_i64 hc
  have nab : nl (a * b).natAbs ≤ 4 := nl_le (by
    have h1 : a.natAbs < 18446744073709551616 := nat_lt64 ha
    have h2 : b.natAbs < 18446744073709551616 := nat_lt64 hb
    show (a * b).natAbs < 18446744073709551616 * 18446744073709551616
    rw [Int.natAbs_mul]
    exact Nat.mul_lt_mul'' h1 h2)
  have HN := Lib.hid (⟨na, nb, nc, nab⟩ : _ ∧ _ ∧ _ ∧ _)
  have H0 := Lib.hid h0
  have k0 : (c == 0) = false := by simpa using h0
  clear ha hb hc h0 na nb nc nab
  go_enter Try.func60, Try.ntmps60
  go_wp2_with fail
  refine (HA.out _).mono ?_
  rintro e w1 ⟨v1, rfl, hc1, hb1⟩
  have i1 := Lib.hid hc1.int
  clear hc1
  go_wp2_with fail
  refine (HB.out _).mono ?_
  rintro e w2 ⟨v2, rfl, hc2, hb2⟩
  have i1' := Lib.hid (i1.out.kept hb2)
  have i2 := Lib.hid hc2.int
  have q2 := next hb1 hb2
  clear hc2 i1 hb1 hb2
  go_wp2_with fail
  refine (times_ref v1 v2 a b w2 i1'.out i2.out (by have := HN.out.1; omega) (by have := HN.out.2.1; omega)).mono ?_
  rintro e w3 ⟨v3, rfl, hc3, hb3⟩
  have i3 := Lib.hid hc3.int
  have q3 := next q2 hb3
  clear hc3 i1' i2 hb3 q2
  go_wp2_with fail
  refine (HC.out _).mono ?_
  rintro e w4 ⟨v4, rfl, hc4, hb4⟩
  have i3' := Lib.hid (i3.out.kept hb4)
  have i4 := Lib.hid hc4.int
  have q4 := next q3 hb4
  clear hc4 i3 hb4 q3
  go_wp2_with fail
  refine (div_ref v3 v4 (a * b) c w4 i3'.out i4.out (by have := HN.out.2.2.2; omega) (by have := HN.out.2.2.1; omega) H0.out).mono ?_
  rintro e w5 ⟨v5, v6, rfl, hc5, hc6, hb5⟩
  obtain ⟨s5, p5, n5, c5, rfl, i5⟩ := can_form hc5
  obtain ⟨s6, p6, n6, c6, rfl, i6⟩ := can_form hc6
  have q5 := Lib.hid (next q4 hb5)
  clear hc5 hc6 hb5 q4 i3' i4 i6
  have I5 := Lib.hid i5
  clear i5
  go_wp2_with fail
  refine (number_can s5 p5 n5 c5 ((a * b).tdiv c) _ (I5.out.kept (((Below.refl _ _).alloc (Nat.le_refl _) _).alloc (by simp) _))).mono ?_
  rintro e w6 ⟨rfl, hw6⟩
  have q6 := Lib.hid (next q5.out (in2 hw6))
  clear hw6
  go_wp2_with fail
  go_ret2
  exact nbret E1.out E2.out q6.out
set_option maxRecDepth 100000 in
theorem muldiv_any (a b c : Int) (w : World) (ha : I64 a) (hb : I64 b) (hc : I64 c) :
    Calls Try.prog 5 #[.int .i64 a, .int .i64 b, .int .i64 c] w fun e w' => e = .returned (.bool true) ∧ Below w.heap.size w w' := by
  have HV := Lib.hid (fun w => md_all w ha hb hc)
  have HR := Lib.hid (fun w => (show Calls Try.prog 60 #[.int .i64 a, .int .i64 b, .int .i64 c] w fun e w' => e = .returned (.tuple #[.int .i64 (mdV a b c), .bool (mdB a b c)]) ∧ Below w.heap.size w w' from by
    by_cases h : c = 0
    · subst h; exact rmd_zero a b w
    · exact rmd_some a b c w ha hb hc h))
  clear ha hb hc
  generalize mdV a b c = x at *
  generalize mdB a b c = s at *
  go_enter Try.func5, Try.ntmps5
  go_wp2_with fail
  refine (vawake_any _).mono ?_
  rintro e w1 ⟨rfl, hw1⟩
  go_wp2_with fail
  refine (HV.out _).mono ?_
  rintro e w2 ⟨rfl, hw2⟩
  go_wp2_with fail
  refine (HR.out _).mono ?_
  rintro e w3 ⟨rfl, hw3⟩
  go_wp2_with fail
  go_ret
  exact ⟨rfl, next hw1 (next hw2 hw3)⟩
end Go.Proofs.Ytkokokgmhpkoiaa

/-
  Scale of both sides.
-/
import Derived.Test.YtejodcpigfbnpaaVAdd
namespace VB
open Classical in
noncomputable def scaleV (x y n : Int) : Int × Int := if Sm x y then kp (n * x) (n * y) else (0, 0)
theorem far_mul {n a : Int} (hn : n < -1073741824 ∨ 1073741824 < n) (ha : a ≠ 0) : n * a < -1073741824 ∨ 1073741824 < n * a := by
  have h : 1073741825 * 1 ≤ n.natAbs * a.natAbs := Nat.mul_le_mul (by omega) (by omega)
  rw [← Int.natAbs_mul] at h
  omega
theorem scale_far {n x y : Int} (hn : n < -1073741824 ∨ 1073741824 < n) : kp (n * x) (n * y) = (0, 0) := by
  by_cases hx : x = 0
  · by_cases hy : y = 0
    · subst hx hy; rw [Int.mul_zero]; exact kp_t ⟨by decide, by decide, by decide, by decide⟩
    · refine kp_f fun h => ?_
      have := far_mul hn hy
      have := h.c; have := h.d
      omega
  · refine kp_f fun h => ?_
    have := far_mul hn hx
    have := h.a; have := h.b
    omega
theorem mul_bd2 {a b : Int} (h1 : -1073741824 ≤ a) (h2 : a ≤ 1073741824) (h3 : -2147483648 ≤ b) (h4 : b ≤ 2147483648) : -2305843009213693952 ≤ a * b ∧ a * b ≤ 2305843009213693952 := by
  have h : (a * b).natAbs ≤ 2305843009213693952 := by
    rw [Int.natAbs_mul]
    exact Nat.mul_le_mul (show a.natAbs ≤ 1073741824 by omega) (show b.natAbs ≤ 2147483648 by omega)
  omega
end VB
namespace Go.Proofs.Ytejodcpigfbnpaa
open Go.RowKit PB VB
set_option maxHeartbeats 1000000 in
theorem vscale_f (x y n : Int) (w : World) (h : ¬ Sm x y) : Calls Try.prog 16 #[vec x y, .int .i64 n] w fun e w' => e = .returned (vec (scaleV x y n).1 (scaleV x y n).2) ∧ Below w.heap.size w w' := by
  have E := Lib.hid (show scaleV x y n = (0, 0) from if_neg h)
  go_enter Try.func16, Try.ntmps16
  go_wp2_with fail
  refine (vsmall_f _ _ _ h).mono ?_
  rintro e w1 ⟨rfl, hw1⟩
  have V1 : Blk w1 w.heap.size #[.int .i64 x, .int .i64 y] := blk_prev hw1
  have R1 : Blk w1 (w.heap.size + 1) #[.int .i64 0, .int .i64 0] := blk_last2 hw1
  have q1 := in2 hw1
  obtain ⟨a0, a1⟩ := Blk2 V1
  obtain ⟨r0, r1⟩ := Blk2 R1
  obtain ⟨f0, f1⟩ := Blk2f R1
  clear hw1
  go_wp2_with fail
  refine bodyPost_ret (blk_res rfl _ rfl (blk_set2 R1) Try.underlying23 rfl (by rfl)) rfl ⟨by rw [E.out], (q1.setCell (by dsimp only; omega) _).setCell (by dsimp only; omega) _⟩
set_option maxHeartbeats 1000000 in
theorem vscale_lo (x y n : Int) (w : World) (h : Sm x y) (hn : n < -1073741824) : Calls Try.prog 16 #[vec x y, .int .i64 n] w fun e w' => e = .returned (vec (scaleV x y n).1 (scaleV x y n).2) ∧ Below w.heap.size w w' := by
  have E := Lib.hid (show scaleV x y n = (0, 0) from (if_pos h).trans (scale_far (by omega)))
  go_enter Try.func16, Try.ntmps16
  go_wp2_with fail
  refine (vsmall_t _ _ _ h).mono ?_
  rintro e w1 ⟨rfl, hw1⟩
  have V1 : Blk w1 w.heap.size #[.int .i64 x, .int .i64 y] := blk_prev hw1
  have R1 : Blk w1 (w.heap.size + 1) #[.int .i64 0, .int .i64 0] := blk_last2 hw1
  have q1 := in2 hw1
  obtain ⟨a0, a1⟩ := Blk2 V1
  obtain ⟨r0, r1⟩ := Blk2 R1
  obtain ⟨f0, f1⟩ := Blk2f R1
  clear hw1
  go_wp2_with fail
  refine bodyPost_ret (blk_res rfl _ rfl (blk_set2 R1) Try.underlying23 rfl (by rfl)) rfl ⟨by rw [E.out], (q1.setCell (by dsimp only; omega) _).setCell (by dsimp only; omega) _⟩
set_option maxHeartbeats 1000000 in
theorem vscale_hi (x y n : Int) (w : World) (h : Sm x y) (hn : 1073741824 < n) : Calls Try.prog 16 #[vec x y, .int .i64 n] w fun e w' => e = .returned (vec (scaleV x y n).1 (scaleV x y n).2) ∧ Below w.heap.size w w' := by
  have E := Lib.hid (show scaleV x y n = (0, 0) from (if_pos h).trans (scale_far (by omega)))
  have hn2 : ¬ n < -1073741824 := by omega
  go_enter Try.func16, Try.ntmps16
  go_wp2_with fail
  refine (vsmall_t _ _ _ h).mono ?_
  rintro e w1 ⟨rfl, hw1⟩
  have V1 : Blk w1 w.heap.size #[.int .i64 x, .int .i64 y] := blk_prev hw1
  have R1 : Blk w1 (w.heap.size + 1) #[.int .i64 0, .int .i64 0] := blk_last2 hw1
  have q1 := in2 hw1
  obtain ⟨a0, a1⟩ := Blk2 V1
  obtain ⟨r0, r1⟩ := Blk2 R1
  obtain ⟨f0, f1⟩ := Blk2f R1
  clear hw1
  go_wp2_with fail
  refine bodyPost_ret (blk_res rfl _ rfl (blk_set2 R1) Try.underlying23 rfl (by rfl)) rfl ⟨by rw [E.out], (q1.setCell (by dsimp only; omega) _).setCell (by dsimp only; omega) _⟩
set_option maxHeartbeats 1000000 in
theorem vscale_t (x y n : Int) (w : World) (h : Sm x y) (h1 : ¬ n < -1073741824) (h2 : ¬ 1073741824 < n) : Calls Try.prog 16 #[vec x y, .int .i64 n] w fun e w' => e = .returned (vec (scaleV x y n).1 (scaleV x y n).2) ∧ Below w.heap.size w w' := by
  have E := Lib.hid (show scaleV x y n = kp (n * x) (n * y) from if_pos h)
  have k1 : -2305843009213693952 ≤ n * x ∧ n * x ≤ 2305843009213693952 := by rw [Int.mul_comm]; exact mul_bd2 h.a h.b (by omega) (by omega)
  have k2 : -2305843009213693952 ≤ n * y ∧ n * y ≤ 2305843009213693952 := by rw [Int.mul_comm]; exact mul_bd2 h.c h.d (by omega) (by omega)
  obtain ⟨k1, k1'⟩ := k1
  obtain ⟨k2, k2'⟩ := k2
  go_enter Try.func16, Try.ntmps16
  go_wp2_with fail
  refine (vsmall_t _ _ _ h).mono ?_
  rintro e w1 ⟨rfl, hw1⟩
  have V1 : Blk w1 w.heap.size #[.int .i64 x, .int .i64 y] := blk_prev hw1
  have R1 : Blk w1 (w.heap.size + 1) #[.int .i64 0, .int .i64 0] := blk_last2 hw1
  have q1 := in2 hw1
  obtain ⟨a0, a1⟩ := Blk2 V1
  clear hw1
  go_wp2_with fail
  refine (vbnd_any _ _ _).mono ?_
  rintro e w3 ⟨rfl, hw3⟩
  have R3 := R1.kept hw3
  have q3 := next q1 hw3
  clear hw3 V1 R1 a0 a1 q1
  obtain ⟨r0, r1⟩ := Blk2 R3
  obtain ⟨f0, f1⟩ := Blk2f R3
  go_wp2_with fail
  refine bodyPost_ret (blk_res rfl _ rfl (blk_set2 R3) Try.underlying23 rfl (by rfl)) rfl ⟨by rw [E.out], (q3.setCell (by dsimp only; omega) _).setCell (by dsimp only; omega) _⟩
theorem vscale_any (x y n : Int) (w : World) : Calls Try.prog 16 #[vec x y, .int .i64 n] w fun e w' => e = .returned (vec (scaleV x y n).1 (scaleV x y n).2) ∧ Below w.heap.size w w' := by
  by_cases h : Sm x y
  · by_cases h1 : n < -1073741824
    · exact vscale_lo x y n w h h1
    · by_cases h2 : 1073741824 < n
      · exact vscale_hi x y n w h h2
      · exact vscale_t x y n w h h1 h2
  · exact vscale_f x y n w h
set_option maxHeartbeats 1000000 in
theorem rscale_f (x y n : Int) (w : World) (h : ¬ Sm x y) : Calls Try.prog 17 #[vec x y, .int .i64 n] w fun e w' => e = .returned (vec (scaleV x y n).1 (scaleV x y n).2) ∧ Below w.heap.size w w' := by
  have E := Lib.hid (show scaleV x y n = (0, 0) from if_neg h)
  go_enter Try.func17, Try.ntmps17
  go_wp2_with fail
  refine (rsmall_f _ _ _ h).mono ?_
  rintro e w1 ⟨rfl, hw1⟩
  have V1 : Blk w1 w.heap.size #[.int .i64 x, .int .i64 y] := blk_prev hw1
  have R1 : Blk w1 (w.heap.size + 1) #[.int .i64 0, .int .i64 0] := blk_last2 hw1
  have q1 := in2 hw1
  obtain ⟨a0, a1⟩ := Blk2 V1
  obtain ⟨r0, r1⟩ := Blk2 R1
  obtain ⟨f0, f1⟩ := Blk2f R1
  clear hw1
  go_wp2_with fail
  refine bodyPost_ret (blk_res rfl _ rfl (blk_set2 R1) Try.underlying23 rfl (by rfl)) rfl ⟨by rw [E.out], (q1.setCell (by dsimp only; omega) _).setCell (by dsimp only; omega) _⟩
set_option maxHeartbeats 1000000 in
theorem rscale_zero (n : Int) (w : World) (h : Sm 0 0) : Calls Try.prog 17 #[vec 0 0, .int .i64 n] w fun e w' => e = .returned (vec (scaleV 0 0 n).1 (scaleV 0 0 n).2) ∧ Below w.heap.size w w' := by
  have E := Lib.hid (show scaleV 0 0 n = (0, 0) from (if_pos h).trans (by rw [Int.mul_zero]; exact kp_t h))
  go_enter Try.func17, Try.ntmps17
  go_wp2_with fail
  refine (rsmall_t _ _ _ h).mono ?_
  rintro e w1 ⟨rfl, hw1⟩
  have V1 : Blk w1 w.heap.size #[.int .i64 0, .int .i64 0] := blk_prev hw1
  have R1 : Blk w1 (w.heap.size + 1) #[.int .i64 0, .int .i64 0] := blk_last2 hw1
  have q1 := in2 hw1
  obtain ⟨a0, a1⟩ := Blk2 V1
  obtain ⟨r0, r1⟩ := Blk2 R1
  obtain ⟨f0, f1⟩ := Blk2f R1
  clear hw1
  go_wp2_with fail
  refine bodyPost_ret (blk_res rfl _ rfl (blk_set2 R1) Try.underlying23 rfl (by rfl)) rfl ⟨by rw [E.out], (q1.setCell (by dsimp only; omega) _).setCell (by dsimp only; omega) _⟩
set_option maxHeartbeats 1000000 in
theorem rscale_hix (x y n : Int) (w : World) (h : Sm x y) (hz : x ≠ 0) (hn : 2147483648 < n) : Calls Try.prog 17 #[vec x y, .int .i64 n] w fun e w' => e = .returned (vec (scaleV x y n).1 (scaleV x y n).2) ∧ Below w.heap.size w w' := by
  have E := Lib.hid (show scaleV x y n = (0, 0) from (if_pos h).trans (scale_far (by omega)))
  go_enter Try.func17, Try.ntmps17
  go_wp2_with fail
  refine (rsmall_t _ _ _ h).mono ?_
  rintro e w1 ⟨rfl, hw1⟩
  have V1 : Blk w1 w.heap.size #[.int .i64 x, .int .i64 y] := blk_prev hw1
  have R1 : Blk w1 (w.heap.size + 1) #[.int .i64 0, .int .i64 0] := blk_last2 hw1
  have q1 := in2 hw1
  obtain ⟨a0, a1⟩ := Blk2 V1
  obtain ⟨r0, r1⟩ := Blk2 R1
  obtain ⟨f0, f1⟩ := Blk2f R1
  clear hw1
  go_wp2_with fail
  refine bodyPost_ret (blk_res rfl _ rfl (blk_set2 R1) Try.underlying23 rfl (by rfl)) rfl ⟨by rw [E.out], (q1.setCell (by dsimp only; omega) _).setCell (by dsimp only; omega) _⟩
set_option maxHeartbeats 1000000 in
theorem rscale_lox (x y n : Int) (w : World) (h : Sm x y) (hz : x ≠ 0) (hn : n < -2147483648) : Calls Try.prog 17 #[vec x y, .int .i64 n] w fun e w' => e = .returned (vec (scaleV x y n).1 (scaleV x y n).2) ∧ Below w.heap.size w w' := by
  have E := Lib.hid (show scaleV x y n = (0, 0) from (if_pos h).trans (scale_far (by omega)))
  have hn2 : ¬ 2147483648 < n := by omega
  go_enter Try.func17, Try.ntmps17
  go_wp2_with fail
  refine (rsmall_t _ _ _ h).mono ?_
  rintro e w1 ⟨rfl, hw1⟩
  have V1 : Blk w1 w.heap.size #[.int .i64 x, .int .i64 y] := blk_prev hw1
  have R1 : Blk w1 (w.heap.size + 1) #[.int .i64 0, .int .i64 0] := blk_last2 hw1
  have q1 := in2 hw1
  obtain ⟨a0, a1⟩ := Blk2 V1
  obtain ⟨r0, r1⟩ := Blk2 R1
  obtain ⟨f0, f1⟩ := Blk2f R1
  clear hw1
  go_wp2_with fail
  refine bodyPost_ret (blk_res rfl _ rfl (blk_set2 R1) Try.underlying23 rfl (by rfl)) rfl ⟨by rw [E.out], (q1.setCell (by dsimp only; omega) _).setCell (by dsimp only; omega) _⟩
set_option maxHeartbeats 1000000 in
theorem rscale_tx (x y n : Int) (w : World) (h : Sm x y) (hz : x ≠ 0) (h1 : ¬ 2147483648 < n) (h2 : ¬ n < -2147483648) : Calls Try.prog 17 #[vec x y, .int .i64 n] w fun e w' => e = .returned (vec (scaleV x y n).1 (scaleV x y n).2) ∧ Below w.heap.size w w' := by
  have E := Lib.hid (show scaleV x y n = kp (x * n) (y * n) from by rw [Int.mul_comm x, Int.mul_comm y]; exact if_pos h)
  obtain ⟨k1, k1'⟩ := mul_bd2 h.a h.b (b := n) (by omega) (by omega)
  obtain ⟨k2, k2'⟩ := mul_bd2 h.c h.d (b := n) (by omega) (by omega)
  go_enter Try.func17, Try.ntmps17
  go_wp2_with fail
  refine (rsmall_t _ _ _ h).mono ?_
  rintro e w1 ⟨rfl, hw1⟩
  have V1 : Blk w1 w.heap.size #[.int .i64 x, .int .i64 y] := blk_prev hw1
  have R1 : Blk w1 (w.heap.size + 1) #[.int .i64 0, .int .i64 0] := blk_last2 hw1
  have q1 := in2 hw1
  obtain ⟨a0, a1⟩ := Blk2 V1
  clear hw1
  go_wp2_with fail
  refine (rkept_any _ _ _).mono ?_
  rintro e w3 ⟨rfl, hw3⟩
  have R3 := R1.kept hw3
  have q3 := next q1 hw3
  clear hw3 V1 R1 a0 a1 q1
  obtain ⟨r0, r1⟩ := Blk2 R3
  obtain ⟨f0, f1⟩ := Blk2f R3
  go_wp2_with fail
  refine bodyPost_ret (blk_res rfl _ rfl (blk_set2 R3) Try.underlying23 rfl (by rfl)) rfl ⟨by rw [E.out], (q3.setCell (by dsimp only; omega) _).setCell (by dsimp only; omega) _⟩
set_option maxHeartbeats 1000000 in
theorem rscale_hiy (y n : Int) (w : World) (h : Sm 0 y) (hz : y ≠ 0) (hn : 2147483648 < n) : Calls Try.prog 17 #[vec 0 y, .int .i64 n] w fun e w' => e = .returned (vec (scaleV 0 y n).1 (scaleV 0 y n).2) ∧ Below w.heap.size w w' := by
  have E := Lib.hid (show scaleV 0 y n = (0, 0) from (if_pos h).trans (scale_far (by omega)))
  go_enter Try.func17, Try.ntmps17
  go_wp2_with fail
  refine (rsmall_t _ _ _ h).mono ?_
  rintro e w1 ⟨rfl, hw1⟩
  have V1 : Blk w1 w.heap.size #[.int .i64 0, .int .i64 y] := blk_prev hw1
  have R1 : Blk w1 (w.heap.size + 1) #[.int .i64 0, .int .i64 0] := blk_last2 hw1
  have q1 := in2 hw1
  obtain ⟨a0, a1⟩ := Blk2 V1
  obtain ⟨r0, r1⟩ := Blk2 R1
  obtain ⟨f0, f1⟩ := Blk2f R1
  clear hw1
  go_wp2_with fail
  refine bodyPost_ret (blk_res rfl _ rfl (blk_set2 R1) Try.underlying23 rfl (by rfl)) rfl ⟨by rw [E.out], (q1.setCell (by dsimp only; omega) _).setCell (by dsimp only; omega) _⟩
set_option maxHeartbeats 1000000 in
theorem rscale_loy (y n : Int) (w : World) (h : Sm 0 y) (hz : y ≠ 0) (hn : n < -2147483648) : Calls Try.prog 17 #[vec 0 y, .int .i64 n] w fun e w' => e = .returned (vec (scaleV 0 y n).1 (scaleV 0 y n).2) ∧ Below w.heap.size w w' := by
  have E := Lib.hid (show scaleV 0 y n = (0, 0) from (if_pos h).trans (scale_far (by omega)))
  have hn2 : ¬ 2147483648 < n := by omega
  go_enter Try.func17, Try.ntmps17
  go_wp2_with fail
  refine (rsmall_t _ _ _ h).mono ?_
  rintro e w1 ⟨rfl, hw1⟩
  have V1 : Blk w1 w.heap.size #[.int .i64 0, .int .i64 y] := blk_prev hw1
  have R1 : Blk w1 (w.heap.size + 1) #[.int .i64 0, .int .i64 0] := blk_last2 hw1
  have q1 := in2 hw1
  obtain ⟨a0, a1⟩ := Blk2 V1
  obtain ⟨r0, r1⟩ := Blk2 R1
  obtain ⟨f0, f1⟩ := Blk2f R1
  clear hw1
  go_wp2_with fail
  refine bodyPost_ret (blk_res rfl _ rfl (blk_set2 R1) Try.underlying23 rfl (by rfl)) rfl ⟨by rw [E.out], (q1.setCell (by dsimp only; omega) _).setCell (by dsimp only; omega) _⟩
set_option maxHeartbeats 1000000 in
theorem rscale_ty (y n : Int) (w : World) (h : Sm 0 y) (hz : y ≠ 0) (h1 : ¬ 2147483648 < n) (h2 : ¬ n < -2147483648) : Calls Try.prog 17 #[vec 0 y, .int .i64 n] w fun e w' => e = .returned (vec (scaleV 0 y n).1 (scaleV 0 y n).2) ∧ Below w.heap.size w w' := by
  have E := Lib.hid (show scaleV 0 y n = kp 0 (y * n) from by rw [Int.mul_comm y]; exact (if_pos h).trans (by rw [Int.mul_zero]))
  obtain ⟨k1, k1'⟩ := mul_bd2 h.a h.b (b := n) (by omega) (by omega)
  obtain ⟨k2, k2'⟩ := mul_bd2 h.c h.d (b := n) (by omega) (by omega)
  go_enter Try.func17, Try.ntmps17
  go_wp2_with fail
  refine (rsmall_t _ _ _ h).mono ?_
  rintro e w1 ⟨rfl, hw1⟩
  have V1 : Blk w1 w.heap.size #[.int .i64 0, .int .i64 y] := blk_prev hw1
  have R1 : Blk w1 (w.heap.size + 1) #[.int .i64 0, .int .i64 0] := blk_last2 hw1
  have q1 := in2 hw1
  obtain ⟨a0, a1⟩ := Blk2 V1
  clear hw1
  go_wp2_with fail
  refine (rkept_any _ _ _).mono ?_
  rintro e w3 ⟨rfl, hw3⟩
  have R3 := R1.kept hw3
  have q3 := next q1 hw3
  clear hw3 V1 R1 a0 a1 q1
  obtain ⟨r0, r1⟩ := Blk2 R3
  obtain ⟨f0, f1⟩ := Blk2f R3
  go_wp2_with fail
  refine bodyPost_ret (blk_res rfl _ rfl (blk_set2 R3) Try.underlying23 rfl (by rfl)) rfl ⟨by rw [E.out], (q3.setCell (by dsimp only; omega) _).setCell (by dsimp only; omega) _⟩
theorem rscale_any (x y n : Int) (w : World) : Calls Try.prog 17 #[vec x y, .int .i64 n] w fun e w' => e = .returned (vec (scaleV x y n).1 (scaleV x y n).2) ∧ Below w.heap.size w w' := by
  by_cases h : Sm x y
  · by_cases hx : x = 0
    · subst hx
      by_cases hy : y = 0
      · subst hy; exact rscale_zero n w h
      · by_cases h1 : 2147483648 < n
        · exact rscale_hiy y n w h hy h1
        · by_cases h2 : n < -2147483648
          · exact rscale_loy y n w h hy h2
          · exact rscale_ty y n w h hy h1 h2
    · by_cases h1 : 2147483648 < n
      · exact rscale_hix x y n w h hx h1
      · by_cases h2 : n < -2147483648
        · exact rscale_lox x y n w h hx h2
        · exact rscale_tx x y n w h hx h1 h2
  · exact rscale_f x y n w h
end Go.Proofs.Ytejodcpigfbnpaa

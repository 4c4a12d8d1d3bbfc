/-
  Sums, differences, multiples and turned vectors of both sides.
-/
import Derived.Test.YtejodcpigfbnpaaVRef
namespace VB
/-- A vector if it is small. -/
def kp (x y : Int) : Int × Int := if Sm x y then (x, y) else (0, 0)
theorem kp_t {x y : Int} (h : Sm x y) : kp x y = (x, y) := if_pos h
theorem kp_f {x y : Int} (h : ¬ Sm x y) : kp x y = (0, 0) := if_neg h
open Classical in
noncomputable def addV (ax ay bx b_ : Int) : Int × Int := if Sm ax ay ∧ Sm bx b_ then kp (ax + bx) (ay + b_) else (0, 0)
open Classical in
noncomputable def subV (ax ay bx b_ : Int) : Int × Int := if Sm ax ay ∧ Sm bx b_ then kp (ax - bx) (ay - b_) else (0, 0)
open Classical in
noncomputable def perpV (x y : Int) : Int × Int := if Sm x y then (-y, x) else (0, 0)
end VB
namespace Go.Proofs.Ytejodcpigfbnpaa
open Go.RowKit PB VB
theorem vbnd_t (x y : Int) (w : World) (h : Sm x y) : Calls Try.prog 39 #[vec x y] w fun e w' => e = .returned (vec (kp x y).1 (kp x y).2) ∧ Below w.heap.size w w' := by
  have E := Lib.hid (kp_t h)
  go_enter Try.func39, Try.ntmps39
  go_wp2_with fail
  refine (vsmall_t _ _ _ h).mono ?_
  rintro e w1 ⟨rfl, hw1⟩
  have V1 := blk_prev hw1
  have R1 := blk_last2 hw1
  have q1 := in2 hw1
  obtain ⟨a0, a1⟩ := Blk2 V1
  obtain ⟨r0, r1⟩ := Blk2 R1
  obtain ⟨f0, f1⟩ := Blk2f R1
  clear hw1
  go_wp2_with fail
  refine bodyPost_ret (blk_res rfl _ rfl (blk_set2 R1) Try.underlying23 rfl (by rfl)) rfl ⟨by rw [E.out], (q1.setCell (by dsimp only; omega) _).setCell (by dsimp only; omega) _⟩
theorem vbnd_f (x y : Int) (w : World) (h : ¬ Sm x y) : Calls Try.prog 39 #[vec x y] w fun e w' => e = .returned (vec (kp x y).1 (kp x y).2) ∧ Below w.heap.size w w' := by
  have E := Lib.hid (kp_f h)
  go_enter Try.func39, Try.ntmps39
  go_wp2_with fail
  refine (vsmall_f _ _ _ h).mono ?_
  rintro e w1 ⟨rfl, hw1⟩
  have V1 := blk_prev hw1
  have R1 := blk_last2 hw1
  have q1 := in2 hw1
  obtain ⟨a0, a1⟩ := Blk2 V1
  obtain ⟨r0, r1⟩ := Blk2 R1
  obtain ⟨f0, f1⟩ := Blk2f R1
  clear hw1
  go_wp2_with fail
  refine bodyPost_ret (blk_res rfl _ rfl (blk_set2 R1) Try.underlying23 rfl (by rfl)) rfl ⟨by rw [E.out], (q1.setCell (by dsimp only; omega) _).setCell (by dsimp only; omega) _⟩
theorem vbnd_any (x y : Int) (w : World) : Calls Try.prog 39 #[vec x y] w fun e w' => e = .returned (vec (kp x y).1 (kp x y).2) ∧ Below w.heap.size w w' := by
  by_cases h : Sm x y
  · exact vbnd_t x y w h
  · exact vbnd_f x y w h
theorem rkept_t (x y : Int) (w : World) (h : Sm x y) : Calls Try.prog 40 #[vec x y] w fun e w' => e = .returned (vec (kp x y).1 (kp x y).2) ∧ Below w.heap.size w w' := by
  have E := Lib.hid (kp_t h)
  go_enter Try.func40, Try.ntmps40
  go_wp2_with fail
  refine (rsmall_t _ _ _ h).mono ?_
  rintro e w1 ⟨rfl, hw1⟩
  have V1 := blk_prev hw1
  have R1 := blk_last2 hw1
  have q1 := in2 hw1
  obtain ⟨a0, a1⟩ := Blk2 V1
  obtain ⟨r0, r1⟩ := Blk2 R1
  obtain ⟨f0, f1⟩ := Blk2f R1
  clear hw1
  go_wp2_with fail
  refine bodyPost_ret (blk_res rfl _ rfl (blk_set2 R1) Try.underlying23 rfl (by rfl)) rfl ⟨by rw [E.out], (q1.setCell (by dsimp only; omega) _).setCell (by dsimp only; omega) _⟩
theorem rkept_f (x y : Int) (w : World) (h : ¬ Sm x y) : Calls Try.prog 40 #[vec x y] w fun e w' => e = .returned (vec (kp x y).1 (kp x y).2) ∧ Below w.heap.size w w' := by
  have E := Lib.hid (kp_f h)
  go_enter Try.func40, Try.ntmps40
  go_wp2_with fail
  refine (rsmall_f _ _ _ h).mono ?_
  rintro e w1 ⟨rfl, hw1⟩
  have V1 := blk_prev hw1
  have R1 := blk_last2 hw1
  have q1 := in2 hw1
  obtain ⟨a0, a1⟩ := Blk2 V1
  obtain ⟨r0, r1⟩ := Blk2 R1
  obtain ⟨f0, f1⟩ := Blk2f R1
  clear hw1
  go_wp2_with fail
  refine bodyPost_ret (blk_res rfl _ rfl (blk_set2 R1) Try.underlying23 rfl (by rfl)) rfl ⟨by rw [E.out], (q1.setCell (by dsimp only; omega) _).setCell (by dsimp only; omega) _⟩
theorem rkept_any (x y : Int) (w : World) : Calls Try.prog 40 #[vec x y] w fun e w' => e = .returned (vec (kp x y).1 (kp x y).2) ∧ Below w.heap.size w w' := by
  by_cases h : Sm x y
  · exact rkept_t x y w h
  · exact rkept_f x y w h
set_option maxHeartbeats 1000000 in
theorem vadd_t (ax ay bx b_ : Int) (w : World) (ha : Sm ax ay) (hb : Sm bx b_) : Calls Try.prog 12 #[vec ax ay, vec bx b_] w fun e w' => e = .returned (vec (addV ax ay bx b_).1 (addV ax ay bx b_).2) ∧ Below w.heap.size w w' := by
  have E := Lib.hid (show addV ax ay bx b_ = kp (ax + bx) (ay + b_) from if_pos ⟨ha, hb⟩)
  have a1 := ha.a; have a2 := ha.b; have a3 := ha.c; have a4 := ha.d
  have b1 := hb.a; have b2 := hb.b; have b3 := hb.c; have b4 := hb.d
  go_enter Try.func12, Try.ntmps12
  go_wp2_with fail
  refine (vsmall_t _ _ _ ha).mono ?_
  rintro e w1 ⟨rfl, hw1⟩
  have A1 : Blk w1 w.heap.size #[.int .i64 ax, .int .i64 ay] := (((blk_new rfl).alloc _).alloc _).kept hw1
  have B1 : Blk w1 (w.heap.size + 1) #[.int .i64 bx, .int .i64 b_] := ((blk_new (by simp)).alloc _).kept hw1
  have R1 : Blk w1 (w.heap.size + 1 + 1) #[.int .i64 0, .int .i64 0] := (blk_new (by simp)).kept hw1
  have q1 := in3 hw1
  obtain ⟨n0, n1⟩ := Blk2 B1
  clear hw1
  go_wp2_with fail
  refine (vsmall_t _ _ _ hb).mono ?_
  rintro e w2 ⟨rfl, hw2⟩
  have A2 := A1.kept hw2
  have B2 := B1.kept hw2
  have R2 := R1.kept hw2
  have q2 := next q1 hw2
  clear hw2 A1 B1 R1 n0 n1 q1
  obtain ⟨m0, m1⟩ := Blk2 A2
  obtain ⟨n0, n1⟩ := Blk2 B2
  go_wp2_with fail
  refine (vbnd_any _ _ _).mono ?_
  rintro e w3 ⟨rfl, hw3⟩
  have R3 := R2.kept hw3
  have q3 := next q2 hw3
  clear hw3 A2 B2 R2 n0 n1 m0 m1 q2
  obtain ⟨r0, r1⟩ := Blk2 R3
  obtain ⟨f0, f1⟩ := Blk2f R3
  go_wp2_with fail
  refine bodyPost_ret (blk_res rfl _ rfl (blk_set2 R3) Try.underlying23 rfl (by rfl)) rfl ⟨by rw [E.out], (q3.setCell (by dsimp only; omega) _).setCell (by dsimp only; omega) _⟩
set_option maxHeartbeats 1000000 in
theorem vadd_f (ax ay bx b_ : Int) (w : World) (hc : ¬ (Sm ax ay ∧ Sm bx b_)) : Calls Try.prog 12 #[vec ax ay, vec bx b_] w fun e w' => e = .returned (vec (addV ax ay bx b_).1 (addV ax ay bx b_).2) ∧ Below w.heap.size w w' := by
  have E := Lib.hid (show addV ax ay bx b_ = (0, 0) from if_neg hc)
  by_cases hv : Sm ax ay
  · have hn : ¬ Sm bx b_ := fun hn => hc ⟨hv, hn⟩
    clear hc
    go_enter Try.func12, Try.ntmps12
    go_wp2_with fail
    refine (vsmall_t _ _ _ hv).mono ?_
    rintro e w1 ⟨rfl, hw1⟩
    have B1 : Blk w1 (w.heap.size + 1) #[.int .i64 bx, .int .i64 b_] := ((blk_new (by simp)).alloc _).kept hw1
    have R1 : Blk w1 (w.heap.size + 1 + 1) #[.int .i64 0, .int .i64 0] := (blk_new (by simp)).kept hw1
    have q1 := in3 hw1
    obtain ⟨n0, n1⟩ := Blk2 B1
    clear hw1
    go_wp2_with fail
    refine (vsmall_f _ _ _ hn).mono ?_
    rintro e w2 ⟨rfl, hw2⟩
    have R2 := R1.kept hw2
    have q2 := next q1 hw2
    clear hw2 B1 R1 n0 n1 q1
    obtain ⟨r0, r1⟩ := Blk2 R2
    obtain ⟨f0, f1⟩ := Blk2f R2
    go_wp2_with fail
    refine bodyPost_ret (blk_res rfl _ rfl (blk_set2 R2) Try.underlying23 rfl (by rfl)) rfl ⟨by rw [E.out], (q2.setCell (by dsimp only; omega) _).setCell (by dsimp only; omega) _⟩
  · clear hc
    go_enter Try.func12, Try.ntmps12
    go_wp2_with fail
    refine (vsmall_f _ _ _ hv).mono ?_
    rintro e w2 ⟨rfl, hw1⟩
    have R2 : Blk w2 (w.heap.size + 1 + 1) #[.int .i64 0, .int .i64 0] := (blk_new (by simp)).kept hw1
    have q2 := in3 hw1
    clear hw1
    obtain ⟨r0, r1⟩ := Blk2 R2
    obtain ⟨f0, f1⟩ := Blk2f R2
    go_wp2_with fail
    refine bodyPost_ret (blk_res rfl _ rfl (blk_set2 R2) Try.underlying23 rfl (by rfl)) rfl ⟨by rw [E.out], (q2.setCell (by dsimp only; omega) _).setCell (by dsimp only; omega) _⟩
theorem vadd_any (ax ay bx b_ : Int) (w : World) : Calls Try.prog 12 #[vec ax ay, vec bx b_] w fun e w' => e = .returned (vec (addV ax ay bx b_).1 (addV ax ay bx b_).2) ∧ Below w.heap.size w w' := by
  by_cases h : Sm ax ay ∧ Sm bx b_
  · exact vadd_t ax ay bx b_ w h.1 h.2
  · exact vadd_f ax ay bx b_ w h
set_option maxHeartbeats 1000000 in
theorem radd_t (ax ay bx b_ : Int) (w : World) (ha : Sm ax ay) (hb : Sm bx b_) : Calls Try.prog 13 #[vec ax ay, vec bx b_] w fun e w' => e = .returned (vec (addV ax ay bx b_).1 (addV ax ay bx b_).2) ∧ Below w.heap.size w w' := by
  have E := Lib.hid (show addV ax ay bx b_ = kp (ax + bx) (ay + b_) from if_pos ⟨ha, hb⟩)
  have a1 := ha.a; have a2 := ha.b; have a3 := ha.c; have a4 := ha.d
  have b1 := hb.a; have b2 := hb.b; have b3 := hb.c; have b4 := hb.d
  go_enter Try.func13, Try.ntmps13
  go_wp2_with fail
  refine (rsmall_t _ _ _ ha).mono ?_
  rintro e w1 ⟨rfl, hw1⟩
  have A1 : Blk w1 w.heap.size #[.int .i64 ax, .int .i64 ay] := (((blk_new rfl).alloc _).alloc _).kept hw1
  have B1 : Blk w1 (w.heap.size + 1) #[.int .i64 bx, .int .i64 b_] := ((blk_new (by simp)).alloc _).kept hw1
  have R1 : Blk w1 (w.heap.size + 1 + 1) #[.int .i64 0, .int .i64 0] := (blk_new (by simp)).kept hw1
  have q1 := in3 hw1
  obtain ⟨n0, n1⟩ := Blk2 B1
  clear hw1
  go_wp2_with fail
  refine (rsmall_t _ _ _ hb).mono ?_
  rintro e w2 ⟨rfl, hw2⟩
  have A2 := A1.kept hw2
  have B2 := B1.kept hw2
  have R2 := R1.kept hw2
  have q2 := next q1 hw2
  clear hw2 A1 B1 R1 n0 n1 q1
  obtain ⟨m0, m1⟩ := Blk2 A2
  obtain ⟨n0, n1⟩ := Blk2 B2
  go_wp2_with fail
  refine (rkept_any _ _ _).mono ?_
  rintro e w3 ⟨rfl, hw3⟩
  have R3 := R2.kept hw3
  have q3 := next q2 hw3
  clear hw3 A2 B2 R2 n0 n1 m0 m1 q2
  obtain ⟨r0, r1⟩ := Blk2 R3
  obtain ⟨f0, f1⟩ := Blk2f R3
  go_wp2_with fail
  refine bodyPost_ret (blk_res rfl _ rfl (blk_set2 R3) Try.underlying23 rfl (by rfl)) rfl ⟨by rw [E.out], (q3.setCell (by dsimp only; omega) _).setCell (by dsimp only; omega) _⟩
set_option maxHeartbeats 1000000 in
theorem radd_f (ax ay bx b_ : Int) (w : World) (hc : ¬ (Sm ax ay ∧ Sm bx b_)) : Calls Try.prog 13 #[vec ax ay, vec bx b_] w fun e w' => e = .returned (vec (addV ax ay bx b_).1 (addV ax ay bx b_).2) ∧ Below w.heap.size w w' := by
  have E := Lib.hid (show addV ax ay bx b_ = (0, 0) from if_neg hc)
  by_cases hv : Sm ax ay
  · have hn : ¬ Sm bx b_ := fun hn => hc ⟨hv, hn⟩
    clear hc
    go_enter Try.func13, Try.ntmps13
    go_wp2_with fail
    refine (rsmall_t _ _ _ hv).mono ?_
    rintro e w1 ⟨rfl, hw1⟩
    have B1 : Blk w1 (w.heap.size + 1) #[.int .i64 bx, .int .i64 b_] := ((blk_new (by simp)).alloc _).kept hw1
    have R1 : Blk w1 (w.heap.size + 1 + 1) #[.int .i64 0, .int .i64 0] := (blk_new (by simp)).kept hw1
    have q1 := in3 hw1
    obtain ⟨n0, n1⟩ := Blk2 B1
    clear hw1
    go_wp2_with fail
    refine (rsmall_f _ _ _ hn).mono ?_
    rintro e w2 ⟨rfl, hw2⟩
    have R2 := R1.kept hw2
    have q2 := next q1 hw2
    clear hw2 B1 R1 n0 n1 q1
    obtain ⟨r0, r1⟩ := Blk2 R2
    obtain ⟨f0, f1⟩ := Blk2f R2
    go_wp2_with fail
    refine bodyPost_ret (blk_res rfl _ rfl (blk_set2 R2) Try.underlying23 rfl (by rfl)) rfl ⟨by rw [E.out], (q2.setCell (by dsimp only; omega) _).setCell (by dsimp only; omega) _⟩
  · clear hc
    go_enter Try.func13, Try.ntmps13
    go_wp2_with fail
    refine (rsmall_f _ _ _ hv).mono ?_
    rintro e w2 ⟨rfl, hw1⟩
    have R2 : Blk w2 (w.heap.size + 1 + 1) #[.int .i64 0, .int .i64 0] := (blk_new (by simp)).kept hw1
    have q2 := in3 hw1
    clear hw1
    obtain ⟨r0, r1⟩ := Blk2 R2
    obtain ⟨f0, f1⟩ := Blk2f R2
    go_wp2_with fail
    refine bodyPost_ret (blk_res rfl _ rfl (blk_set2 R2) Try.underlying23 rfl (by rfl)) rfl ⟨by rw [E.out], (q2.setCell (by dsimp only; omega) _).setCell (by dsimp only; omega) _⟩
theorem radd_any (ax ay bx b_ : Int) (w : World) : Calls Try.prog 13 #[vec ax ay, vec bx b_] w fun e w' => e = .returned (vec (addV ax ay bx b_).1 (addV ax ay bx b_).2) ∧ Below w.heap.size w w' := by
  by_cases h : Sm ax ay ∧ Sm bx b_
  · exact radd_t ax ay bx b_ w h.1 h.2
  · exact radd_f ax ay bx b_ w h
set_option maxHeartbeats 1000000 in
theorem vsub_t (ax ay bx b_ : Int) (w : World) (ha : Sm ax ay) (hb : Sm bx b_) : Calls Try.prog 14 #[vec ax ay, vec bx b_] w fun e w' => e = .returned (vec (subV ax ay bx b_).1 (subV ax ay bx b_).2) ∧ Below w.heap.size w w' := by
  have E := Lib.hid (show subV ax ay bx b_ = kp (ax - bx) (ay - b_) from if_pos ⟨ha, hb⟩)
  have a1 := ha.a; have a2 := ha.b; have a3 := ha.c; have a4 := ha.d
  have b1 := hb.a; have b2 := hb.b; have b3 := hb.c; have b4 := hb.d
  go_enter Try.func14, Try.ntmps14
  go_wp2_with fail
  refine (vsmall_t _ _ _ ha).mono ?_
  rintro e w1 ⟨rfl, hw1⟩
  have A1 : Blk w1 w.heap.size #[.int .i64 ax, .int .i64 ay] := (((blk_new rfl).alloc _).alloc _).kept hw1
  have B1 : Blk w1 (w.heap.size + 1) #[.int .i64 bx, .int .i64 b_] := ((blk_new (by simp)).alloc _).kept hw1
  have R1 : Blk w1 (w.heap.size + 1 + 1) #[.int .i64 0, .int .i64 0] := (blk_new (by simp)).kept hw1
  have q1 := in3 hw1
  obtain ⟨n0, n1⟩ := Blk2 B1
  clear hw1
  go_wp2_with fail
  refine (vsmall_t _ _ _ hb).mono ?_
  rintro e w2 ⟨rfl, hw2⟩
  have A2 := A1.kept hw2
  have B2 := B1.kept hw2
  have R2 := R1.kept hw2
  have q2 := next q1 hw2
  clear hw2 A1 B1 R1 n0 n1 q1
  obtain ⟨m0, m1⟩ := Blk2 A2
  obtain ⟨n0, n1⟩ := Blk2 B2
  go_wp2_with fail
  refine (vbnd_any _ _ _).mono ?_
  rintro e w3 ⟨rfl, hw3⟩
  have R3 := R2.kept hw3
  have q3 := next q2 hw3
  clear hw3 A2 B2 R2 n0 n1 m0 m1 q2
  obtain ⟨r0, r1⟩ := Blk2 R3
  obtain ⟨f0, f1⟩ := Blk2f R3
  go_wp2_with fail
  refine bodyPost_ret (blk_res rfl _ rfl (blk_set2 R3) Try.underlying23 rfl (by rfl)) rfl ⟨by rw [E.out], (q3.setCell (by dsimp only; omega) _).setCell (by dsimp only; omega) _⟩
set_option maxHeartbeats 1000000 in
theorem vsub_f (ax ay bx b_ : Int) (w : World) (hc : ¬ (Sm ax ay ∧ Sm bx b_)) : Calls Try.prog 14 #[vec ax ay, vec bx b_] w fun e w' => e = .returned (vec (subV ax ay bx b_).1 (subV ax ay bx b_).2) ∧ Below w.heap.size w w' := by
  have E := Lib.hid (show subV ax ay bx b_ = (0, 0) from if_neg hc)
  by_cases hv : Sm ax ay
  · have hn : ¬ Sm bx b_ := fun hn => hc ⟨hv, hn⟩
    clear hc
    go_enter Try.func14, Try.ntmps14
    go_wp2_with fail
    refine (vsmall_t _ _ _ hv).mono ?_
    rintro e w1 ⟨rfl, hw1⟩
    have B1 : Blk w1 (w.heap.size + 1) #[.int .i64 bx, .int .i64 b_] := ((blk_new (by simp)).alloc _).kept hw1
    have R1 : Blk w1 (w.heap.size + 1 + 1) #[.int .i64 0, .int .i64 0] := (blk_new (by simp)).kept hw1
    have q1 := in3 hw1
    obtain ⟨n0, n1⟩ := Blk2 B1
    clear hw1
    go_wp2_with fail
    refine (vsmall_f _ _ _ hn).mono ?_
    rintro e w2 ⟨rfl, hw2⟩
    have R2 := R1.kept hw2
    have q2 := next q1 hw2
    clear hw2 B1 R1 n0 n1 q1
    obtain ⟨r0, r1⟩ := Blk2 R2
    obtain ⟨f0, f1⟩ := Blk2f R2
    go_wp2_with fail
    refine bodyPost_ret (blk_res rfl _ rfl (blk_set2 R2) Try.underlying23 rfl (by rfl)) rfl ⟨by rw [E.out], (q2.setCell (by dsimp only; omega) _).setCell (by dsimp only; omega) _⟩
  · clear hc
    go_enter Try.func14, Try.ntmps14
    go_wp2_with fail
    refine (vsmall_f _ _ _ hv).mono ?_
    rintro e w2 ⟨rfl, hw1⟩
    have R2 : Blk w2 (w.heap.size + 1 + 1) #[.int .i64 0, .int .i64 0] := (blk_new (by simp)).kept hw1
    have q2 := in3 hw1
    clear hw1
    obtain ⟨r0, r1⟩ := Blk2 R2
    obtain ⟨f0, f1⟩ := Blk2f R2
    go_wp2_with fail
    refine bodyPost_ret (blk_res rfl _ rfl (blk_set2 R2) Try.underlying23 rfl (by rfl)) rfl ⟨by rw [E.out], (q2.setCell (by dsimp only; omega) _).setCell (by dsimp only; omega) _⟩
theorem vsub_any (ax ay bx b_ : Int) (w : World) : Calls Try.prog 14 #[vec ax ay, vec bx b_] w fun e w' => e = .returned (vec (subV ax ay bx b_).1 (subV ax ay bx b_).2) ∧ Below w.heap.size w w' := by
  by_cases h : Sm ax ay ∧ Sm bx b_
  · exact vsub_t ax ay bx b_ w h.1 h.2
  · exact vsub_f ax ay bx b_ w h
set_option maxHeartbeats 1000000 in
theorem rsub_t (ax ay bx b_ : Int) (w : World) (ha : Sm ax ay) (hb : Sm bx b_) : Calls Try.prog 15 #[vec ax ay, vec bx b_] w fun e w' => e = .returned (vec (subV ax ay bx b_).1 (subV ax ay bx b_).2) ∧ Below w.heap.size w w' := by
  have E := Lib.hid (show subV ax ay bx b_ = kp (ax - bx) (ay - b_) from if_pos ⟨ha, hb⟩)
  have a1 := ha.a; have a2 := ha.b; have a3 := ha.c; have a4 := ha.d
  have b1 := hb.a; have b2 := hb.b; have b3 := hb.c; have b4 := hb.d
  go_enter Try.func15, Try.ntmps15
  go_wp2_with fail
  refine (rsmall_t _ _ _ ha).mono ?_
  rintro e w1 ⟨rfl, hw1⟩
  have A1 : Blk w1 w.heap.size #[.int .i64 ax, .int .i64 ay] := (((blk_new rfl).alloc _).alloc _).kept hw1
  have B1 : Blk w1 (w.heap.size + 1) #[.int .i64 bx, .int .i64 b_] := ((blk_new (by simp)).alloc _).kept hw1
  have R1 : Blk w1 (w.heap.size + 1 + 1) #[.int .i64 0, .int .i64 0] := (blk_new (by simp)).kept hw1
  have q1 := in3 hw1
  obtain ⟨n0, n1⟩ := Blk2 B1
  clear hw1
  go_wp2_with fail
  refine (rsmall_t _ _ _ hb).mono ?_
  rintro e w2 ⟨rfl, hw2⟩
  have A2 := A1.kept hw2
  have B2 := B1.kept hw2
  have R2 := R1.kept hw2
  have q2 := next q1 hw2
  clear hw2 A1 B1 R1 n0 n1 q1
  obtain ⟨m0, m1⟩ := Blk2 A2
  obtain ⟨n0, n1⟩ := Blk2 B2
  go_wp2_with fail
  refine (rkept_any _ _ _).mono ?_
  rintro e w3 ⟨rfl, hw3⟩
  have R3 := R2.kept hw3
  have q3 := next q2 hw3
  clear hw3 A2 B2 R2 n0 n1 m0 m1 q2
  obtain ⟨r0, r1⟩ := Blk2 R3
  obtain ⟨f0, f1⟩ := Blk2f R3
  go_wp2_with fail
  refine bodyPost_ret (blk_res rfl _ rfl (blk_set2 R3) Try.underlying23 rfl (by rfl)) rfl ⟨by rw [E.out], (q3.setCell (by dsimp only; omega) _).setCell (by dsimp only; omega) _⟩
set_option maxHeartbeats 1000000 in
theorem rsub_f (ax ay bx b_ : Int) (w : World) (hc : ¬ (Sm ax ay ∧ Sm bx b_)) : Calls Try.prog 15 #[vec ax ay, vec bx b_] w fun e w' => e = .returned (vec (subV ax ay bx b_).1 (subV ax ay bx b_).2) ∧ Below w.heap.size w w' := by
  have E := Lib.hid (show subV ax ay bx b_ = (0, 0) from if_neg hc)
  by_cases hv : Sm ax ay
  · have hn : ¬ Sm bx b_ := fun hn => hc ⟨hv, hn⟩
    clear hc
    go_enter Try.func15, Try.ntmps15
    go_wp2_with fail
    refine (rsmall_t _ _ _ hv).mono ?_
    rintro e w1 ⟨rfl, hw1⟩
    have B1 : Blk w1 (w.heap.size + 1) #[.int .i64 bx, .int .i64 b_] := ((blk_new (by simp)).alloc _).kept hw1
    have R1 : Blk w1 (w.heap.size + 1 + 1) #[.int .i64 0, .int .i64 0] := (blk_new (by simp)).kept hw1
    have q1 := in3 hw1
    obtain ⟨n0, n1⟩ := Blk2 B1
    clear hw1
    go_wp2_with fail
    refine (rsmall_f _ _ _ hn).mono ?_
    rintro e w2 ⟨rfl, hw2⟩
    have R2 := R1.kept hw2
    have q2 := next q1 hw2
    clear hw2 B1 R1 n0 n1 q1
    obtain ⟨r0, r1⟩ := Blk2 R2
    obtain ⟨f0, f1⟩ := Blk2f R2
    go_wp2_with fail
    refine bodyPost_ret (blk_res rfl _ rfl (blk_set2 R2) Try.underlying23 rfl (by rfl)) rfl ⟨by rw [E.out], (q2.setCell (by dsimp only; omega) _).setCell (by dsimp only; omega) _⟩
  · clear hc
    go_enter Try.func15, Try.ntmps15
    go_wp2_with fail
    refine (rsmall_f _ _ _ hv).mono ?_
    rintro e w2 ⟨rfl, hw1⟩
    have R2 : Blk w2 (w.heap.size + 1 + 1) #[.int .i64 0, .int .i64 0] := (blk_new (by simp)).kept hw1
    have q2 := in3 hw1
    clear hw1
    obtain ⟨r0, r1⟩ := Blk2 R2
    obtain ⟨f0, f1⟩ := Blk2f R2
    go_wp2_with fail
    refine bodyPost_ret (blk_res rfl _ rfl (blk_set2 R2) Try.underlying23 rfl (by rfl)) rfl ⟨by rw [E.out], (q2.setCell (by dsimp only; omega) _).setCell (by dsimp only; omega) _⟩
theorem rsub_any (ax ay bx b_ : Int) (w : World) : Calls Try.prog 15 #[vec ax ay, vec bx b_] w fun e w' => e = .returned (vec (subV ax ay bx b_).1 (subV ax ay bx b_).2) ∧ Below w.heap.size w w' := by
  by_cases h : Sm ax ay ∧ Sm bx b_
  · exact rsub_t ax ay bx b_ w h.1 h.2
  · exact rsub_f ax ay bx b_ w h
theorem vperp_t (x y : Int) (w : World) (h : Sm x y) : Calls Try.prog 22 #[vec x y] w fun e w' => e = .returned (vec (perpV x y).1 (perpV x y).2) ∧ Below w.heap.size w w' := by
  have E := Lib.hid (show perpV x y = (-y, x) from if_pos h)
  have b1 := h.a; have b2 := h.b; have b3 := h.c; have b4 := h.d
  go_enter Try.func22, Try.ntmps22
  go_wp2_with fail
  refine (vsmall_t _ _ _ h).mono ?_
  rintro e w1 ⟨rfl, hw1⟩
  have V1 := blk_prev hw1
  have R1 := blk_last2 hw1
  have q1 := in2 hw1
  obtain ⟨a0, a1⟩ := Blk2 V1
  obtain ⟨r0, r1⟩ := Blk2 R1
  obtain ⟨f0, f1⟩ := Blk2f R1
  clear hw1
  go_wp2_with fail
  refine bodyPost_ret (blk_res rfl _ rfl (blk_set2 R1) Try.underlying23 rfl (by rfl)) rfl ⟨by rw [E.out], (q1.setCell (by dsimp only; omega) _).setCell (by dsimp only; omega) _⟩
theorem vperp_f (x y : Int) (w : World) (h : ¬ Sm x y) : Calls Try.prog 22 #[vec x y] w fun e w' => e = .returned (vec (perpV x y).1 (perpV x y).2) ∧ Below w.heap.size w w' := by
  have E := Lib.hid (show perpV x y = (0, 0) from if_neg h)
  go_enter Try.func22, Try.ntmps22
  go_wp2_with fail
  refine (vsmall_f _ _ _ h).mono ?_
  rintro e w1 ⟨rfl, hw1⟩
  have V1 := blk_prev hw1
  have R1 := blk_last2 hw1
  have q1 := in2 hw1
  obtain ⟨a0, a1⟩ := Blk2 V1
  obtain ⟨r0, r1⟩ := Blk2 R1
  obtain ⟨f0, f1⟩ := Blk2f R1
  clear hw1
  go_wp2_with fail
  refine bodyPost_ret (blk_res rfl _ rfl (blk_set2 R1) Try.underlying23 rfl (by rfl)) rfl ⟨by rw [E.out], (q1.setCell (by dsimp only; omega) _).setCell (by dsimp only; omega) _⟩
theorem vperp_any (x y : Int) (w : World) : Calls Try.prog 22 #[vec x y] w fun e w' => e = .returned (vec (perpV x y).1 (perpV x y).2) ∧ Below w.heap.size w w' := by
  by_cases h : Sm x y
  · exact vperp_t x y w h
  · exact vperp_f x y w h
theorem rperp_t (x y : Int) (w : World) (h : Sm x y) : Calls Try.prog 23 #[vec x y] w fun e w' => e = .returned (vec (perpV x y).1 (perpV x y).2) ∧ Below w.heap.size w w' := by
  have E := Lib.hid (show perpV x y = (-y, x) from if_pos h)
  have b1 := h.a; have b2 := h.b; have b3 := h.c; have b4 := h.d
  go_enter Try.func23, Try.ntmps23
  go_wp2_with fail
  refine (rsmall_t _ _ _ h).mono ?_
  rintro e w1 ⟨rfl, hw1⟩
  have V1 := blk_prev hw1
  have R1 := blk_last2 hw1
  have q1 := in2 hw1
  obtain ⟨a0, a1⟩ := Blk2 V1
  obtain ⟨r0, r1⟩ := Blk2 R1
  obtain ⟨f0, f1⟩ := Blk2f R1
  clear hw1
  go_wp2_with fail
  refine bodyPost_ret (blk_res rfl _ rfl (blk_set2 R1) Try.underlying23 rfl (by rfl)) rfl ⟨by rw [E.out], (q1.setCell (by dsimp only; omega) _).setCell (by dsimp only; omega) _⟩
theorem rperp_f (x y : Int) (w : World) (h : ¬ Sm x y) : Calls Try.prog 23 #[vec x y] w fun e w' => e = .returned (vec (perpV x y).1 (perpV x y).2) ∧ Below w.heap.size w w' := by
  have E := Lib.hid (show perpV x y = (0, 0) from if_neg h)
  go_enter Try.func23, Try.ntmps23
  go_wp2_with fail
  refine (rsmall_f _ _ _ h).mono ?_
  rintro e w1 ⟨rfl, hw1⟩
  have V1 := blk_prev hw1
  have R1 := blk_last2 hw1
  have q1 := in2 hw1
  obtain ⟨a0, a1⟩ := Blk2 V1
  obtain ⟨r0, r1⟩ := Blk2 R1
  obtain ⟨f0, f1⟩ := Blk2f R1
  clear hw1
  go_wp2_with fail
  refine bodyPost_ret (blk_res rfl _ rfl (blk_set2 R1) Try.underlying23 rfl (by rfl)) rfl ⟨by rw [E.out], (q1.setCell (by dsimp only; omega) _).setCell (by dsimp only; omega) _⟩
theorem rperp_any (x y : Int) (w : World) : Calls Try.prog 23 #[vec x y] w fun e w' => e = .returned (vec (perpV x y).1 (perpV x y).2) ∧ Below w.heap.size w w' := by
  by_cases h : Sm x y
  · exact rperp_t x y w h
  · exact rperp_f x y w h
end Go.Proofs.Ytejodcpigfbnpaa

/-
  Turn of the reference, and flip.
-/
import Derived.Test.YtejodcpigfbnpaaVTurn
namespace VB
/-- The negation of an int. -/
def ngI (x : Int) : Int := if x = -9223372036854775808 then x else -x
theorem ng_of {x : Int} (h : x ≠ -9223372036854775808) : ngI x = -x := if_neg h
theorem ng_sm {x y : Int} : Sm (ngI x) y ↔ Sm x y := by
  by_cases h : x = -9223372036854775808
  · unfold ngI; rw [if_pos h]
  · rw [ng_of h]
    exact ⟨fun ⟨a, b, c, d⟩ => ⟨by omega, by omega, c, d⟩, fun ⟨a, b, c, d⟩ => ⟨by omega, by omega, c, d⟩⟩
end VB
namespace Go.Proofs.Ytejodcpigfbnpaa
open Go.RowKit PB VB
set_option maxRecDepth 100000 in
set_option maxHeartbeats 1000000 in
theorem rturn_pos (vx vy nx ny : Int) (w : World) (hv : Sm vx vy) (hn : Sm nx ny) (hc : 0 < crossI nx ny vx vy) :
    Calls Try.prog 38 #[vec vx vy, vec nx ny] w fun e w' => e = .returned (.tuple #[vec (tX vx vy nx ny) (tY vx vy nx ny), .bool (tB vx vy nx ny)]) ∧ Below w.heap.size w w' := by
  obtain ⟨e1, e2, e3⟩ := tv_pos hv hn hc
  have E1 := Lib.hid e1; have E2 := Lib.hid e2; have E3 := Lib.hid e3
  have ha := hv.a; have hb := hv.b; have hd := hv.c; have he := hv.d
  clear e1 e2 e3
  have H := fun w => rcross_t nx ny vx vy w hn hv
  go_enter Try.func38, Try.ntmps38
  go_wp2_with fail
  refine (rsmall_t _ _ _ hv).mono ?_
  rintro e w1 ⟨rfl, hw1⟩
  have V1 : Blk w1 w.heap.size #[.int .i64 vx, .int .i64 vy] := (((blk_new rfl).alloc _).alloc _).kept hw1
  have N1 : Blk w1 (w.heap.size + 1) #[.int .i64 nx, .int .i64 ny] := ((blk_new (by simp)).alloc _).kept hw1
  have R1 : Blk w1 (w.heap.size + 1 + 1) #[.int .i64 0, .int .i64 0] := (blk_new (by simp)).kept hw1
  have q1 := in3 hw1
  obtain ⟨n0, n1⟩ := Blk2 N1
  clear hw1
  go_wp2_with fail
  refine (rsmall_t _ _ _ hn).mono ?_
  rintro e w2 ⟨rfl, hw2⟩
  have V2 := V1.kept hw2
  have N2 := N1.kept hw2
  have R2 := R1.kept hw2
  have q2 := next q1 hw2
  clear hw2 V1 N1 R1 n0 n1 q1
  obtain ⟨a0, a1⟩ := Blk2 V2
  obtain ⟨n0, n1⟩ := Blk2 N2
  go_wp2_with fail
  refine (H _).mono ?_
  rintro e w3 ⟨rfl, hw3⟩
  have V3 := V2.kept hw3
  have R3 := R2.kept hw3
  have q3 := next q2 hw3
  clear hw3 V2 N2 R2 n0 n1 a0 a1 q2
  obtain ⟨a0, a1⟩ := Blk2 V3
  obtain ⟨r0, r1⟩ := Blk2 R3
  obtain ⟨f0, f1⟩ := Blk2f R3
  go_wp2_with fail
  refine bodyPost_ret (blk_res_tmp rfl _ rfl (blk_set2 R3) Try.underlying23 rfl (by rfl)) rfl ?_
  exact vret E1.out.symm E2.out.symm E3.out.symm ((q3.setCell (by dsimp only; omega) _).setCell (by dsimp only; omega) _)
set_option maxRecDepth 100000 in
set_option maxHeartbeats 1000000 in
theorem rturn_neg (vx vy nx ny : Int) (w : World) (hv : Sm vx vy) (hn : Sm nx ny) (hc : crossI nx ny vx vy < 0) :
    Calls Try.prog 38 #[vec vx vy, vec nx ny] w fun e w' => e = .returned (.tuple #[vec (tX vx vy nx ny) (tY vx vy nx ny), .bool (tB vx vy nx ny)]) ∧ Below w.heap.size w w' := by
  obtain ⟨e1, e2, e3⟩ := tv_neg hv hn hc
  have E1 := Lib.hid e1; have E2 := Lib.hid e2; have E3 := Lib.hid e3
  have ha := hv.a; have hb := hv.b; have hd := hv.c; have he := hv.d
  clear e1 e2 e3
  have H := fun w => rcross_t nx ny vx vy w hn hv
  go_enter Try.func38, Try.ntmps38
  go_wp2_with fail
  refine (rsmall_t _ _ _ hv).mono ?_
  rintro e w1 ⟨rfl, hw1⟩
  have V1 : Blk w1 w.heap.size #[.int .i64 vx, .int .i64 vy] := (((blk_new rfl).alloc _).alloc _).kept hw1
  have N1 : Blk w1 (w.heap.size + 1) #[.int .i64 nx, .int .i64 ny] := ((blk_new (by simp)).alloc _).kept hw1
  have R1 : Blk w1 (w.heap.size + 1 + 1) #[.int .i64 0, .int .i64 0] := (blk_new (by simp)).kept hw1
  have q1 := in3 hw1
  obtain ⟨n0, n1⟩ := Blk2 N1
  clear hw1
  go_wp2_with fail
  refine (rsmall_t _ _ _ hn).mono ?_
  rintro e w2 ⟨rfl, hw2⟩
  have V2 := V1.kept hw2
  have N2 := N1.kept hw2
  have R2 := R1.kept hw2
  have q2 := next q1 hw2
  clear hw2 V1 N1 R1 n0 n1 q1
  obtain ⟨a0, a1⟩ := Blk2 V2
  obtain ⟨n0, n1⟩ := Blk2 N2
  go_wp2_with fail
  refine (H _).mono ?_
  rintro e w3 ⟨rfl, hw3⟩
  have V3 := V2.kept hw3
  have R3 := R2.kept hw3
  have q3 := next q2 hw3
  clear hw3 V2 N2 R2 n0 n1 a0 a1 q2
  obtain ⟨a0, a1⟩ := Blk2 V3
  obtain ⟨r0, r1⟩ := Blk2 R3
  obtain ⟨f0, f1⟩ := Blk2f R3
  go_wp2_with fail
  refine bodyPost_ret (blk_res_tmp rfl _ rfl (blk_set2 R3) Try.underlying23 rfl (by rfl)) rfl ?_
  exact vret E1.out.symm E2.out.symm E3.out.symm ((q3.setCell (by dsimp only; omega) _).setCell (by dsimp only; omega) _)
set_option maxRecDepth 100000 in
set_option maxHeartbeats 1000000 in
theorem rturn_zero (vx vy nx ny : Int) (w : World) (hv : Sm vx vy) (hn : Sm nx ny) (hc : crossI nx ny vx vy = 0) :
    Calls Try.prog 38 #[vec vx vy, vec nx ny] w fun e w' => e = .returned (.tuple #[vec (tX vx vy nx ny) (tY vx vy nx ny), .bool (tB vx vy nx ny)]) ∧ Below w.heap.size w w' := by
  obtain ⟨e1, e2, e3⟩ := tv_nil (Or.inr hc)
  have E1 := Lib.hid e1; have E2 := Lib.hid e2; have E3 := Lib.hid e3
  have ha := hv.a; have hb := hv.b; have hd := hv.c; have he := hv.d
  clear e1 e2 e3
  have H : ∀ w, Calls Try.prog 21 #[vec nx ny, vec vx vy] w fun e w' => e = .returned (.int .i64 0) ∧ Below w.heap.size w w' := fun w => by have := rcross_t nx ny vx vy w hn hv; rwa [hc] at this
  clear hc
  go_enter Try.func38, Try.ntmps38
  go_wp2_with fail
  refine (rsmall_t _ _ _ hv).mono ?_
  rintro e w1 ⟨rfl, hw1⟩
  have V1 : Blk w1 w.heap.size #[.int .i64 vx, .int .i64 vy] := (((blk_new rfl).alloc _).alloc _).kept hw1
  have N1 : Blk w1 (w.heap.size + 1) #[.int .i64 nx, .int .i64 ny] := ((blk_new (by simp)).alloc _).kept hw1
  have R1 : Blk w1 (w.heap.size + 1 + 1) #[.int .i64 0, .int .i64 0] := (blk_new (by simp)).kept hw1
  have q1 := in3 hw1
  obtain ⟨n0, n1⟩ := Blk2 N1
  clear hw1
  go_wp2_with fail
  refine (rsmall_t _ _ _ hn).mono ?_
  rintro e w2 ⟨rfl, hw2⟩
  have V2 := V1.kept hw2
  have N2 := N1.kept hw2
  have R2 := R1.kept hw2
  have q2 := next q1 hw2
  clear hw2 V1 N1 R1 n0 n1 q1
  obtain ⟨a0, a1⟩ := Blk2 V2
  obtain ⟨n0, n1⟩ := Blk2 N2
  go_wp2_with fail
  refine (H _).mono ?_
  rintro e w3 ⟨rfl, hw3⟩
  have V3 := V2.kept hw3
  have R3 := R2.kept hw3
  have q3 := next q2 hw3
  clear hw3 V2 N2 R2 n0 n1 a0 a1 q2
  obtain ⟨a0, a1⟩ := Blk2 V3
  obtain ⟨r0, r1⟩ := Blk2 R3
  obtain ⟨f0, f1⟩ := Blk2f R3
  go_wp2_with fail
  refine bodyPost_ret (blk_res_tmp rfl _ rfl (blk_set2 R3) Try.underlying23 rfl (by rfl)) rfl ?_
  exact vret E1.out.symm E2.out.symm E3.out.symm ((q3.setCell (by dsimp only; omega) _).setCell (by dsimp only; omega) _)
set_option maxRecDepth 100000 in
set_option maxHeartbeats 1000000 in
theorem rturn_not (vx vy nx ny : Int) (w : World) (hc : ¬ (Sm vx vy ∧ Sm nx ny)) :
    Calls Try.prog 38 #[vec vx vy, vec nx ny] w fun e w' => e = .returned (.tuple #[vec (tX vx vy nx ny) (tY vx vy nx ny), .bool (tB vx vy nx ny)]) ∧ Below w.heap.size w w' := by
  obtain ⟨e1, e2, e3⟩ := tv_nil (Or.inl hc)
  have E1 := Lib.hid e1; have E2 := Lib.hid e2; have E3 := Lib.hid e3
  clear e1 e2 e3
  by_cases hv : Sm vx vy
  · have hn : ¬ Sm nx ny := fun hn => hc ⟨hv, hn⟩
    clear hc
    go_enter Try.func38, Try.ntmps38
    go_wp2_with fail
    refine (rsmall_t _ _ _ hv).mono ?_
    rintro e w1 ⟨rfl, hw1⟩
    have N1 : Blk w1 (w.heap.size + 1) #[.int .i64 nx, .int .i64 ny] := ((blk_new (by simp)).alloc _).kept hw1
    have R1 : Blk w1 (w.heap.size + 1 + 1) #[.int .i64 0, .int .i64 0] := (blk_new (by simp)).kept hw1
    have q1 := in3 hw1
    obtain ⟨n0, n1⟩ := Blk2 N1
    clear hw1
    go_wp2_with fail
    refine (rsmall_f _ _ _ hn).mono ?_
    rintro e w2 ⟨rfl, hw2⟩
    have R2 := R1.kept hw2
    have q2 := next q1 hw2
    clear hw2 N1 R1 n0 n1 q1
    obtain ⟨r0, r1⟩ := Blk2 R2
    obtain ⟨f0, f1⟩ := Blk2f R2
    go_wp2_with fail
    refine bodyPost_ret (blk_res_tmp rfl _ rfl (blk_set2 R2) Try.underlying23 rfl (by rfl)) rfl ?_
    exact vret E1.out.symm E2.out.symm E3.out.symm ((q2.setCell (by dsimp only; omega) _).setCell (by dsimp only; omega) _)
  · clear hc
    go_enter Try.func38, Try.ntmps38
    go_wp2_with fail
    refine (rsmall_f _ _ _ hv).mono ?_
    rintro e w2 ⟨rfl, hw1⟩
    have R2 : Blk w2 (w.heap.size + 1 + 1) #[.int .i64 0, .int .i64 0] := (blk_new (by simp)).kept hw1
    have q2 := in3 hw1
    clear hw1
    obtain ⟨r0, r1⟩ := Blk2 R2
    obtain ⟨f0, f1⟩ := Blk2f R2
    go_wp2_with fail
    refine bodyPost_ret (blk_res_tmp rfl _ rfl (blk_set2 R2) Try.underlying23 rfl (by rfl)) rfl ?_
    exact vret E1.out.symm E2.out.symm E3.out.symm ((q2.setCell (by dsimp only; omega) _).setCell (by dsimp only; omega) _)
set_option maxRecDepth 100000 in
theorem rturn_any (vx vy nx ny : Int) (w : World) :
    Calls Try.prog 38 #[vec vx vy, vec nx ny] w fun e w' => e = .returned (.tuple #[vec (tX vx vy nx ny) (tY vx vy nx ny), .bool (tB vx vy nx ny)]) ∧ Below w.heap.size w w' := by
  by_cases hs : Sm vx vy ∧ Sm nx ny
  · rcases Int.lt_trichotomy (crossI nx ny vx vy) 0 with h | h | h
    · exact rturn_neg vx vy nx ny w hs.1 hs.2 h
    · exact rturn_zero vx vy nx ny w hs.1 hs.2 h
    · exact rturn_pos vx vy nx ny w hs.1 hs.2 h
  · exact rturn_not vx vy nx ny w hs
set_option maxRecDepth 100000 in
theorem vecret {a b c d : Int} {w w' : World} (h1 : a = b) (h2 : c = d) (hb : Below w.heap.size w w') : Ending.returned (vec a c) = Ending.returned (vec b d) ∧ Below w.heap.size w w' := ⟨by rw [h1, h2], hb⟩
set_option maxRecDepth 100000 in
theorem flip_any (x y : Int) (w : World) (h1 : -9223372036854775808 ≤ x) (h2 : x ≤ 9223372036854775807) :
    Calls Try.prog 34 #[vec x y] w fun e w' => e = .returned (vec (ngI x) y) ∧ Below w.heap.size w w' := by
  by_cases h : x = -9223372036854775808
  · subst h
    have E := Lib.hid (show ngI (-9223372036854775808) = wrap64 9223372036854775808 by unfold ngI wrap64; rfl)
    go_enter Try.func34, Try.ntmps34
    go_wp2_with fail
    refine bodyPost_ret (blk_res rfl _ rfl (blk_new (by simp)) Try.underlying23 rfl (by rfl)) rfl ?_
    exact vecret E.out.symm rfl (((Below.refl _ _).alloc (Nat.le_refl _) _).alloc (by simp) _)
  · have E := Lib.hid (ng_of h)
    have h3 : -9223372036854775808 < x := by omega
    clear h h1
    go_enter Try.func34, Try.ntmps34
    go_wp2_with fail
    refine bodyPost_ret (blk_res rfl _ rfl (blk_new (by simp)) Try.underlying23 rfl (by rfl)) rfl ?_
    exact vecret E.out.symm rfl (((Below.refl _ _).alloc (Nat.le_refl _) _).alloc (by simp) _)
end Go.Proofs.Ytejodcpigfbnpaa

/-
  Turn of both sides, and flip.
  Turn of the reference, and flip.
  Root of both sides.
-/
import Derived.Lib.ItoaNum
import Derived.Lib.BitFns
import Derived.Test.YtdgfmkideghhaaaM03
import Derived.Test.YtdgfmkideghhaaaM10
namespace VB
open Go Go.RowKit PB
/-- The sign of the turn. -/
def tX (vx vy nx ny : Int) : Int := if Sm vx vy ∧ Sm nx ny then if 0 < crossI nx ny vx vy then (255 * vx + 32 * vy).tdiv 257 else if crossI nx ny vx vy < 0 then (255 * vx - 32 * vy).tdiv 257 else 0 else 0
def tY (vx vy nx ny : Int) : Int := if Sm vx vy ∧ Sm nx ny then if 0 < crossI nx ny vx vy then (255 * vy - 32 * vx).tdiv 257 else if crossI nx ny vx vy < 0 then (32 * vx + 255 * vy).tdiv 257 else 0 else 0
def tB (vx vy nx ny : Int) : Bool := decide ((Sm vx vy ∧ Sm nx ny) ∧ crossI nx ny vx vy ≠ 0)
end VB
namespace Go.Proofs.Ytdgfmkideghhaaa
open Go.RowKit PB VB
set_option maxRecDepth 100000 in
theorem vret {a b c d : Int} {s t : Bool} {w w' : World} (h1 : a = b) (h2 : c = d) (h3 : s = t) (hb : Below w.heap.size w w') : Ending.returned (.tuple #[vec a c, .bool s]) = Ending.returned (.tuple #[vec b d, .bool t]) ∧ Below w.heap.size w w' := ⟨by rw [h1, h2, h3], hb⟩
set_option maxRecDepth 100000 in
theorem tv_pos {vx vy nx ny : Int} (hv : Sm vx vy) (hn : Sm nx ny) (hc : 0 < crossI nx ny vx vy) : tX vx vy nx ny = (255 * vx + 32 * vy).tdiv 257 ∧ tY vx vy nx ny = (255 * vy - 32 * vx).tdiv 257 ∧ tB vx vy nx ny = true := by
  unfold tX tY tB
  rw [if_pos ⟨hv, hn⟩, if_pos hc, if_pos ⟨hv, hn⟩, if_pos hc]
  exact ⟨rfl, rfl, decide_eq_true ⟨⟨hv, hn⟩, by omega⟩⟩
set_option maxRecDepth 100000 in
theorem tv_neg {vx vy nx ny : Int} (hv : Sm vx vy) (hn : Sm nx ny) (hc : crossI nx ny vx vy < 0) : tX vx vy nx ny = (255 * vx - 32 * vy).tdiv 257 ∧ tY vx vy nx ny = (32 * vx + 255 * vy).tdiv 257 ∧ tB vx vy nx ny = true := by
  unfold tX tY tB
  rw [if_pos ⟨hv, hn⟩, if_neg (by omega), if_pos hc, if_pos ⟨hv, hn⟩, if_neg (by omega), if_pos hc]
  exact ⟨rfl, rfl, decide_eq_true ⟨⟨hv, hn⟩, by omega⟩⟩
set_option maxRecDepth 100000 in
theorem tv_nil {vx vy nx ny : Int} (hc : ¬ (Sm vx vy ∧ Sm nx ny) ∨ crossI nx ny vx vy = 0) : tX vx vy nx ny = 0 ∧ tY vx vy nx ny = 0 ∧ tB vx vy nx ny = false := by
  unfold tX tY tB
  by_cases h : Sm vx vy ∧ Sm nx ny
  · have h0 : crossI nx ny vx vy = 0 := hc.resolve_left (fun k => k h)
    rw [if_pos h, if_neg (by omega), if_neg (by omega), if_pos h, if_neg (by omega), if_neg (by omega)]
    exact ⟨rfl, rfl, decide_eq_false fun k => k.2 h0⟩
  · rw [if_neg h, if_neg h]
    exact ⟨rfl, rfl, decide_eq_false fun k => h k.1⟩
set_option maxRecDepth 100000 in
set_option maxHeartbeats 1000000 in
theorem vturn_pos (vx vy nx ny : Int) (w : World) (hv : Sm vx vy) (hn : Sm nx ny) (hc : 0 < crossI nx ny vx vy) :
    Calls Try.prog 66 #[vec vx vy, vec nx ny] w fun e w' => e = .returned (.tuple #[vec (tX vx vy nx ny) (tY vx vy nx ny), .bool (tB vx vy nx ny)]) ∧ Below w.heap.size w w' := by
  obtain ⟨e1, e2, e3⟩ := tv_pos hv hn hc
  have E1 := Lib.hid e1; have E2 := Lib.hid e2; have E3 := Lib.hid e3
  have k1 : (crossI nx ny vx vy == 0) = false := by simp; omega
  have ha := hv.a; have hb := hv.b; have hd := hv.c; have he := hv.d
  clear e1 e2 e3
  go_enter Try.func66, Try.ntmps66
  go_wp2_with fail
  refine (vcross_t _ _ _ _ _ hn hv).mono ?_
  rintro e w1 ⟨rfl, hw1⟩
  have V1 : Blk w1 w.heap.size #[.int .i64 vx, .int .i64 vy] := (((blk_new rfl).alloc _).alloc _).kept hw1
  have R1 : Blk w1 (w.heap.size + 1 + 1) #[.int .i64 0, .int .i64 0] := (blk_new (by simp)).kept hw1
  have q1 := in3 hw1
  obtain ⟨a0, a1⟩ := Blk2 V1
  obtain ⟨r0, r1⟩ := Blk2 R1
  obtain ⟨f0, f1⟩ := Blk2f R1
  clear hw1
  go_wp2_with fail
  refine bodyPost_ret (blk_res_tmp rfl _ rfl (blk_set2 R1) Try.underlying41 rfl (by rfl)) rfl ?_
  refine vret ?_ ?_ E3.out.symm ?_
  · rw [E1.out, show 255 * vx - -32 * vy = 255 * vx + 32 * vy by omega]
  · rw [E2.out, show -32 * vx + 255 * vy = 255 * vy - 32 * vx by omega]
  · exact (q1.setCell (by dsimp only; omega) _).setCell (by dsimp only; omega) _
set_option maxRecDepth 100000 in
set_option maxHeartbeats 1000000 in
theorem vturn_neg (vx vy nx ny : Int) (w : World) (hv : Sm vx vy) (hn : Sm nx ny) (hc : crossI nx ny vx vy < 0) :
    Calls Try.prog 66 #[vec vx vy, vec nx ny] w fun e w' => e = .returned (.tuple #[vec (tX vx vy nx ny) (tY vx vy nx ny), .bool (tB vx vy nx ny)]) ∧ Below w.heap.size w w' := by
  obtain ⟨e1, e2, e3⟩ := tv_neg hv hn hc
  have E1 := Lib.hid e1; have E2 := Lib.hid e2; have E3 := Lib.hid e3
  have k1 : (crossI nx ny vx vy == 0) = false := by simp; omega
  have ha := hv.a; have hb := hv.b; have hd := hv.c; have he := hv.d
  clear e1 e2 e3
  go_enter Try.func66, Try.ntmps66
  go_wp2_with fail
  refine (vcross_t _ _ _ _ _ hn hv).mono ?_
  rintro e w1 ⟨rfl, hw1⟩
  have V1 : Blk w1 w.heap.size #[.int .i64 vx, .int .i64 vy] := (((blk_new rfl).alloc _).alloc _).kept hw1
  have R1 : Blk w1 (w.heap.size + 1 + 1) #[.int .i64 0, .int .i64 0] := (blk_new (by simp)).kept hw1
  have q1 := in3 hw1
  obtain ⟨a0, a1⟩ := Blk2 V1
  obtain ⟨r0, r1⟩ := Blk2 R1
  obtain ⟨f0, f1⟩ := Blk2f R1
  clear hw1
  go_wp2_with fail
  refine bodyPost_ret (blk_res_tmp rfl _ rfl (blk_set2 R1) Try.underlying41 rfl (by rfl)) rfl ?_
  exact vret E1.out.symm E2.out.symm E3.out.symm ((q1.setCell (by dsimp only; omega) _).setCell (by dsimp only; omega) _)
set_option maxRecDepth 100000 in
theorem vcross_zero (ax ay bx b_ : Int) (w : World) (h : ¬ (Sm ax ay ∧ Sm bx b_) ∨ crossI ax ay bx b_ = 0) : Calls Try.prog 49 #[vec ax ay, vec bx b_] w fun e w' => e = .returned (.int .i64 0) ∧ Below w.heap.size w w' := by
  by_cases hs : Sm ax ay ∧ Sm bx b_
  · have := vcross_t ax ay bx b_ w hs.1 hs.2
    rwa [h.resolve_left (fun k => k hs)] at this
  · exact vcross_f ax ay bx b_ w hs
set_option maxRecDepth 100000 in
theorem sm_swap {ax ay bx b_ : Int} (h : ¬ (Sm ax ay ∧ Sm bx b_)) : ¬ (Sm bx b_ ∧ Sm ax ay) := fun k => h ⟨k.2, k.1⟩
set_option maxRecDepth 100000 in
set_option maxHeartbeats 1000000 in
theorem vturn_nil (vx vy nx ny : Int) (w : World) (hc : ¬ (Sm vx vy ∧ Sm nx ny) ∨ crossI nx ny vx vy = 0) :
    Calls Try.prog 66 #[vec vx vy, vec nx ny] w fun e w' => e = .returned (.tuple #[vec (tX vx vy nx ny) (tY vx vy nx ny), .bool (tB vx vy nx ny)]) ∧ Below w.heap.size w w' := by
  obtain ⟨e1, e2, e3⟩ := tv_nil hc
  have E1 := Lib.hid e1; have E2 := Lib.hid e2; have E3 := Lib.hid e3
  clear e1 e2 e3
  have H := vcross_zero nx ny vx vy (((w.alloc (Obj.cells #[Value.int IntKind.i64 vx, Value.int IntKind.i64 vy] 41)).alloc (Obj.cells #[Value.int IntKind.i64 nx, Value.int IntKind.i64 ny] 41)).alloc (Obj.cells #[Value.int IntKind.i64 0, Value.int IntKind.i64 0] 41)) (hc.imp sm_swap id)
  clear hc
  go_enter Try.func66, Try.ntmps66
  go_wp2_with fail
  refine H.mono ?_
  rintro e w1 ⟨rfl, hw1⟩
  have R1 : Blk w1 (w.heap.size + 1 + 1) #[.int .i64 0, .int .i64 0] := (blk_new (by simp)).kept hw1
  have q1 := in3 hw1
  obtain ⟨r0, r1⟩ := Blk2 R1
  obtain ⟨f0, f1⟩ := Blk2f R1
  clear hw1
  go_wp2_with fail
  refine bodyPost_ret (blk_res_tmp rfl _ rfl (blk_set2 R1) Try.underlying41 rfl (by rfl)) rfl ?_
  exact vret E1.out.symm E2.out.symm E3.out.symm ((q1.setCell (by dsimp only; omega) _).setCell (by dsimp only; omega) _)
set_option maxRecDepth 100000 in
theorem vturn_any (vx vy nx ny : Int) (w : World) :
    Calls Try.prog 66 #[vec vx vy, vec nx ny] w fun e w' => e = .returned (.tuple #[vec (tX vx vy nx ny) (tY vx vy nx ny), .bool (tB vx vy nx ny)]) ∧ Below w.heap.size w w' := by
  by_cases hs : Sm vx vy ∧ Sm nx ny
  · rcases Int.lt_trichotomy (crossI nx ny vx vy) 0 with h | h | h
    · exact vturn_neg vx vy nx ny w hs.1 hs.2 h
    · exact vturn_nil vx vy nx ny w (Or.inr h)
    · exact vturn_pos vx vy nx ny w hs.1 hs.2 h
  · exact vturn_nil vx vy nx ny w (Or.inl hs)
end Go.Proofs.Ytdgfmkideghhaaa

namespace VB
/-- The negation of an int. -/
def ngI (x : Int) : Int := if x = -9223372036854775808 then x else -x
theorem ng_of {x : Int} (h : x ≠ -9223372036854775808) : ngI x = -x := if_neg h
theorem ng_sm {x y : Int} : Sm (ngI x) y ↔ Sm x y := by
  by_cases h : x = -9223372036854775808
  · unfold ngI; rw [if_pos h]
  · rw [ng_of h]
    exact ⟨fun ⟨a, b, c, d⟩ => ⟨by omega, by omega, c, d⟩, fun ⟨a, b, c, d⟩ => ⟨by omega, by omega, c, d⟩⟩
end VB
namespace Go.Proofs.Ytdgfmkideghhaaa
open Go.RowKit PB VB
set_option maxRecDepth 100000 in
set_option maxHeartbeats 1000000 in
theorem rturn_pos (vx vy nx ny : Int) (w : World) (hv : Sm vx vy) (hn : Sm nx ny) (hc : 0 < crossI nx ny vx vy) :
    Calls Try.prog 67 #[vec vx vy, vec nx ny] w fun e w' => e = .returned (.tuple #[vec (tX vx vy nx ny) (tY vx vy nx ny), .bool (tB vx vy nx ny)]) ∧ Below w.heap.size w w' := by
  obtain ⟨e1, e2, e3⟩ := tv_pos hv hn hc
  have E1 := Lib.hid e1; have E2 := Lib.hid e2; have E3 := Lib.hid e3
  have ha := hv.a; have hb := hv.b; have hd := hv.c; have he := hv.d
  clear e1 e2 e3
  have H := fun w => rcross_t nx ny vx vy w hn hv
  go_enter Try.func67, Try.ntmps67
  go_wp2_with fail
  refine (rsmall_t _ _ _ hv).mono ?_
  rintro e w1 ⟨rfl, hw1⟩
  have V1 : Blk w1 w.heap.size #[.int .i64 vx, .int .i64 vy] := (((blk_new rfl).alloc _).alloc _).kept hw1
  have N1 : Blk w1 (w.heap.size + 1) #[.int .i64 nx, .int .i64 ny] := ((blk_new (by simp)).alloc _).kept hw1
  have R1 : Blk w1 (w.heap.size + 1 + 1) #[.int .i64 0, .int .i64 0] := (blk_new (by simp)).kept hw1
  have q1 := in3 hw1
  obtain ⟨n0, n1⟩ := Blk2 N1
  clear hw1
  go_wp2_with fail
  refine (rsmall_t _ _ _ hn).mono ?_
  rintro e w2 ⟨rfl, hw2⟩
  have V2 := V1.kept hw2
  have N2 := N1.kept hw2
  have R2 := R1.kept hw2
  have q2 := next q1 hw2
  clear hw2 V1 N1 R1 n0 n1 q1
  obtain ⟨a0, a1⟩ := Blk2 V2
  obtain ⟨n0, n1⟩ := Blk2 N2
  go_wp2_with fail
  refine (H _).mono ?_
  rintro e w3 ⟨rfl, hw3⟩
  have V3 := V2.kept hw3
  have R3 := R2.kept hw3
  have q3 := next q2 hw3
  clear hw3 V2 N2 R2 n0 n1 a0 a1 q2
  obtain ⟨a0, a1⟩ := Blk2 V3
  obtain ⟨r0, r1⟩ := Blk2 R3
  obtain ⟨f0, f1⟩ := Blk2f R3
  go_wp2_with fail
  refine bodyPost_ret (blk_res_tmp rfl _ rfl (blk_set2 R3) Try.underlying41 rfl (by rfl)) rfl ?_
  exact vret E1.out.symm E2.out.symm E3.out.symm ((q3.setCell (by dsimp only; omega) _).setCell (by dsimp only; omega) _)
set_option maxRecDepth 100000 in
set_option maxHeartbeats 1000000 in
theorem rturn_neg (vx vy nx ny : Int) (w : World) (hv : Sm vx vy) (hn : Sm nx ny) (hc : crossI nx ny vx vy < 0) :
    Calls Try.prog 67 #[vec vx vy, vec nx ny] w fun e w' => e = .returned (.tuple #[vec (tX vx vy nx ny) (tY vx vy nx ny), .bool (tB vx vy nx ny)]) ∧ Below w.heap.size w w' := by
  obtain ⟨e1, e2, e3⟩ := tv_neg hv hn hc
  have E1 := Lib.hid e1; have E2 := Lib.hid e2; have E3 := Lib.hid e3
  have ha := hv.a; have hb := hv.b; have hd := hv.c; have he := hv.d
  clear e1 e2 e3
  have H := fun w => rcross_t nx ny vx vy w hn hv
  go_enter Try.func67, Try.ntmps67
  go_wp2_with fail
  refine (rsmall_t _ _ _ hv).mono ?_
  rintro e w1 ⟨rfl, hw1⟩
  have V1 : Blk w1 w.heap.size #[.int .i64 vx, .int .i64 vy] := (((blk_new rfl).alloc _).alloc _).kept hw1
  have N1 : Blk w1 (w.heap.size + 1) #[.int .i64 nx, .int .i64 ny] := ((blk_new (by simp)).alloc _).kept hw1
  have R1 : Blk w1 (w.heap.size + 1 + 1) #[.int .i64 0, .int .i64 0] := (blk_new (by simp)).kept hw1
  have q1 := in3 hw1
  obtain ⟨n0, n1⟩ := Blk2 N1
  clear hw1
  go_wp2_with fail
  refine (rsmall_t _ _ _ hn).mono ?_
  rintro e w2 ⟨rfl, hw2⟩
  have V2 := V1.kept hw2
  have N2 := N1.kept hw2
  have R2 := R1.kept hw2
  have q2 := next q1 hw2
  clear hw2 V1 N1 R1 n0 n1 q1
  obtain ⟨a0, a1⟩ := Blk2 V2
  obtain ⟨n0, n1⟩ := Blk2 N2
  go_wp2_with fail
  refine (H _).mono ?_
  rintro e w3 ⟨rfl, hw3⟩
  have V3 := V2.kept hw3
  have R3 := R2.kept hw3
  have q3 := next q2 hw3
  clear hw3 V2 N2 R2 n0 n1 a0 a1 q2
  obtain ⟨a0, a1⟩ := Blk2 V3
  obtain ⟨r0, r1⟩ := Blk2 R3
  obtain ⟨f0, f1⟩ := Blk2f R3
  go_wp2_with fail
  refine bodyPost_ret (blk_res_tmp rfl _ rfl (blk_set2 R3) Try.underlying41 rfl (by rfl)) rfl ?_
  exact vret E1.out.symm E2.out.symm E3.out.symm ((q3.setCell (by dsimp only; omega) _).setCell (by dsimp only; omega) _)
set_option maxRecDepth 100000 in
set_option maxHeartbeats 1000000 in
theorem rturn_zero (vx vy nx ny : Int) (w : World) (hv : Sm vx vy) (hn : Sm nx ny) (hc : crossI nx ny vx vy = 0) :
    Calls Try.prog 67 #[vec vx vy, vec nx ny] w fun e w' => e = .returned (.tuple #[vec (tX vx vy nx ny) (tY vx vy nx ny), .bool (tB vx vy nx ny)]) ∧ Below w.heap.size w w' := by
  obtain ⟨e1, e2, e3⟩ := tv_nil (Or.inr hc)
  have E1 := Lib.hid e1; have E2 := Lib.hid e2; have E3 := Lib.hid e3
  have ha := hv.a; have hb := hv.b; have hd := hv.c; have he := hv.d
  clear e1 e2 e3
  have H : ∀ w, Calls Try.prog 50 #[vec nx ny, vec vx vy] w fun e w' => e = .returned (.int .i64 0) ∧ Below w.heap.size w w' := fun w => by have := rcross_t nx ny vx vy w hn hv; rwa [hc] at this
  clear hc
  go_enter Try.func67, Try.ntmps67
  go_wp2_with fail
  refine (rsmall_t _ _ _ hv).mono ?_
  rintro e w1 ⟨rfl, hw1⟩
  have V1 : Blk w1 w.heap.size #[.int .i64 vx, .int .i64 vy] := (((blk_new rfl).alloc _).alloc _).kept hw1
  have N1 : Blk w1 (w.heap.size + 1) #[.int .i64 nx, .int .i64 ny] := ((blk_new (by simp)).alloc _).kept hw1
  have R1 : Blk w1 (w.heap.size + 1 + 1) #[.int .i64 0, .int .i64 0] := (blk_new (by simp)).kept hw1
  have q1 := in3 hw1
  obtain ⟨n0, n1⟩ := Blk2 N1
  clear hw1
  go_wp2_with fail
  refine (rsmall_t _ _ _ hn).mono ?_
  rintro e w2 ⟨rfl, hw2⟩
  have V2 := V1.kept hw2
  have N2 := N1.kept hw2
  have R2 := R1.kept hw2
  have q2 := next q1 hw2
  clear hw2 V1 N1 R1 n0 n1 q1
  obtain ⟨a0, a1⟩ := Blk2 V2
  obtain ⟨n0, n1⟩ := Blk2 N2
  go_wp2_with fail
  refine (H _).mono ?_
  rintro e w3 ⟨rfl, hw3⟩
  have V3 := V2.kept hw3
  have R3 := R2.kept hw3
  have q3 := next q2 hw3
  clear hw3 V2 N2 R2 n0 n1 a0 a1 q2
  obtain ⟨a0, a1⟩ := Blk2 V3
  obtain ⟨r0, r1⟩ := Blk2 R3
  obtain ⟨f0, f1⟩ := Blk2f R3
  go_wp2_with fail
  refine bodyPost_ret (blk_res_tmp rfl _ rfl (blk_set2 R3) Try.underlying41 rfl (by rfl)) rfl ?_
  exact vret E1.out.symm E2.out.symm E3.out.symm ((q3.setCell (by dsimp only; omega) _).setCell (by dsimp only; omega) _)
set_option maxRecDepth 100000 in
set_option maxHeartbeats 1000000 in
theorem rturn_not (vx vy nx ny : Int) (w : World) (hc : ¬ (Sm vx vy ∧ Sm nx ny)) :
    Calls Try.prog 67 #[vec vx vy, vec nx ny] w fun e w' => e = .returned (.tuple #[vec (tX vx vy nx ny) (tY vx vy nx ny), .bool (tB vx vy nx ny)]) ∧ Below w.heap.size w w' := by
  obtain ⟨e1, e2, e3⟩ := tv_nil (Or.inl hc)
  have E1 := Lib.hid e1; have E2 := Lib.hid e2; have E3 := Lib.hid e3
  clear e1 e2 e3
  by_cases hv : Sm vx vy
  · have hn : ¬ Sm nx ny := fun hn => hc ⟨hv, hn⟩
    clear hc
    go_enter Try.func67, Try.ntmps67
    go_wp2_with fail
    refine (rsmall_t _ _ _ hv).mono ?_
    rintro e w1 ⟨rfl, hw1⟩
    have N1 : Blk w1 (w.heap.size + 1) #[.int .i64 nx, .int .i64 ny] := ((blk_new (by simp)).alloc _).kept hw1
    have R1 : Blk w1 (w.heap.size + 1 + 1) #[.int .i64 0, .int .i64 0] := (blk_new (by simp)).kept hw1
    have q1 := in3 hw1
    obtain ⟨n0, n1⟩ := Blk2 N1
    clear hw1
    go_wp2_with fail
    refine (rsmall_f _ _ _ hn).mono ?_
    rintro e w2 ⟨rfl, hw2⟩
    have R2 := R1.kept hw2
    have q2 := next q1 hw2
    clear hw2 N1 R1 n0 n1 q1
    obtain ⟨r0, r1⟩ := Blk2 R2
    obtain ⟨f0, f1⟩ := Blk2f R2
    go_wp2_with fail
    refine bodyPost_ret (blk_res_tmp rfl _ rfl (blk_set2 R2) Try.underlying41 rfl (by rfl)) rfl ?_
    exact vret E1.out.symm E2.out.symm E3.out.symm ((q2.setCell (by dsimp only; omega) _).setCell (by dsimp only; omega) _)
  · clear hc
    go_enter Try.func67, Try.ntmps67
    go_wp2_with fail
    refine (rsmall_f _ _ _ hv).mono ?_
    rintro e w2 ⟨rfl, hw1⟩
    have R2 : Blk w2 (w.heap.size + 1 + 1) #[.int .i64 0, .int .i64 0] := (blk_new (by simp)).kept hw1
    have q2 := in3 hw1
    clear hw1
    obtain ⟨r0, r1⟩ := Blk2 R2
    obtain ⟨f0, f1⟩ := Blk2f R2
    go_wp2_with fail
    refine bodyPost_ret (blk_res_tmp rfl _ rfl (blk_set2 R2) Try.underlying41 rfl (by rfl)) rfl ?_
    exact vret E1.out.symm E2.out.symm E3.out.symm ((q2.setCell (by dsimp only; omega) _).setCell (by dsimp only; omega) _)
set_option maxRecDepth 100000 in
theorem rturn_any (vx vy nx ny : Int) (w : World) :
    Calls Try.prog 67 #[vec vx vy, vec nx ny] w fun e w' => e = .returned (.tuple #[vec (tX vx vy nx ny) (tY vx vy nx ny), .bool (tB vx vy nx ny)]) ∧ Below w.heap.size w w' := by
  by_cases hs : Sm vx vy ∧ Sm nx ny
  · rcases Int.lt_trichotomy (crossI nx ny vx vy) 0 with h | h | h
    · exact rturn_neg vx vy nx ny w hs.1 hs.2 h
    · exact rturn_zero vx vy nx ny w hs.1 hs.2 h
    · exact rturn_pos vx vy nx ny w hs.1 hs.2 h
  · exact rturn_not vx vy nx ny w hs
set_option maxRecDepth 100000 in
theorem vecret {a b c d : Int} {w w' : World} (h1 : a = b) (h2 : c = d) (hb : Below w.heap.size w w') : Ending.returned (vec a c) = Ending.returned (vec b d) ∧ Below w.heap.size w w' := ⟨by rw [h1, h2], hb⟩
set_option maxRecDepth 100000 in
theorem flip_any (x y : Int) (w : World) (h1 : -9223372036854775808 ≤ x) (h2 : x ≤ 9223372036854775807) :
    Calls Try.prog 63 #[vec x y] w fun e w' => e = .returned (vec (ngI x) y) ∧ Below w.heap.size w w' := by
  by_cases h : x = -9223372036854775808
  · subst h
    have E := Lib.hid (show ngI (-9223372036854775808) = wrap64 9223372036854775808 by unfold ngI wrap64; rfl)
    go_enter Try.func63, Try.ntmps63
    go_wp2_with fail
    refine bodyPost_ret (blk_res rfl _ rfl (blk_new (by simp)) Try.underlying41 rfl (by rfl)) rfl ?_
    exact vecret E.out.symm rfl (((Below.refl _ _).alloc (Nat.le_refl _) _).alloc (by simp) _)
  · have E := Lib.hid (ng_of h)
    have h3 : -9223372036854775808 < x := by omega
    clear h h1
    go_enter Try.func63, Try.ntmps63
    go_wp2_with fail
    refine bodyPost_ret (blk_res rfl _ rfl (blk_new (by simp)) Try.underlying41 rfl (by rfl)) rfl ?_
    exact vecret E.out.symm rfl (((Below.refl _ _).alloc (Nat.le_refl _) _).alloc (by simp) _)
end Go.Proofs.Ytdgfmkideghhaaa

namespace VB
open Go Go.RowKit PB
/-- R is the integer root of n, 0 if n is negative. -/
structure Rt (n R : Int) : Prop where
  z : 0 ≤ R
  le : R ≤ 3037000499
  lo : 1 ≤ R → R * R ≤ n
  hi : n < (R + 1) * (R + 1)
theorem sqn (a : Int) : 0 ≤ a * a := by
  rcases Int.le_total 0 a with h | h
  · exact Int.mul_nonneg h h
  · exact Int.mul_nonneg_of_nonpos_of_nonpos h h
theorem sqm {a b : Int} (h0 : 0 ≤ a) (h : a ≤ b) : a * a ≤ b * b := Int.mul_le_mul h h h0 (by omega)
theorem Rt.iff {n R m : Int} (h : Rt n R) (hm : 1 ≤ m) : m * m ≤ n ↔ m ≤ R := by
  constructor
  · intro hle
    apply Int.le_of_not_gt
    intro hgt
    have := sqm (a := R + 1) (b := m) (by have := h.z; omega) (by omega)
    have := h.hi
    omega
  · intro hle
    have := sqm (a := m) (b := R) (by omega) hle
    have := h.lo (by omega)
    omega
theorem root_nat : ∀ n : Nat, ∃ r : Nat, r * r ≤ n ∧ n < (r + 1) * (r + 1)
  | 0 => ⟨0, by decide, by decide⟩
  | n + 1 => by
    obtain ⟨r, h1, h2⟩ := root_nat n
    by_cases h : (r + 1) * (r + 1) ≤ n + 1
    · refine ⟨r + 1, h, ?_⟩
      have e : (r + 1 + 1) * (r + 1 + 1) = (r + 1) * (r + 1) + 2 * (r + 1) + 1 := by grind
      omega
    · exact ⟨r, by omega, by omega⟩
theorem rt_exists (n : Int) (h : n ≤ 9223372036854775807) : ∃ R, Rt n R := by
  by_cases h0 : n < 0
  · exact ⟨0, by decide, by decide, fun h => by omega, by omega⟩
  · obtain ⟨r, h1, h2⟩ := root_nat n.toNat
    have e1 : ((r : Int) * r) ≤ n := by have := Int.ofNat_le.2 h1; rw [Int.natCast_mul] at this; omega
    have e2 : n < ((r : Int) + 1) * (r + 1) := by have := Int.ofNat_lt.2 h2; rw [Int.natCast_mul] at this; push_cast at this; omega
    refine ⟨r, by omega, ?_, fun _ => e1, e2⟩
    apply Int.le_of_not_gt
    intro hgt
    have := sqm (a := 3037000500) (b := (r : Int)) (by decide) (by omega)
    omega
theorem newton {n R x : Int} (h : Rt n R) (hn : 0 < n) (hx : 0 < x) : R ≤ (x + n / x) / 2 ∧ ((x + n / x) / 2 ≥ x → x ≤ R) := by
  have hR : 1 ≤ R := (h.iff (by decide)).1 (by omega)
  have hlo := h.lo hR
  constructor
  · have h1 : (2 * R - x) * x ≤ n := by
      have := sqn (R - x)
      have e : (R - x) * (R - x) = R * R - (2 * R - x) * x := by grind
      omega
    have h2 := (Int.le_ediv_iff_mul_le hx).2 h1
    omega
  · intro hge
    have h1 : x ≤ n / x := by omega
    have h2 := (Int.le_ediv_iff_mul_le hx).1 h1
    exact (h.iff (by omega)).1 h2
theorem mul_bd' {a : Int} (h0 : 0 ≤ a) (h : a ≤ 3037000499) : 0 ≤ a * a ∧ a * a ≤ 9223372030926249001 := ⟨sqn a, Int.le_trans (sqm h0 h) (by decide)⟩
theorem div_small {n R x : Int} (h : Rt n R) (hn : 0 < n) (hx : R ≤ x) : 0 ≤ n / x ∧ n / x ≤ R + 3 := by
  have hR : 1 ≤ R := (h.iff (by decide)).1 (by omega)
  refine ⟨Int.ediv_nonneg (by omega) (by omega), ?_⟩
  have h1 : n < (R + 4) * x := by
    have h2 : (R + 4) * R ≤ (R + 4) * x := Int.mul_le_mul_of_nonneg_left hx (by omega)
    have h3 := h.hi
    have e : (R + 4) * R = (R + 1) * (R + 1) + 2 * R - 1 := by grind
    omega
  have := (Int.ediv_lt_iff_lt_mul (show 0 < x by omega)).2 h1
  omega
end VB
namespace Go.Proofs.Ytdgfmkideghhaaa
open Go.RowKit PB VB
set_option maxRecDepth 100000 in
theorem ir0 {a b : Int} {w : World} (h : a = b) : Ending.returned (.int .i64 a) = Ending.returned (.int .i64 b) ∧ w = w := ⟨by rw [h], rfl⟩
set_option maxRecDepth 100000 in
set_option maxHeartbeats 1000000 in
theorem rroot_any (n R : Int) (w : World) (h : Rt n R) : Calls Try.prog 58 #[.int .i64 n] w fun e w' => e = .returned (.int .i64 R) ∧ w = w' := by
  have H := Lib.hid h
  have hz := h.z
  have hle := h.le
  clear h
  go_enter Try.func58, Try.ntmps58
  go_wp2_with fail
  go_loop [3, 4] (fun a b => ∃ lo hi : Int, 0 ≤ lo ∧ lo ≤ R ∧ R ≤ hi ∧ hi ≤ 3037000499 ∧ a = .int .i64 lo ∧ b = .int .i64 hi) (fun a b => (intOf b - intOf a).toNat)
  case atStart => exact ⟨0, 3037000499, by omega, hz, hle, by omega, rfl, rfl⟩
  case round =>
    obtain ⟨lo, hi, h1, h2, h3, h4, rfl, rfl⟩ := hrel
    by_cases hlt : lo < hi
    · have hm1 : 1 ≤ (lo + hi + 1) / 2 := by omega
      have hif := H.out.iff hm1
      have hm2 := mul_bd' (a := (lo + hi + 1) / 2) (by omega) (by omega)
      have b1 : lo < (lo + hi + 1) / 2 := by omega
      have b2 : (lo + hi + 1) / 2 ≤ hi := by omega
      by_cases hc : (lo + hi + 1) / 2 ≤ R
      · have hc1 := hif.2 hc
        clear hif
        go_wp2_with fail
        go_round
        case rel => exact ⟨(lo + hi + 1) / 2, hi, by omega, by omega, by omega, by omega, rfl, rfl⟩
        case measure => simp [intOf]; omega
      · have hc1 : ¬ (lo + hi + 1) / 2 * ((lo + hi + 1) / 2) ≤ n := fun k => hc (hif.1 k)
        clear hif
        go_wp2_with fail
        go_round
        case rel => exact ⟨lo, (lo + hi + 1) / 2 - 1, by omega, by omega, by omega, by omega, rfl, rfl⟩
        case measure => simp [intOf]; omega
    · obtain rfl : lo = R := by omega
      go_wp2_with fail
      go_ret
      exact ir0 rfl
set_option maxRecDepth 100000 in
theorem rt_zero {n R : Int} (h : Rt n R) (hn : n ≤ 0) : R = 0 := by
  have hz := h.z
  apply Int.le_antisymm _ hz
  apply Int.le_of_not_gt
  intro hgt
  have h1 := h.lo (by omega)
  have h2 := sqm (a := 1) (b := R) (by decide) (by omega)
  omega
set_option maxRecDepth 100000 in
theorem bit_start {n R : Int} (h : Rt n R) (hn : 0 < n) (h2 : n ≤ 9223372036854775807) : 1 ≤ Lib.bitLen n.toNat ∧ Lib.bitLen n.toNat ≤ 63 ∧ R ≤ 2^((Lib.bitLen n.toNat + 1) / 2) ∧ (2 : Int)^((Lib.bitLen n.toNat + 1) / 2) ≤ 4294967296 ∧ 1 ≤ (2:Int)^((Lib.bitLen n.toNat + 1) / 2) := by
  have hb := Lib.bitLenAux_bounds 64 n.toNat (by omega) (by omega)
  have hl : Lib.bitLen n.toNat ≤ 63 := Lib.bitLen_le n.toNat 63 (by decide) (by omega)
  have he : Lib.bitLen n.toNat = Lib.bitLenAux 64 n.toNat := rfl
  rw [← he] at hb
  generalize Lib.bitLen n.toNat = L at *
  have hp : (2 : Int)^((L + 1) / 2) ≤ 2^32 := by
    have := Nat.pow_le_pow_right (show 0 < 2 by decide) (show (L + 1) / 2 ≤ 32 by omega)
    exact_mod_cast this
  have hp1 : (1 : Int) ≤ 2^((L + 1) / 2) := by
    have := Nat.pow_pos (n := (L + 1) / 2) (show 0 < 2 by decide)
    exact_mod_cast this
  refine ⟨hb.1, hl, ?_, hp, hp1⟩
  apply Int.le_of_not_gt
  intro hgt
  have h3 := (h.iff (m := 2^((L + 1) / 2)) hp1).2 (by omega)
  have h4 : (2 : Nat)^L ≤ 2^((L + 1) / 2) * 2^((L + 1) / 2) := by
    rw [← Nat.pow_add]; exact Nat.pow_le_pow_right (by decide) (by omega)
  have h5 : ((2^((L + 1) / 2) * 2^((L + 1) / 2) : Nat) : Int) ≤ n := by push_cast; exact h3
  have h6 := hb.2.2
  omega
set_option maxRecDepth 100000 in
set_option maxHeartbeats 1000000 in
theorem vroot_zero (n R : Int) (w : World) (h : Rt n R) (hn : n ≤ 0) : Calls Try.prog 57 #[.int .i64 n] w fun e w' => e = .returned (.int .i64 R) ∧ w = w' := by
  have E := Lib.hid (rt_zero h hn)
  clear h
  go_enter Try.func57, Try.ntmps57
  go_wp2_with fail
  go_ret
  exact ir0 E.out.symm
set_option maxRecDepth 100000 in
set_option maxHeartbeats 1000000 in
theorem vroot_pos (n R : Int) (w : World) (h : Rt n R) (hn : 0 < n) (h2 : n ≤ 9223372036854775807) : Calls Try.prog 57 #[.int .i64 n] w fun e w' => e = .returned (.int .i64 R) ∧ w = w' := by
  have H := Lib.hid h
  have hR : 1 ≤ R := (h.iff (by decide)).1 (by omega)
  have hle := h.le
  obtain ⟨l1, l2, hs, hp, hp1⟩ := bit_start h hn h2
  have HL := Lib.hid (fun w => (Try.bits_Len n w (by omega) (by omega)).mono fun _ _ h => (⟨h.1, h.2.symm⟩ : _ ∧ w = _))
  generalize Lib.bitLen n.toNat = L at *
  have hwr : wrap64 (2 ^ ((L + 1) / 2)) = 2 ^ ((L + 1) / 2) := by unfold wrap64; omega
  have HW := Lib.hid hwr
  clear h hwr
  go_enter Try.func57, Try.ntmps57
  go_wp2_with fail
  refine (HL.out _).mono ?_
  rintro e w1 ⟨rfl, rfl⟩
  go_wp2_with fail
  clear HW
  generalize (2 : Int) ^ ((L + 1) / 2) = x0 at *
  go_loop [3, 4] (fun a b => ∃ x : Int, R ≤ x ∧ x ≤ 4294967296 ∧ a = .int .i64 x) (fun a b => (intOf a).toNat)
  case atStart => exact ⟨x0, hs, hp, rfl⟩
  case round =>
    obtain ⟨x, hx1, hx2, rfl⟩ := hrel
    obtain ⟨d0, d1⟩ := div_small H.out hn hx1
    obtain ⟨n0, n1⟩ := newton H.out hn (show 0 < x by omega)
    have x0 : 0 < x := by omega
    by_cases hge : (x + n / x) / 2 ≥ x
    · obtain rfl : x = R := by have := n1 hge; omega
      clear n1 n0
      go_wp2_with fail
      go_ret
      exact ir0 rfl
    · have hge' : ¬ x ≤ (x + n / x) / 2 := hge
      clear n1 hge
      go_wp2_with fail
      go_round
      case rel => exact ⟨(x + n / x) / 2, n0, by omega, rfl⟩
      case measure => simp [intOf]; omega
set_option maxRecDepth 100000 in
theorem vroot_any (n R : Int) (w : World) (h : Rt n R) (h2 : n ≤ 9223372036854775807) : Calls Try.prog 57 #[.int .i64 n] w fun e w' => e = .returned (.int .i64 R) ∧ w = w' := by
  by_cases hn : n ≤ 0
  · exact vroot_zero n R w h hn
  · exact vroot_pos n R w h (by omega) h2
end Go.Proofs.Ytdgfmkideghhaaa

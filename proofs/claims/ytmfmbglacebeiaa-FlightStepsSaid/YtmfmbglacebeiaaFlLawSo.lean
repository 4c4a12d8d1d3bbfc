/-
  FlightSteps: the walk.
-/
import Derived.Test.YtmfmbglacebeiaaFlLawE
namespace FL
open Go Go.RowKit PB VB
def stp (p v h k : Int) : Int := p + k * v + k * k * h
def stw (v h k : Int) : Int := v + 2 * k * h
theorem stp_zero (p v h : Int) : stp p v h 0 = p := by unfold stp; omega
theorem stw_zero (v h : Int) : stw v h 0 = v := by unfold stw; omega
theorem stp_succ (p v h k : Int) : stp p v h k + (stw v h k + h) = stp p v h (k + 1) := by unfold stp stw; grind
theorem stw_succ (v h k : Int) : stw v h k + h + h = stw v h (k + 1) := by unfold stw; grind
structure StB (v h k : Int) : Prop where
  a : -245760 ≤ k * v ∧ k * v ≤ 245760
  b : 0 ≤ k * k ∧ k * k ≤ 3600
  c : -921600 ≤ k * k * h ∧ k * k * h ≤ 921600
  d : -30720 ≤ 2 * k * h ∧ 2 * k * h ≤ 30720
theorem st_bd {v h k : Int} (k0 : 0 ≤ k) (k1 : k ≤ 60) (v1 : -4096 ≤ v) (v2 : v ≤ 4096) (h1 : -256 ≤ h) (h2 : h ≤ 256) : StB v h k := by
  have a := mul_le (a := k) (b := v) (A := 60) (C := 4096) (by omega) (by omega) (by omega) (by omega)
  have b := mul_le (a := k) (b := k) (A := 60) (C := 60) (by omega) (by omega) (by omega) (by omega)
  have b0 := Int.mul_nonneg k0 k0
  have c := mul_le (a := k * k) (b := h) (A := 3600) (C := 256) (by omega) (by omega) (by omega) (by omega)
  have d := mul_le (a := 2 * k) (b := h) (A := 120) (C := 256) (by omega) (by omega) (by omega) (by omega)
  exact ⟨⟨by omega, by omega⟩, ⟨b0, by omega⟩, ⟨by omega, by omega⟩, ⟨by omega, by omega⟩⟩
structure InS (px py vx vy hx hy n : Int) : Prop where
  n0 : 0 ≤ n
  n1 : n ≤ 60
  p1 : -65536 ≤ px
  p2 : px ≤ 65536
  p3 : -65536 ≤ py
  p4 : py ≤ 65536
  v1 : -4096 ≤ vx
  v2 : vx ≤ 4096
  v3 : -4096 ≤ vy
  v4 : vy ≤ 4096
  h1 : -256 ≤ hx
  h2 : hx ≤ 256
  h3 : -256 ≤ hy
  h4 : hy ≤ 256
theorem st_valid {px py vx vy hx hy n k : Int} (h : InS px py vx vy hx hy n) (k0 : 0 ≤ k) (k1 : k ≤ n) : VM (stp px vx hx k) (stp py vy hy k) (stw vx hx k) (stw vy hy k) hx hy := by
  obtain ⟨n0, n1, p1, p2, p3, p4, v1, v2, v3, v4, h1, h2, h3, h4⟩ := h
  have x := st_bd k0 (show k ≤ 60 by omega) v1 v2 h1 h2
  have y := st_bd k0 (show k ≤ 60 by omega) v3 v4 h3 h4
  obtain ⟨x1, x2, x3, x4⟩ := x
  obtain ⟨y1, y2, y3, y4⟩ := y
  unfold stp stw
  exact ⟨⟨by omega, by omega, by omega, by omega⟩, ⟨by omega, by omega, by omega, by omega⟩, ⟨by omega, by omega, by omega, by omega⟩⟩
theorem oth6 {w : World} {k g : Nat} {cs : Array Value} {a' b' c' d' e' f' : Value} (H : Blk w g cs) (hne : g ≠ k) :
    Blk ((((((w.setCell ⟨k, 0, none⟩ a').setCell ⟨k, 1, none⟩ b').setCell ⟨k, 2, none⟩ c').setCell ⟨k, 3, none⟩ d').setCell ⟨k, 4, none⟩ e').setCell ⟨k, 5, none⟩ f') g cs :=
  (((((H.other _ hne).other _ hne).other _ hne).other _ hne).other _ hne).other _ hne
end FL
namespace Go.Proofs.Ytmfmbglacebeiaa
open Go.RowKit PB VB FL
set_option maxRecDepth 100000 in
set_option maxHeartbeats 2000000 in
theorem steps_o0 (px py vx vy hx hy n : Int) (w : World) (t0 : decide (n < 0) = true) : Calls Try.prog 6 #[mo px py vx vy hx hy, .int .i64 n] w fun e w' => e = .returned (.bool true) ∧ Below w.heap.size w w' := by
  go_enter Try.func6, Try.ntmps6
  go_wp2_with fail
  refine (flawake _).mono ?_
  rintro e w1 ⟨rfl, hw1⟩
  have M1 : Blk w1 w.heap.size #[.int .i64 px, .int .i64 py, .int .i64 vx, .int .i64 vy, .int .i64 hx, .int .i64 hy] := (blk_new rfl).kept hw1
  have q1 := in1 hw1
  obtain ⟨m0, m1, m2, m3, m4, m5⟩ := Blk6 M1
  clear hw1
  go_wp2_with fail
  refine (flawake _).mono ?_
  rintro e w2 ⟨rfl, hw2⟩
  have q2 := next q1 hw2
  clear hw2
  go_wp2_with fail
  go_ret
  exact ⟨rfl, q2⟩
set_option maxRecDepth 100000 in
set_option maxHeartbeats 2000000 in
theorem steps_o1 (px py vx vy hx hy n : Int) (w : World) (t0 : decide (n < 0) = false) (t1 : decide (n > 60) = true) : Calls Try.prog 6 #[mo px py vx vy hx hy, .int .i64 n] w fun e w' => e = .returned (.bool true) ∧ Below w.heap.size w w' := by
  go_enter Try.func6, Try.ntmps6
  go_wp2_with fail
  refine (flawake _).mono ?_
  rintro e w1 ⟨rfl, hw1⟩
  have M1 : Blk w1 w.heap.size #[.int .i64 px, .int .i64 py, .int .i64 vx, .int .i64 vy, .int .i64 hx, .int .i64 hy] := (blk_new rfl).kept hw1
  have q1 := in1 hw1
  obtain ⟨m0, m1, m2, m3, m4, m5⟩ := Blk6 M1
  clear hw1
  go_wp2_with fail
  refine (flawake _).mono ?_
  rintro e w2 ⟨rfl, hw2⟩
  have q2 := next q1 hw2
  clear hw2
  go_wp2_with fail
  go_ret
  exact ⟨rfl, q2⟩
set_option maxRecDepth 100000 in
set_option maxHeartbeats 2000000 in
theorem steps_o2 (px py vx vy hx hy n : Int) (w : World) (t0 : decide (n < 0) = false) (t1 : decide (n > 60) = false) (t2 : decide (px < -65536) = true) : Calls Try.prog 6 #[mo px py vx vy hx hy, .int .i64 n] w fun e w' => e = .returned (.bool true) ∧ Below w.heap.size w w' := by
  go_enter Try.func6, Try.ntmps6
  go_wp2_with fail
  refine (flawake _).mono ?_
  rintro e w1 ⟨rfl, hw1⟩
  have M1 : Blk w1 w.heap.size #[.int .i64 px, .int .i64 py, .int .i64 vx, .int .i64 vy, .int .i64 hx, .int .i64 hy] := (blk_new rfl).kept hw1
  have q1 := in1 hw1
  obtain ⟨m0, m1, m2, m3, m4, m5⟩ := Blk6 M1
  clear hw1
  go_wp2_with fail
  refine (flawake _).mono ?_
  rintro e w2 ⟨rfl, hw2⟩
  have q2 := next q1 hw2
  clear hw2
  go_wp2_with fail
  go_ret
  exact ⟨rfl, q2⟩
set_option maxRecDepth 100000 in
set_option maxHeartbeats 2000000 in
theorem steps_o3 (px py vx vy hx hy n : Int) (w : World) (t0 : decide (n < 0) = false) (t1 : decide (n > 60) = false) (t2 : decide (px < -65536) = false) (t3 : decide (px > 65536) = true) : Calls Try.prog 6 #[mo px py vx vy hx hy, .int .i64 n] w fun e w' => e = .returned (.bool true) ∧ Below w.heap.size w w' := by
  go_enter Try.func6, Try.ntmps6
  go_wp2_with fail
  refine (flawake _).mono ?_
  rintro e w1 ⟨rfl, hw1⟩
  have M1 : Blk w1 w.heap.size #[.int .i64 px, .int .i64 py, .int .i64 vx, .int .i64 vy, .int .i64 hx, .int .i64 hy] := (blk_new rfl).kept hw1
  have q1 := in1 hw1
  obtain ⟨m0, m1, m2, m3, m4, m5⟩ := Blk6 M1
  clear hw1
  go_wp2_with fail
  refine (flawake _).mono ?_
  rintro e w2 ⟨rfl, hw2⟩
  have q2 := next q1 hw2
  clear hw2
  go_wp2_with fail
  go_ret
  exact ⟨rfl, q2⟩
set_option maxRecDepth 100000 in
set_option maxHeartbeats 2000000 in
theorem steps_o4 (px py vx vy hx hy n : Int) (w : World) (t0 : decide (n < 0) = false) (t1 : decide (n > 60) = false) (t2 : decide (px < -65536) = false) (t3 : decide (px > 65536) = false) (t4 : decide (py < -65536) = true) : Calls Try.prog 6 #[mo px py vx vy hx hy, .int .i64 n] w fun e w' => e = .returned (.bool true) ∧ Below w.heap.size w w' := by
  go_enter Try.func6, Try.ntmps6
  go_wp2_with fail
  refine (flawake _).mono ?_
  rintro e w1 ⟨rfl, hw1⟩
  have M1 : Blk w1 w.heap.size #[.int .i64 px, .int .i64 py, .int .i64 vx, .int .i64 vy, .int .i64 hx, .int .i64 hy] := (blk_new rfl).kept hw1
  have q1 := in1 hw1
  obtain ⟨m0, m1, m2, m3, m4, m5⟩ := Blk6 M1
  clear hw1
  go_wp2_with fail
  refine (flawake _).mono ?_
  rintro e w2 ⟨rfl, hw2⟩
  have q2 := next q1 hw2
  clear hw2
  go_wp2_with fail
  go_ret
  exact ⟨rfl, q2⟩
set_option maxRecDepth 100000 in
set_option maxHeartbeats 2000000 in
theorem steps_o5 (px py vx vy hx hy n : Int) (w : World) (t0 : decide (n < 0) = false) (t1 : decide (n > 60) = false) (t2 : decide (px < -65536) = false) (t3 : decide (px > 65536) = false) (t4 : decide (py < -65536) = false) (t5 : decide (py > 65536) = true) : Calls Try.prog 6 #[mo px py vx vy hx hy, .int .i64 n] w fun e w' => e = .returned (.bool true) ∧ Below w.heap.size w w' := by
  go_enter Try.func6, Try.ntmps6
  go_wp2_with fail
  refine (flawake _).mono ?_
  rintro e w1 ⟨rfl, hw1⟩
  have M1 : Blk w1 w.heap.size #[.int .i64 px, .int .i64 py, .int .i64 vx, .int .i64 vy, .int .i64 hx, .int .i64 hy] := (blk_new rfl).kept hw1
  have q1 := in1 hw1
  obtain ⟨m0, m1, m2, m3, m4, m5⟩ := Blk6 M1
  clear hw1
  go_wp2_with fail
  refine (flawake _).mono ?_
  rintro e w2 ⟨rfl, hw2⟩
  have q2 := next q1 hw2
  clear hw2
  go_wp2_with fail
  go_ret
  exact ⟨rfl, q2⟩
set_option maxRecDepth 100000 in
set_option maxHeartbeats 2000000 in
theorem steps_o6 (px py vx vy hx hy n : Int) (w : World) (t0 : decide (n < 0) = false) (t1 : decide (n > 60) = false) (t2 : decide (px < -65536) = false) (t3 : decide (px > 65536) = false) (t4 : decide (py < -65536) = false) (t5 : decide (py > 65536) = false) (t6 : decide (vx < -4096) = true) : Calls Try.prog 6 #[mo px py vx vy hx hy, .int .i64 n] w fun e w' => e = .returned (.bool true) ∧ Below w.heap.size w w' := by
  go_enter Try.func6, Try.ntmps6
  go_wp2_with fail
  refine (flawake _).mono ?_
  rintro e w1 ⟨rfl, hw1⟩
  have M1 : Blk w1 w.heap.size #[.int .i64 px, .int .i64 py, .int .i64 vx, .int .i64 vy, .int .i64 hx, .int .i64 hy] := (blk_new rfl).kept hw1
  have q1 := in1 hw1
  obtain ⟨m0, m1, m2, m3, m4, m5⟩ := Blk6 M1
  clear hw1
  go_wp2_with fail
  refine (flawake _).mono ?_
  rintro e w2 ⟨rfl, hw2⟩
  have q2 := next q1 hw2
  clear hw2
  go_wp2_with fail
  go_ret
  exact ⟨rfl, q2⟩
set_option maxRecDepth 100000 in
set_option maxHeartbeats 2000000 in
theorem steps_o7 (px py vx vy hx hy n : Int) (w : World) (t0 : decide (n < 0) = false) (t1 : decide (n > 60) = false) (t2 : decide (px < -65536) = false) (t3 : decide (px > 65536) = false) (t4 : decide (py < -65536) = false) (t5 : decide (py > 65536) = false) (t6 : decide (vx < -4096) = false) (t7 : decide (vx > 4096) = true) : Calls Try.prog 6 #[mo px py vx vy hx hy, .int .i64 n] w fun e w' => e = .returned (.bool true) ∧ Below w.heap.size w w' := by
  go_enter Try.func6, Try.ntmps6
  go_wp2_with fail
  refine (flawake _).mono ?_
  rintro e w1 ⟨rfl, hw1⟩
  have M1 : Blk w1 w.heap.size #[.int .i64 px, .int .i64 py, .int .i64 vx, .int .i64 vy, .int .i64 hx, .int .i64 hy] := (blk_new rfl).kept hw1
  have q1 := in1 hw1
  obtain ⟨m0, m1, m2, m3, m4, m5⟩ := Blk6 M1
  clear hw1
  go_wp2_with fail
  refine (flawake _).mono ?_
  rintro e w2 ⟨rfl, hw2⟩
  have q2 := next q1 hw2
  clear hw2
  go_wp2_with fail
  go_ret
  exact ⟨rfl, q2⟩
set_option maxRecDepth 100000 in
set_option maxHeartbeats 2000000 in
theorem steps_o8 (px py vx vy hx hy n : Int) (w : World) (t0 : decide (n < 0) = false) (t1 : decide (n > 60) = false) (t2 : decide (px < -65536) = false) (t3 : decide (px > 65536) = false) (t4 : decide (py < -65536) = false) (t5 : decide (py > 65536) = false) (t6 : decide (vx < -4096) = false) (t7 : decide (vx > 4096) = false) (t8 : decide (vy < -4096) = true) : Calls Try.prog 6 #[mo px py vx vy hx hy, .int .i64 n] w fun e w' => e = .returned (.bool true) ∧ Below w.heap.size w w' := by
  go_enter Try.func6, Try.ntmps6
  go_wp2_with fail
  refine (flawake _).mono ?_
  rintro e w1 ⟨rfl, hw1⟩
  have M1 : Blk w1 w.heap.size #[.int .i64 px, .int .i64 py, .int .i64 vx, .int .i64 vy, .int .i64 hx, .int .i64 hy] := (blk_new rfl).kept hw1
  have q1 := in1 hw1
  obtain ⟨m0, m1, m2, m3, m4, m5⟩ := Blk6 M1
  clear hw1
  go_wp2_with fail
  refine (flawake _).mono ?_
  rintro e w2 ⟨rfl, hw2⟩
  have q2 := next q1 hw2
  clear hw2
  go_wp2_with fail
  go_ret
  exact ⟨rfl, q2⟩
set_option maxRecDepth 100000 in
set_option maxHeartbeats 2000000 in
theorem steps_o9 (px py vx vy hx hy n : Int) (w : World) (t0 : decide (n < 0) = false) (t1 : decide (n > 60) = false) (t2 : decide (px < -65536) = false) (t3 : decide (px > 65536) = false) (t4 : decide (py < -65536) = false) (t5 : decide (py > 65536) = false) (t6 : decide (vx < -4096) = false) (t7 : decide (vx > 4096) = false) (t8 : decide (vy < -4096) = false) (t9 : decide (vy > 4096) = true) : Calls Try.prog 6 #[mo px py vx vy hx hy, .int .i64 n] w fun e w' => e = .returned (.bool true) ∧ Below w.heap.size w w' := by
  go_enter Try.func6, Try.ntmps6
  go_wp2_with fail
  refine (flawake _).mono ?_
  rintro e w1 ⟨rfl, hw1⟩
  have M1 : Blk w1 w.heap.size #[.int .i64 px, .int .i64 py, .int .i64 vx, .int .i64 vy, .int .i64 hx, .int .i64 hy] := (blk_new rfl).kept hw1
  have q1 := in1 hw1
  obtain ⟨m0, m1, m2, m3, m4, m5⟩ := Blk6 M1
  clear hw1
  go_wp2_with fail
  refine (flawake _).mono ?_
  rintro e w2 ⟨rfl, hw2⟩
  have q2 := next q1 hw2
  clear hw2
  go_wp2_with fail
  go_ret
  exact ⟨rfl, q2⟩
set_option maxRecDepth 100000 in
set_option maxHeartbeats 2000000 in
theorem steps_o10 (px py vx vy hx hy n : Int) (w : World) (t0 : decide (n < 0) = false) (t1 : decide (n > 60) = false) (t2 : decide (px < -65536) = false) (t3 : decide (px > 65536) = false) (t4 : decide (py < -65536) = false) (t5 : decide (py > 65536) = false) (t6 : decide (vx < -4096) = false) (t7 : decide (vx > 4096) = false) (t8 : decide (vy < -4096) = false) (t9 : decide (vy > 4096) = false) (t10 : decide (hx < -256) = true) : Calls Try.prog 6 #[mo px py vx vy hx hy, .int .i64 n] w fun e w' => e = .returned (.bool true) ∧ Below w.heap.size w w' := by
  go_enter Try.func6, Try.ntmps6
  go_wp2_with fail
  refine (flawake _).mono ?_
  rintro e w1 ⟨rfl, hw1⟩
  have M1 : Blk w1 w.heap.size #[.int .i64 px, .int .i64 py, .int .i64 vx, .int .i64 vy, .int .i64 hx, .int .i64 hy] := (blk_new rfl).kept hw1
  have q1 := in1 hw1
  obtain ⟨m0, m1, m2, m3, m4, m5⟩ := Blk6 M1
  clear hw1
  go_wp2_with fail
  refine (flawake _).mono ?_
  rintro e w2 ⟨rfl, hw2⟩
  have q2 := next q1 hw2
  clear hw2
  go_wp2_with fail
  go_ret
  exact ⟨rfl, q2⟩
set_option maxRecDepth 100000 in
set_option maxHeartbeats 2000000 in
theorem steps_o11 (px py vx vy hx hy n : Int) (w : World) (t0 : decide (n < 0) = false) (t1 : decide (n > 60) = false) (t2 : decide (px < -65536) = false) (t3 : decide (px > 65536) = false) (t4 : decide (py < -65536) = false) (t5 : decide (py > 65536) = false) (t6 : decide (vx < -4096) = false) (t7 : decide (vx > 4096) = false) (t8 : decide (vy < -4096) = false) (t9 : decide (vy > 4096) = false) (t10 : decide (hx < -256) = false) (t11 : decide (hx > 256) = true) : Calls Try.prog 6 #[mo px py vx vy hx hy, .int .i64 n] w fun e w' => e = .returned (.bool true) ∧ Below w.heap.size w w' := by
  go_enter Try.func6, Try.ntmps6
  go_wp2_with fail
  refine (flawake _).mono ?_
  rintro e w1 ⟨rfl, hw1⟩
  have M1 : Blk w1 w.heap.size #[.int .i64 px, .int .i64 py, .int .i64 vx, .int .i64 vy, .int .i64 hx, .int .i64 hy] := (blk_new rfl).kept hw1
  have q1 := in1 hw1
  obtain ⟨m0, m1, m2, m3, m4, m5⟩ := Blk6 M1
  clear hw1
  go_wp2_with fail
  refine (flawake _).mono ?_
  rintro e w2 ⟨rfl, hw2⟩
  have q2 := next q1 hw2
  clear hw2
  go_wp2_with fail
  go_ret
  exact ⟨rfl, q2⟩
set_option maxRecDepth 100000 in
set_option maxHeartbeats 2000000 in
theorem steps_o12 (px py vx vy hx hy n : Int) (w : World) (t0 : decide (n < 0) = false) (t1 : decide (n > 60) = false) (t2 : decide (px < -65536) = false) (t3 : decide (px > 65536) = false) (t4 : decide (py < -65536) = false) (t5 : decide (py > 65536) = false) (t6 : decide (vx < -4096) = false) (t7 : decide (vx > 4096) = false) (t8 : decide (vy < -4096) = false) (t9 : decide (vy > 4096) = false) (t10 : decide (hx < -256) = false) (t11 : decide (hx > 256) = false) (t12 : decide (hy < -256) = true) : Calls Try.prog 6 #[mo px py vx vy hx hy, .int .i64 n] w fun e w' => e = .returned (.bool true) ∧ Below w.heap.size w w' := by
  go_enter Try.func6, Try.ntmps6
  go_wp2_with fail
  refine (flawake _).mono ?_
  rintro e w1 ⟨rfl, hw1⟩
  have M1 : Blk w1 w.heap.size #[.int .i64 px, .int .i64 py, .int .i64 vx, .int .i64 vy, .int .i64 hx, .int .i64 hy] := (blk_new rfl).kept hw1
  have q1 := in1 hw1
  obtain ⟨m0, m1, m2, m3, m4, m5⟩ := Blk6 M1
  clear hw1
  go_wp2_with fail
  refine (flawake _).mono ?_
  rintro e w2 ⟨rfl, hw2⟩
  have q2 := next q1 hw2
  clear hw2
  go_wp2_with fail
  go_ret
  exact ⟨rfl, q2⟩
set_option maxRecDepth 100000 in
set_option maxHeartbeats 2000000 in
theorem steps_o13 (px py vx vy hx hy n : Int) (w : World) (t0 : decide (n < 0) = false) (t1 : decide (n > 60) = false) (t2 : decide (px < -65536) = false) (t3 : decide (px > 65536) = false) (t4 : decide (py < -65536) = false) (t5 : decide (py > 65536) = false) (t6 : decide (vx < -4096) = false) (t7 : decide (vx > 4096) = false) (t8 : decide (vy < -4096) = false) (t9 : decide (vy > 4096) = false) (t10 : decide (hx < -256) = false) (t11 : decide (hx > 256) = false) (t12 : decide (hy < -256) = false) (t13 : decide (hy > 256) = true) : Calls Try.prog 6 #[mo px py vx vy hx hy, .int .i64 n] w fun e w' => e = .returned (.bool true) ∧ Below w.heap.size w w' := by
  go_enter Try.func6, Try.ntmps6
  go_wp2_with fail
  refine (flawake _).mono ?_
  rintro e w1 ⟨rfl, hw1⟩
  have M1 : Blk w1 w.heap.size #[.int .i64 px, .int .i64 py, .int .i64 vx, .int .i64 vy, .int .i64 hx, .int .i64 hy] := (blk_new rfl).kept hw1
  have q1 := in1 hw1
  obtain ⟨m0, m1, m2, m3, m4, m5⟩ := Blk6 M1
  clear hw1
  go_wp2_with fail
  refine (flawake _).mono ?_
  rintro e w2 ⟨rfl, hw2⟩
  have q2 := next q1 hw2
  clear hw2
  go_wp2_with fail
  go_ret
  exact ⟨rfl, q2⟩
end Go.Proofs.Ytmfmbglacebeiaa

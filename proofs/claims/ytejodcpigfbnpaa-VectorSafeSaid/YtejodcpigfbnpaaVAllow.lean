/-
  allow: a vector against four others.
-/
import Derived.Test.YtejodcpigfbnpaaVCand
import Derived.LoopN
namespace VB
open Go Go.RowKit PB
theorem blk_keep {w w1 : World} {g : Nat} {cs : Array Value} {o : Obj} (h : Blk w g cs) (hb : Below (w.alloc o).heap.size (w.alloc o) w1) : Blk w1 g cs := (h.alloc o).kept hb
theorem next1 {w0 w w1 : World} {o : Obj} (h : Below w0.heap.size w0 w) (hb : Below (w.alloc o).heap.size (w.alloc o) w1) : Below w0.heap.size w0 w1 := next h (in1 hb)
/-- A vector that allows the other one. -/
def alB (a b c d e f g h vx vy : Int) : Bool := decide (0 ≤ dotI vx vy a b ∧ 0 ≤ dotI vx vy c d ∧ 0 ≤ dotI vx vy e f ∧ 0 ≤ dotI vx vy g h)
end VB
namespace Go.Proofs.Ytejodcpigfbnpaa
open Go.RowKit PB VB
set_option maxRecDepth 100000 in
theorem idx0 (a b c d e f g h : Int) (w : World) : (Instr.index 60 (.agg #[.int .i64 a, .int .i64 b, .int .i64 c, .int .i64 d, .int .i64 e, .int .i64 f, .int .i64 g, .int .i64 h]) (.int .i64 0)).run Try.prog w = .ok (vec a b) w := by kernel_rfl
set_option maxRecDepth 100000 in
theorem idx1 (a b c d e f g h : Int) (w : World) : (Instr.index 60 (.agg #[.int .i64 a, .int .i64 b, .int .i64 c, .int .i64 d, .int .i64 e, .int .i64 f, .int .i64 g, .int .i64 h]) (.int .i64 1)).run Try.prog w = .ok (vec c d) w := by kernel_rfl
set_option maxRecDepth 100000 in
theorem idx2 (a b c d e f g h : Int) (w : World) : (Instr.index 60 (.agg #[.int .i64 a, .int .i64 b, .int .i64 c, .int .i64 d, .int .i64 e, .int .i64 f, .int .i64 g, .int .i64 h]) (.int .i64 2)).run Try.prog w = .ok (vec e f) w := by kernel_rfl
set_option maxRecDepth 100000 in
theorem idx3 (a b c d e f g h : Int) (w : World) : (Instr.index 60 (.agg #[.int .i64 a, .int .i64 b, .int .i64 c, .int .i64 d, .int .i64 e, .int .i64 f, .int .i64 g, .int .i64 h]) (.int .i64 3)).run Try.prog w = .ok (vec g h) w := by kernel_rfl
set_option maxRecDepth 100000 in
set_option maxHeartbeats 4000000 in
theorem allow_t (a b c d e f g h vx vy : Int) (w : World) (hv : Sm vx vy) (s0 : Sm a b) (s1 : Sm c d) (s2 : Sm e f) (s3 : Sm g h) (k0 : 0 ≤ dotI vx vy a b) (k1 : 0 ≤ dotI vx vy c d) (k2 : 0 ≤ dotI vx vy e f) (k3 : 0 ≤ dotI vx vy g h) :
    Calls Try.prog 53 #[arr4 a b c d e f g h, vec vx vy] w fun e w' => e = .returned (.bool true) ∧ Below w.heap.size w w' := by
  have D0 := Lib.hid (fun w => vdot_t vx vy a b w hv s0)
  have D1 := Lib.hid (fun w => vdot_t vx vy c d w hv s1)
  have D2 := Lib.hid (fun w => vdot_t vx vy e f w hv s2)
  have D3 := Lib.hid (fun w => vdot_t vx vy g h w hv s3)
  generalize dotI vx vy a b = n0 at *
  generalize dotI vx vy c d = n1 at *
  generalize dotI vx vy e f = n2 at *
  generalize dotI vx vy g h = n3 at *
  have I0 := idx0 a b c d e f g h
  have I1 := idx1 a b c d e f g h
  have I2 := idx2 a b c d e f g h
  have I3 := idx3 a b c d e f g h
  clear hv s0 s1 s2 s3
  go_enter Try.func53, Try.ntmps53
  go_wp2_with fail
  refine wp_loop_rounds 5 ?_
  rw [rounds_succ]
  go_wp2_with fail
  refine (D0.out _).mono ?_
  rintro e w1 ⟨rfl, hw⟩
  have V1 : Blk w1 (w.heap.size + 1) #[.int .i64 vx, .int .i64 vy] := ((blk_new (by simp)).alloc _).kept hw
  have q1 := in3 hw
  clear hw
  obtain ⟨v0, v1⟩ := Blk2 V1
  have z := V1.lt
  go_wp2_with fail
  rw [rounds_succ]
  go_wp2_with fail
  refine (D1.out _).mono ?_
  rintro e w2 ⟨rfl, hw⟩
  have V2 := blk_keep V1 hw
  have q2 := next1 q1 hw
  clear hw v0 v1 z V1 q1
  obtain ⟨v0, v1⟩ := Blk2 V2
  have z := V2.lt
  go_wp2_with fail
  rw [rounds_succ]
  go_wp2_with fail
  refine (D2.out _).mono ?_
  rintro e w3 ⟨rfl, hw⟩
  have V3 := blk_keep V2 hw
  have q3 := next1 q2 hw
  clear hw v0 v1 z V2 q2
  obtain ⟨v0, v1⟩ := Blk2 V3
  have z := V3.lt
  go_wp2_with fail
  rw [rounds_succ]
  go_wp2_with fail
  refine (D3.out _).mono ?_
  rintro e w4 ⟨rfl, hw⟩
  have V4 := blk_keep V3 hw
  have q4 := next1 q3 hw
  clear hw v0 v1 z V3 q3
  obtain ⟨v0, v1⟩ := Blk2 V4
  have z := V4.lt
  go_wp2_with fail
  rw [rounds_succ]
  go_wp2_with fail
  go_ret
  exact ⟨rfl, q4⟩
set_option maxRecDepth 100000 in
set_option maxHeartbeats 4000000 in
theorem allow_f0 (a b c d e f g h vx vy : Int) (w : World) (hv : Sm vx vy) (s0 : Sm a b) (k0 : dotI vx vy a b < 0) :
    Calls Try.prog 53 #[arr4 a b c d e f g h, vec vx vy] w fun e w' => e = .returned (.bool false) ∧ Below w.heap.size w w' := by
  have D0 := Lib.hid (fun w => vdot_t vx vy a b w hv s0)
  generalize dotI vx vy a b = n0 at *
  have I0 := idx0 a b c d e f g h
  clear hv s0
  go_enter Try.func53, Try.ntmps53
  go_wp2_with fail
  refine wp_loop_rounds 5 ?_
  rw [rounds_succ]
  go_wp2_with fail
  refine (D0.out _).mono ?_
  rintro e w1 ⟨rfl, hw⟩
  have V1 : Blk w1 (w.heap.size + 1) #[.int .i64 vx, .int .i64 vy] := ((blk_new (by simp)).alloc _).kept hw
  have q1 := in3 hw
  clear hw
  obtain ⟨v0, v1⟩ := Blk2 V1
  have z := V1.lt
  go_wp2_with fail
  go_ret
  exact ⟨rfl, q1⟩
set_option maxRecDepth 100000 in
set_option maxHeartbeats 4000000 in
theorem allow_f1 (a b c d e f g h vx vy : Int) (w : World) (hv : Sm vx vy) (s0 : Sm a b) (s1 : Sm c d) (k0 : 0 ≤ dotI vx vy a b) (k1 : dotI vx vy c d < 0) :
    Calls Try.prog 53 #[arr4 a b c d e f g h, vec vx vy] w fun e w' => e = .returned (.bool false) ∧ Below w.heap.size w w' := by
  have D0 := Lib.hid (fun w => vdot_t vx vy a b w hv s0)
  have D1 := Lib.hid (fun w => vdot_t vx vy c d w hv s1)
  generalize dotI vx vy a b = n0 at *
  generalize dotI vx vy c d = n1 at *
  have I0 := idx0 a b c d e f g h
  have I1 := idx1 a b c d e f g h
  clear hv s0 s1
  go_enter Try.func53, Try.ntmps53
  go_wp2_with fail
  refine wp_loop_rounds 5 ?_
  rw [rounds_succ]
  go_wp2_with fail
  refine (D0.out _).mono ?_
  rintro e w1 ⟨rfl, hw⟩
  have V1 : Blk w1 (w.heap.size + 1) #[.int .i64 vx, .int .i64 vy] := ((blk_new (by simp)).alloc _).kept hw
  have q1 := in3 hw
  clear hw
  obtain ⟨v0, v1⟩ := Blk2 V1
  have z := V1.lt
  go_wp2_with fail
  rw [rounds_succ]
  go_wp2_with fail
  refine (D1.out _).mono ?_
  rintro e w2 ⟨rfl, hw⟩
  have V2 := blk_keep V1 hw
  have q2 := next1 q1 hw
  clear hw v0 v1 z V1 q1
  obtain ⟨v0, v1⟩ := Blk2 V2
  have z := V2.lt
  go_wp2_with fail
  go_ret
  exact ⟨rfl, q2⟩
set_option maxRecDepth 100000 in
set_option maxHeartbeats 4000000 in
theorem allow_f2 (a b c d e f g h vx vy : Int) (w : World) (hv : Sm vx vy) (s0 : Sm a b) (s1 : Sm c d) (s2 : Sm e f) (k0 : 0 ≤ dotI vx vy a b) (k1 : 0 ≤ dotI vx vy c d) (k2 : dotI vx vy e f < 0) :
    Calls Try.prog 53 #[arr4 a b c d e f g h, vec vx vy] w fun e w' => e = .returned (.bool false) ∧ Below w.heap.size w w' := by
  have D0 := Lib.hid (fun w => vdot_t vx vy a b w hv s0)
  have D1 := Lib.hid (fun w => vdot_t vx vy c d w hv s1)
  have D2 := Lib.hid (fun w => vdot_t vx vy e f w hv s2)
  generalize dotI vx vy a b = n0 at *
  generalize dotI vx vy c d = n1 at *
  generalize dotI vx vy e f = n2 at *
  have I0 := idx0 a b c d e f g h
  have I1 := idx1 a b c d e f g h
  have I2 := idx2 a b c d e f g h
  clear hv s0 s1 s2
  go_enter Try.func53, Try.ntmps53
  go_wp2_with fail
  refine wp_loop_rounds 5 ?_
  rw [rounds_succ]
  go_wp2_with fail
  refine (D0.out _).mono ?_
  rintro e w1 ⟨rfl, hw⟩
  have V1 : Blk w1 (w.heap.size + 1) #[.int .i64 vx, .int .i64 vy] := ((blk_new (by simp)).alloc _).kept hw
  have q1 := in3 hw
  clear hw
  obtain ⟨v0, v1⟩ := Blk2 V1
  have z := V1.lt
  go_wp2_with fail
  rw [rounds_succ]
  go_wp2_with fail
  refine (D1.out _).mono ?_
  rintro e w2 ⟨rfl, hw⟩
  have V2 := blk_keep V1 hw
  have q2 := next1 q1 hw
  clear hw v0 v1 z V1 q1
  obtain ⟨v0, v1⟩ := Blk2 V2
  have z := V2.lt
  go_wp2_with fail
  rw [rounds_succ]
  go_wp2_with fail
  refine (D2.out _).mono ?_
  rintro e w3 ⟨rfl, hw⟩
  have V3 := blk_keep V2 hw
  have q3 := next1 q2 hw
  clear hw v0 v1 z V2 q2
  obtain ⟨v0, v1⟩ := Blk2 V3
  have z := V3.lt
  go_wp2_with fail
  go_ret
  exact ⟨rfl, q3⟩
set_option maxRecDepth 100000 in
set_option maxHeartbeats 4000000 in
theorem allow_f3 (a b c d e f g h vx vy : Int) (w : World) (hv : Sm vx vy) (s0 : Sm a b) (s1 : Sm c d) (s2 : Sm e f) (s3 : Sm g h) (k0 : 0 ≤ dotI vx vy a b) (k1 : 0 ≤ dotI vx vy c d) (k2 : 0 ≤ dotI vx vy e f) (k3 : dotI vx vy g h < 0) :
    Calls Try.prog 53 #[arr4 a b c d e f g h, vec vx vy] w fun e w' => e = .returned (.bool false) ∧ Below w.heap.size w w' := by
  have D0 := Lib.hid (fun w => vdot_t vx vy a b w hv s0)
  have D1 := Lib.hid (fun w => vdot_t vx vy c d w hv s1)
  have D2 := Lib.hid (fun w => vdot_t vx vy e f w hv s2)
  have D3 := Lib.hid (fun w => vdot_t vx vy g h w hv s3)
  generalize dotI vx vy a b = n0 at *
  generalize dotI vx vy c d = n1 at *
  generalize dotI vx vy e f = n2 at *
  generalize dotI vx vy g h = n3 at *
  have I0 := idx0 a b c d e f g h
  have I1 := idx1 a b c d e f g h
  have I2 := idx2 a b c d e f g h
  have I3 := idx3 a b c d e f g h
  clear hv s0 s1 s2 s3
  go_enter Try.func53, Try.ntmps53
  go_wp2_with fail
  refine wp_loop_rounds 5 ?_
  rw [rounds_succ]
  go_wp2_with fail
  refine (D0.out _).mono ?_
  rintro e w1 ⟨rfl, hw⟩
  have V1 : Blk w1 (w.heap.size + 1) #[.int .i64 vx, .int .i64 vy] := ((blk_new (by simp)).alloc _).kept hw
  have q1 := in3 hw
  clear hw
  obtain ⟨v0, v1⟩ := Blk2 V1
  have z := V1.lt
  go_wp2_with fail
  rw [rounds_succ]
  go_wp2_with fail
  refine (D1.out _).mono ?_
  rintro e w2 ⟨rfl, hw⟩
  have V2 := blk_keep V1 hw
  have q2 := next1 q1 hw
  clear hw v0 v1 z V1 q1
  obtain ⟨v0, v1⟩ := Blk2 V2
  have z := V2.lt
  go_wp2_with fail
  rw [rounds_succ]
  go_wp2_with fail
  refine (D2.out _).mono ?_
  rintro e w3 ⟨rfl, hw⟩
  have V3 := blk_keep V2 hw
  have q3 := next1 q2 hw
  clear hw v0 v1 z V2 q2
  obtain ⟨v0, v1⟩ := Blk2 V3
  have z := V3.lt
  go_wp2_with fail
  rw [rounds_succ]
  go_wp2_with fail
  refine (D3.out _).mono ?_
  rintro e w4 ⟨rfl, hw⟩
  have V4 := blk_keep V3 hw
  have q4 := next1 q3 hw
  clear hw v0 v1 z V3 q3
  obtain ⟨v0, v1⟩ := Blk2 V4
  have z := V4.lt
  go_wp2_with fail
  go_ret
  exact ⟨rfl, q4⟩
set_option maxRecDepth 100000 in
theorem allow_any (a b c d e f g h vx vy : Int) (w : World) (hv : Sm vx vy) (s0 : Sm a b) (s1 : Sm c d) (s2 : Sm e f) (s3 : Sm g h) :
    Calls Try.prog 53 #[arr4 a b c d e f g h, vec vx vy] w fun z w' => z = .returned (.bool (alB a b c d e f g h vx vy)) ∧ Below w.heap.size w w' := by
  unfold alB
  by_cases k0 : 0 ≤ dotI vx vy a b
  · by_cases k1 : 0 ≤ dotI vx vy c d
    · by_cases k2 : 0 ≤ dotI vx vy e f
      · by_cases k3 : 0 ≤ dotI vx vy g h
        · rw [decide_eq_true ⟨k0, k1, k2, k3⟩]; exact allow_t a b c d e f g h vx vy w hv s0 s1 s2 s3 k0 k1 k2 k3
        · rw [decide_eq_false (fun m => k3 m.2.2.2)]; exact allow_f3 a b c d e f g h vx vy w hv s0 s1 s2 s3 k0 k1 k2 (by omega)
      · rw [decide_eq_false (fun m => k2 m.2.2.1)]; exact allow_f2 a b c d e f g h vx vy w hv s0 s1 s2 k0 k1 (by omega)
    · rw [decide_eq_false (fun m => k1 m.2.1)]; exact allow_f1 a b c d e f g h vx vy w hv s0 s1 k0 (by omega)
  · rw [decide_eq_false (fun m => k0 m.1)]; exact allow_f0 a b c d e f g h vx vy w hv s0 (by omega)
end Go.Proofs.Ytejodcpigfbnpaa

/-
  allow: a vector against four others.
  distance, better.
-/
import Derived.LoopN
import Derived.Test.YtdgfmkideghhaaaM04
namespace VB
open Go Go.RowKit PB
theorem blk_keep {w w1 : World} {g : Nat} {cs : Array Value} {o : Obj} (h : Blk w g cs) (hb : Below (w.alloc o).heap.size (w.alloc o) w1) : Blk w1 g cs := (h.alloc o).kept hb
theorem next1 {w0 w w1 : World} {o : Obj} (h : Below w0.heap.size w0 w) (hb : Below (w.alloc o).heap.size (w.alloc o) w1) : Below w0.heap.size w0 w1 := next h (in1 hb)
/-- A vector that allows the other one. -/
def alB (a b c d e f g h vx vy : Int) : Bool := decide (0 ≤ dotI vx vy a b ∧ 0 ≤ dotI vx vy c d ∧ 0 ≤ dotI vx vy e f ∧ 0 ≤ dotI vx vy g h)
end VB
namespace Go.Proofs.Ytdgfmkideghhaaa
open Go.RowKit PB VB
set_option maxRecDepth 100000 in
theorem idx0 (a b c d e f g h : Int) (w : World) : (Instr.index 91 (.agg #[.int .i64 a, .int .i64 b, .int .i64 c, .int .i64 d, .int .i64 e, .int .i64 f, .int .i64 g, .int .i64 h]) (.int .i64 0)).run Try.prog w = .ok (vec a b) w := by kernel_rfl
set_option maxRecDepth 100000 in
theorem idx1 (a b c d e f g h : Int) (w : World) : (Instr.index 91 (.agg #[.int .i64 a, .int .i64 b, .int .i64 c, .int .i64 d, .int .i64 e, .int .i64 f, .int .i64 g, .int .i64 h]) (.int .i64 1)).run Try.prog w = .ok (vec c d) w := by kernel_rfl
set_option maxRecDepth 100000 in
theorem idx2 (a b c d e f g h : Int) (w : World) : (Instr.index 91 (.agg #[.int .i64 a, .int .i64 b, .int .i64 c, .int .i64 d, .int .i64 e, .int .i64 f, .int .i64 g, .int .i64 h]) (.int .i64 2)).run Try.prog w = .ok (vec e f) w := by kernel_rfl
set_option maxRecDepth 100000 in
theorem idx3 (a b c d e f g h : Int) (w : World) : (Instr.index 91 (.agg #[.int .i64 a, .int .i64 b, .int .i64 c, .int .i64 d, .int .i64 e, .int .i64 f, .int .i64 g, .int .i64 h]) (.int .i64 3)).run Try.prog w = .ok (vec g h) w := by kernel_rfl
set_option maxRecDepth 100000 in
set_option maxHeartbeats 4000000 in
theorem allow_t (a b c d e f g h vx vy : Int) (w : World) (hv : Sm vx vy) (s0 : Sm a b) (s1 : Sm c d) (s2 : Sm e f) (s3 : Sm g h) (k0 : 0 ≤ dotI vx vy a b) (k1 : 0 ≤ dotI vx vy c d) (k2 : 0 ≤ dotI vx vy e f) (k3 : 0 ≤ dotI vx vy g h) :
    Calls Try.prog 106 #[arr4 a b c d e f g h, vec vx vy] w fun e w' => e = .returned (.bool true) ∧ Below w.heap.size w w' := by
  have D0 := Lib.hid (fun w => vdot_t vx vy a b w hv s0)
  have D1 := Lib.hid (fun w => vdot_t vx vy c d w hv s1)
  have D2 := Lib.hid (fun w => vdot_t vx vy e f w hv s2)
  have D3 := Lib.hid (fun w => vdot_t vx vy g h w hv s3)
  generalize dotI vx vy a b = n0 at *
  generalize dotI vx vy c d = n1 at *
  generalize dotI vx vy e f = n2 at *
  generalize dotI vx vy g h = n3 at *
  have I0 := idx0 a b c d e f g h
  have I1 := idx1 a b c d e f g h
  have I2 := idx2 a b c d e f g h
  have I3 := idx3 a b c d e f g h
  clear hv s0 s1 s2 s3
  go_enter Try.func106, Try.ntmps106
  go_wp2_with fail
  refine wp_loop_rounds 5 ?_
  rw [rounds_succ]
  go_wp2_with fail
  refine (D0.out _).mono ?_
  rintro e w1 ⟨rfl, hw⟩
  have V1 : Blk w1 (w.heap.size + 1) #[.int .i64 vx, .int .i64 vy] := ((blk_new (by simp)).alloc _).kept hw
  have q1 := in3 hw
  clear hw
  obtain ⟨v0, v1⟩ := Blk2 V1
  have z := V1.lt
  go_wp2_with fail
  rw [rounds_succ]
  go_wp2_with fail
  refine (D1.out _).mono ?_
  rintro e w2 ⟨rfl, hw⟩
  have V2 := blk_keep V1 hw
  have q2 := next1 q1 hw
  clear hw v0 v1 z V1 q1
  obtain ⟨v0, v1⟩ := Blk2 V2
  have z := V2.lt
  go_wp2_with fail
  rw [rounds_succ]
  go_wp2_with fail
  refine (D2.out _).mono ?_
  rintro e w3 ⟨rfl, hw⟩
  have V3 := blk_keep V2 hw
  have q3 := next1 q2 hw
  clear hw v0 v1 z V2 q2
  obtain ⟨v0, v1⟩ := Blk2 V3
  have z := V3.lt
  go_wp2_with fail
  rw [rounds_succ]
  go_wp2_with fail
  refine (D3.out _).mono ?_
  rintro e w4 ⟨rfl, hw⟩
  have V4 := blk_keep V3 hw
  have q4 := next1 q3 hw
  clear hw v0 v1 z V3 q3
  obtain ⟨v0, v1⟩ := Blk2 V4
  have z := V4.lt
  go_wp2_with fail
  rw [rounds_succ]
  go_wp2_with fail
  go_ret
  exact ⟨rfl, q4⟩
set_option maxRecDepth 100000 in
set_option maxHeartbeats 4000000 in
theorem allow_f0 (a b c d e f g h vx vy : Int) (w : World) (hv : Sm vx vy) (s0 : Sm a b) (k0 : dotI vx vy a b < 0) :
    Calls Try.prog 106 #[arr4 a b c d e f g h, vec vx vy] w fun e w' => e = .returned (.bool false) ∧ Below w.heap.size w w' := by
  have D0 := Lib.hid (fun w => vdot_t vx vy a b w hv s0)
  generalize dotI vx vy a b = n0 at *
  have I0 := idx0 a b c d e f g h
  clear hv s0
  go_enter Try.func106, Try.ntmps106
  go_wp2_with fail
  refine wp_loop_rounds 5 ?_
  rw [rounds_succ]
  go_wp2_with fail
  refine (D0.out _).mono ?_
  rintro e w1 ⟨rfl, hw⟩
  have V1 : Blk w1 (w.heap.size + 1) #[.int .i64 vx, .int .i64 vy] := ((blk_new (by simp)).alloc _).kept hw
  have q1 := in3 hw
  clear hw
  obtain ⟨v0, v1⟩ := Blk2 V1
  have z := V1.lt
  go_wp2_with fail
  go_ret
  exact ⟨rfl, q1⟩
set_option maxRecDepth 100000 in
set_option maxHeartbeats 4000000 in
theorem allow_f1 (a b c d e f g h vx vy : Int) (w : World) (hv : Sm vx vy) (s0 : Sm a b) (s1 : Sm c d) (k0 : 0 ≤ dotI vx vy a b) (k1 : dotI vx vy c d < 0) :
    Calls Try.prog 106 #[arr4 a b c d e f g h, vec vx vy] w fun e w' => e = .returned (.bool false) ∧ Below w.heap.size w w' := by
  have D0 := Lib.hid (fun w => vdot_t vx vy a b w hv s0)
  have D1 := Lib.hid (fun w => vdot_t vx vy c d w hv s1)
  generalize dotI vx vy a b = n0 at *
  generalize dotI vx vy c d = n1 at *
  have I0 := idx0 a b c d e f g h
  have I1 := idx1 a b c d e f g h
  clear hv s0 s1
  go_enter Try.func106, Try.ntmps106
  go_wp2_with fail
  refine wp_loop_rounds 5 ?_
  rw [rounds_succ]
  go_wp2_with fail
  refine (D0.out _).mono ?_
  rintro e w1 ⟨rfl, hw⟩
  have V1 : Blk w1 (w.heap.size + 1) #[.int .i64 vx, .int .i64 vy] := ((blk_new (by simp)).alloc _).kept hw
  have q1 := in3 hw
  clear hw
  obtain ⟨v0, v1⟩ := Blk2 V1
  have z := V1.lt
  go_wp2_with fail
  rw [rounds_succ]
  go_wp2_with fail
  refine (D1.out _).mono ?_
  rintro e w2 ⟨rfl, hw⟩
  have V2 := blk_keep V1 hw
  have q2 := next1 q1 hw
  clear hw v0 v1 z V1 q1
  obtain ⟨v0, v1⟩ := Blk2 V2
  have z := V2.lt
  go_wp2_with fail
  go_ret
  exact ⟨rfl, q2⟩
set_option maxRecDepth 100000 in
set_option maxHeartbeats 4000000 in
theorem allow_f2 (a b c d e f g h vx vy : Int) (w : World) (hv : Sm vx vy) (s0 : Sm a b) (s1 : Sm c d) (s2 : Sm e f) (k0 : 0 ≤ dotI vx vy a b) (k1 : 0 ≤ dotI vx vy c d) (k2 : dotI vx vy e f < 0) :
    Calls Try.prog 106 #[arr4 a b c d e f g h, vec vx vy] w fun e w' => e = .returned (.bool false) ∧ Below w.heap.size w w' := by
  have D0 := Lib.hid (fun w => vdot_t vx vy a b w hv s0)
  have D1 := Lib.hid (fun w => vdot_t vx vy c d w hv s1)
  have D2 := Lib.hid (fun w => vdot_t vx vy e f w hv s2)
  generalize dotI vx vy a b = n0 at *
  generalize dotI vx vy c d = n1 at *
  generalize dotI vx vy e f = n2 at *
  have I0 := idx0 a b c d e f g h
  have I1 := idx1 a b c d e f g h
  have I2 := idx2 a b c d e f g h
  clear hv s0 s1 s2
  go_enter Try.func106, Try.ntmps106
  go_wp2_with fail
  refine wp_loop_rounds 5 ?_
  rw [rounds_succ]
  go_wp2_with fail
  refine (D0.out _).mono ?_
  rintro e w1 ⟨rfl, hw⟩
  have V1 : Blk w1 (w.heap.size + 1) #[.int .i64 vx, .int .i64 vy] := ((blk_new (by simp)).alloc _).kept hw
  have q1 := in3 hw
  clear hw
  obtain ⟨v0, v1⟩ := Blk2 V1
  have z := V1.lt
  go_wp2_with fail
  rw [rounds_succ]
  go_wp2_with fail
  refine (D1.out _).mono ?_
  rintro e w2 ⟨rfl, hw⟩
  have V2 := blk_keep V1 hw
  have q2 := next1 q1 hw
  clear hw v0 v1 z V1 q1
  obtain ⟨v0, v1⟩ := Blk2 V2
  have z := V2.lt
  go_wp2_with fail
  rw [rounds_succ]
  go_wp2_with fail
  refine (D2.out _).mono ?_
  rintro e w3 ⟨rfl, hw⟩
  have V3 := blk_keep V2 hw
  have q3 := next1 q2 hw
  clear hw v0 v1 z V2 q2
  obtain ⟨v0, v1⟩ := Blk2 V3
  have z := V3.lt
  go_wp2_with fail
  go_ret
  exact ⟨rfl, q3⟩
set_option maxRecDepth 100000 in
set_option maxHeartbeats 4000000 in
theorem allow_f3 (a b c d e f g h vx vy : Int) (w : World) (hv : Sm vx vy) (s0 : Sm a b) (s1 : Sm c d) (s2 : Sm e f) (s3 : Sm g h) (k0 : 0 ≤ dotI vx vy a b) (k1 : 0 ≤ dotI vx vy c d) (k2 : 0 ≤ dotI vx vy e f) (k3 : dotI vx vy g h < 0) :
    Calls Try.prog 106 #[arr4 a b c d e f g h, vec vx vy] w fun e w' => e = .returned (.bool false) ∧ Below w.heap.size w w' := by
  have D0 := Lib.hid (fun w => vdot_t vx vy a b w hv s0)
  have D1 := Lib.hid (fun w => vdot_t vx vy c d w hv s1)
  have D2 := Lib.hid (fun w => vdot_t vx vy e f w hv s2)
  have D3 := Lib.hid (fun w => vdot_t vx vy g h w hv s3)
  generalize dotI vx vy a b = n0 at *
  generalize dotI vx vy c d = n1 at *
  generalize dotI vx vy e f = n2 at *
  generalize dotI vx vy g h = n3 at *
  have I0 := idx0 a b c d e f g h
  have I1 := idx1 a b c d e f g h
  have I2 := idx2 a b c d e f g h
  have I3 := idx3 a b c d e f g h
  clear hv s0 s1 s2 s3
  go_enter Try.func106, Try.ntmps106
  go_wp2_with fail
  refine wp_loop_rounds 5 ?_
  rw [rounds_succ]
  go_wp2_with fail
  refine (D0.out _).mono ?_
  rintro e w1 ⟨rfl, hw⟩
  have V1 : Blk w1 (w.heap.size + 1) #[.int .i64 vx, .int .i64 vy] := ((blk_new (by simp)).alloc _).kept hw
  have q1 := in3 hw
  clear hw
  obtain ⟨v0, v1⟩ := Blk2 V1
  have z := V1.lt
  go_wp2_with fail
  rw [rounds_succ]
  go_wp2_with fail
  refine (D1.out _).mono ?_
  rintro e w2 ⟨rfl, hw⟩
  have V2 := blk_keep V1 hw
  have q2 := next1 q1 hw
  clear hw v0 v1 z V1 q1
  obtain ⟨v0, v1⟩ := Blk2 V2
  have z := V2.lt
  go_wp2_with fail
  rw [rounds_succ]
  go_wp2_with fail
  refine (D2.out _).mono ?_
  rintro e w3 ⟨rfl, hw⟩
  have V3 := blk_keep V2 hw
  have q3 := next1 q2 hw
  clear hw v0 v1 z V2 q2
  obtain ⟨v0, v1⟩ := Blk2 V3
  have z := V3.lt
  go_wp2_with fail
  rw [rounds_succ]
  go_wp2_with fail
  refine (D3.out _).mono ?_
  rintro e w4 ⟨rfl, hw⟩
  have V4 := blk_keep V3 hw
  have q4 := next1 q3 hw
  clear hw v0 v1 z V3 q3
  obtain ⟨v0, v1⟩ := Blk2 V4
  have z := V4.lt
  go_wp2_with fail
  go_ret
  exact ⟨rfl, q4⟩
set_option maxRecDepth 100000 in
theorem allow_any (a b c d e f g h vx vy : Int) (w : World) (hv : Sm vx vy) (s0 : Sm a b) (s1 : Sm c d) (s2 : Sm e f) (s3 : Sm g h) :
    Calls Try.prog 106 #[arr4 a b c d e f g h, vec vx vy] w fun z w' => z = .returned (.bool (alB a b c d e f g h vx vy)) ∧ Below w.heap.size w w' := by
  unfold alB
  by_cases k0 : 0 ≤ dotI vx vy a b
  · by_cases k1 : 0 ≤ dotI vx vy c d
    · by_cases k2 : 0 ≤ dotI vx vy e f
      · by_cases k3 : 0 ≤ dotI vx vy g h
        · rw [decide_eq_true ⟨k0, k1, k2, k3⟩]; exact allow_t a b c d e f g h vx vy w hv s0 s1 s2 s3 k0 k1 k2 k3
        · rw [decide_eq_false (fun m => k3 m.2.2.2)]; exact allow_f3 a b c d e f g h vx vy w hv s0 s1 s2 s3 k0 k1 k2 (by omega)
      · rw [decide_eq_false (fun m => k2 m.2.2.1)]; exact allow_f2 a b c d e f g h vx vy w hv s0 s1 s2 k0 k1 (by omega)
    · rw [decide_eq_false (fun m => k1 m.2.1)]; exact allow_f1 a b c d e f g h vx vy w hv s0 s1 k0 (by omega)
  · rw [decide_eq_false (fun m => k0 m.1)]; exact allow_f0 a b c d e f g h vx vy w hv s0 (by omega)
end Go.Proofs.Ytdgfmkideghhaaa

namespace VB
open Go Go.RowKit PB
/-- The square of the distance. -/
def distI (xx xy yx yy : Int) : Int := (yx - xx) * (yx - xx) + (yy - xy) * (yy - xy)
/-- First by the distance, then by the length. -/
def lexB (d1 d2 l1 l2 : Int) : Bool := decide (d1 < d2 ∨ d1 = d2 ∧ l1 < l2)
def orI (p q : Int) : Int := if p = 0 then q else p
theorem lex_or (d1 d2 l1 l2 : Int) : decide (orI (Lib.compareInt d1 d2) (Lib.compareInt l1 l2) < 0) = lexB d1 d2 l1 l2 := by
  unfold orI Lib.compareInt lexB
  congr 1
  apply propext
  by_cases h1 : d1 < d2
  · simp [h1]
  · by_cases h2 : d2 < d1
    · simp [h1, h2]; omega
    · by_cases h3 : l1 < l2
      · simp [h1, h2, h3]; omega
      · by_cases h4 : l2 < l1
        · simp [h1, h2, h3, h4]
        · simp [h1, h2, h3, h4]
end VB
namespace Go.Proofs.Ytdgfmkideghhaaa
open Go.RowKit PB VB
set_option maxRecDepth 100000 in
theorem sq_pos (a : Int) : 0 ≤ a * a := by
  rcases Int.le_total 0 a with h | h
  · exact Int.mul_nonneg h h
  · exact Int.mul_nonneg_of_nonpos_of_nonpos h h
set_option maxRecDepth 100000 in
set_option maxHeartbeats 1000000 in
theorem dist_any (xx xy yx yy : Int) (w : World) (hx : Sm xx xy) (hy : Sm yx yy) (hd : distI xx xy yx yy ≤ 9223372036854775807) :
    Calls Try.prog 141 #[vec xx xy, vec yx yy] w fun e w' => e = .returned (.int .i64 (distI xx xy yx yy)) ∧ Below w.heap.size w w' := by
  unfold distI at hd
  have g1 := sq_pos (yx - xx)
  have g2 := sq_pos (yy - xy)
  obtain ⟨a1, a2, a3, a4⟩ := hx
  obtain ⟨b1, b2, b3, b4⟩ := hy
  have e1 : IntKind.i64.wrap (yx - xx) = yx - xx := IntWalk.i64_in _ (by omega)
  have e2 : IntKind.i64.wrap (yy - xy) = yy - xy := IntWalk.i64_in _ (by omega)
  go_enter Try.func141, Try.ntmps141
  go_wp2_with fail
  go_quiet (fail)
  clear e1 e2
  go_wp2_with fail
  go_ret
  exact ⟨rfl, below_drewN (((Below.refl _ _).alloc (Nat.le_refl _) _).alloc (by simp) _) _⟩
set_option maxRecDepth 100000 in
theorem iret0 {a b : Int} (h : a = b) : Ending.returned (.int .i64 a) = Ending.returned (.int .i64 b) := by rw [h]
set_option maxRecDepth 100000 in
set_option maxHeartbeats 1000000 in
theorem or_any (g : Nat) (p q : Int) (w : World) (h : Blk w g #[.int .i64 p, .int .i64 q]) :
    Calls Try.prog 140 #[.slice (some ⟨g, 0, none⟩) 2 2] w fun e w' => e = .returned (.int .i64 (orI p q)) ∧ w = w' := by
  obtain ⟨c0, c1⟩ := Blk2 h
  by_cases hp : p = 0
  · have E := Lib.hid (show orI p q = q from if_pos hp)
    subst hp
    by_cases hq : q = 0
    · subst hq
      go_enter Try.func140, Try.ntmps140
      go_wp2_with fail
      refine wp_loop_rounds 3 ?_
      rw [rounds_succ]
      go_wp2_with fail
      rw [rounds_succ]
      go_wp2_with fail
      rw [rounds_succ]
      go_wp2_with fail
      go_ret
      exact ⟨iret0 E.out.symm, rfl⟩
    · have k : (q == 0) = false := by simpa using hq
      have k' : (q != 0) = true := by simpa using hq
      clear hq
      go_enter Try.func140, Try.ntmps140
      go_wp2_with fail
      refine wp_loop_rounds 3 ?_
      rw [rounds_succ]
      go_wp2_with fail
      rw [rounds_succ]
      go_wp2_with fail
      go_ret
      exact ⟨iret0 E.out.symm, rfl⟩
  · have E := Lib.hid (show orI p q = p from if_neg hp)
    have k : (p == 0) = false := by simpa using hp
    have k' : (p != 0) = true := by simpa using hp
    clear hp
    go_enter Try.func140, Try.ntmps140
    go_wp2_with fail
    refine wp_loop_rounds 3 ?_
    rw [rounds_succ]
    go_wp2_with fail
    go_ret
    exact ⟨iret0 E.out.symm, rfl⟩
set_option maxRecDepth 100000 in
theorem comp_any (x y : Int) (w : World) : Calls Try.prog 131 #[.int .i64 x, .int .i64 y] w fun e w' => e = .returned (.int .i64 (Lib.compareInt x y)) ∧ w = w' :=
  (Try.cmp_Compare_int x y w).mono fun _ _ h => ⟨h.1, h.2.symm⟩
set_option maxRecDepth 100000 in
set_option maxHeartbeats 4000000 in
theorem better_any (yx yy zx zy xx xy : Int) (w : World) (hx : Sm xx xy) (hy : Sm yx yy) (hz : Sm zx zy) (d1 : distI xx xy yx yy ≤ 9223372036854775807) (d2 : distI xx xy zx zy ≤ 9223372036854775807) :
    Calls Try.prog 108 #[vec yx yy, vec zx zy, vec xx xy] w fun e w' => e = .returned (.bool (lexB (distI xx xy yx yy) (distI xx xy zx zy) (dotI yx yy yx yy) (dotI zx zy zx zy))) ∧ Below w.heap.size w w' := by
  have E := Lib.hid (lex_or (distI xx xy yx yy) (distI xx xy zx zy) (dotI yx yy yx yy) (dotI zx zy zx zy))
  have D1 := Lib.hid (fun w => dist_any xx xy yx yy w hx hy d1)
  have D2 := Lib.hid (fun w => dist_any xx xy zx zy w hx hz d2)
  have L1 := Lib.hid (fun w => vdot_t yx yy yx yy w hy hy)
  have L2 := Lib.hid (fun w => vdot_t zx zy zx zy w hz hz)
  clear d1 d2 hx hy hz
  generalize distI xx xy yx yy = d1 at *
  generalize distI xx xy zx zy = d2 at *
  generalize dotI yx yy yx yy = l1 at *
  generalize dotI zx zy zx zy = l2 at *
  generalize lexB d1 d2 l1 l2 = res at *
  go_enter Try.func108, Try.ntmps108
  go_wp2_with fail
  generalize hW : World.alloc _ _ = W
  have BY : Blk W w.heap.size #[.int .i64 yx, .int .i64 yy] := by rw [← hW]; exact ((blk_new rfl).alloc _).alloc _
  have BZ : Blk W (w.heap.size + 1) #[.int .i64 zx, .int .i64 zy] := by rw [← hW]; exact (blk_new (by simp)).alloc _
  have BX : Blk W (w.heap.size + 1 + 1) #[.int .i64 xx, .int .i64 xy] := by rw [← hW]; exact blk_new (by simp)
  have hBW : Below w.heap.size w W := by rw [← hW]; exact (((Below.refl _ _).alloc (Nat.le_refl _) _).alloc (by simp) _).alloc (by simp; omega) _
  clear hW
  have HK := Lib.hid (show ∀ w1, Below W.heap.size W w1 → (w1.cell? ⟨w.heap.size, 0, none⟩ = some (.int .i64 yx) ∧ w1.cell? ⟨w.heap.size, 1, none⟩ = some (.int .i64 yy)) ∧ (w1.cell? ⟨w.heap.size + 1, 0, none⟩ = some (.int .i64 zx) ∧ w1.cell? ⟨w.heap.size + 1, 1, none⟩ = some (.int .i64 zy)) ∧ (w1.cell? ⟨w.heap.size + 1 + 1, 0, none⟩ = some (.int .i64 xx) ∧ w1.cell? ⟨w.heap.size + 1 + 1, 1, none⟩ = some (.int .i64 xy)) from
    fun w1 h => ⟨Blk2 (BY.kept h), Blk2 (BZ.kept h), Blk2 (BX.kept h)⟩)
  obtain ⟨⟨a0, a1⟩, ⟨b0, b1⟩, c0, c1⟩ := HK.out _ (Below.refl _ _)
  have HB := Lib.hid hBW
  clear BY BZ BX hBW
  have hq : Below W.heap.size W W := Below.refl _ _
  go_region_held3 (fun w' => (w'.cell? ⟨w.heap.size, 0, none⟩ = some (.int .i64 yx) ∧ w'.cell? ⟨w.heap.size, 1, none⟩ = some (.int .i64 yy)) ∧ (w'.cell? ⟨w.heap.size + 1, 0, none⟩ = some (.int .i64 zx) ∧ w'.cell? ⟨w.heap.size + 1, 1, none⟩ = some (.int .i64 zy)) ∧ (w'.cell? ⟨w.heap.size + 1 + 1, 0, none⟩ = some (.int .i64 xx) ∧ w'.cell? ⟨w.heap.size + 1 + 1, 1, none⟩ = some (.int .i64 xy)))
    (first | exact ⟨⟨a0, a1⟩, ⟨b0, b1⟩, c0, c1⟩ | exact HK.out _ hq | exact HK.out _ (hq.alloc hq.size _))
    (first
      | (go_at_call 141; (with_reducible refine (D1.out _).mono ?_); rintro e x1 ⟨rfl, hx1⟩; have hq : Below W.heap.size W x1 := (by first | exact hq.trans (hx1.mono hq.size) | exact hq.trans (below_undrew (hx1.mono hq.size))))
      | (go_at_call 141; (with_reducible refine (D2.out _).mono ?_); rintro e x1 ⟨rfl, hx1⟩; have hq : Below W.heap.size W x1 := (by first | exact hq.trans (hx1.mono hq.size) | exact hq.trans (below_undrew (hx1.mono hq.size))))
      | (go_at_call 47; (with_reducible refine (L1.out _).mono ?_); rintro e x1 ⟨rfl, hx1⟩; have hq : Below W.heap.size W x1 := (by first | exact hq.trans (hx1.mono hq.size) | exact hq.trans (below_undrew (hx1.mono hq.size))))
      | (go_at_call 47; (with_reducible refine (L2.out _).mono ?_); rintro e x1 ⟨rfl, hx1⟩; have hq : Below W.heap.size W x1 := (by first | exact hq.trans (hx1.mono hq.size) | exact hq.trans (below_undrew (hx1.mono hq.size))))
      | (go_at_call 131; refine (comp_any _ _ _).mono ?_; rintro e x1 ⟨rfl, rfl⟩)
      | (go_at_call 140; refine (or_any _ _ _ _ (blk_new rfl)).mono ?_; rintro e x9 ⟨rfl, rfl⟩)
      | fail "no arm")
  go_wp2_with fail
  go_ret
  exact bret E.out (HB.out.trans ((hq.alloc hq.size _).mono HB.out.size))
end Go.Proofs.Ytdgfmkideghhaaa

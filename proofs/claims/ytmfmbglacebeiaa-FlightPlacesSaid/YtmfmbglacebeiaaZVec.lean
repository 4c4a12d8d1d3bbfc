/-
  Numbers of any size and their texts, as the reference has them: cut out of the texts of stage 1 (slice.py).
-/
import Derived.LoopN
import Derived.RegionTactic
import Derived.ChangeAlike
import Derived.Deep.DeepCutAuto
import Derived.Lib.ItoaNum
import Derived.Lib.BitFns
import Derived.Test.YtmfmbglacebeiaaProg
import Derived.Test.YtmfmbglacebeiaaChecked
import Derived.Test.YtmfmbglacebeiaaBlk
import Derived.Test.YtmfmbglacebeiaaVSm
namespace VB
open Go Go.RowKit PB
theorem mul_bd {a b : Int} (h1 : -1073741824 ≤ a) (h2 : a ≤ 1073741824) (h3 : -1073741824 ≤ b) (h4 : b ≤ 1073741824) : -1152921504606846976 ≤ a * b ∧ a * b ≤ 1152921504606846976 := by
  have h : (a * b).natAbs ≤ 1152921504606846976 := by
    rw [Int.natAbs_mul]
    exact Nat.mul_le_mul (show a.natAbs ≤ 1073741824 by omega) (show b.natAbs ≤ 1073741824 by omega)
  omega
def dotI (ax ay bx b_ : Int) : Int := ax * bx + ay * b_
end VB
namespace Go.Proofs.Ytmfmbglacebeiaa
open Go.RowKit PB VB
set_option maxRecDepth 100000 in
theorem vint_ret {a b : Int} {w w' : World} (h : a = b) (hb : Below w.heap.size w w') : Ending.returned (.int .i64 a) = Ending.returned (.int .i64 b) ∧ Below w.heap.size w w' := ⟨by rw [h], hb⟩
set_option maxRecDepth 100000 in
theorem bret {a b : Bool} {w w' : World} (h : a = b) (hb : Below w.heap.size w w') : Ending.returned (.bool a) = Ending.returned (.bool b) ∧ Below w.heap.size w w' := ⟨by rw [h], hb⟩
set_option maxRecDepth 100000 in
theorem vdot_t (ax ay bx b_ : Int) (w : World) (ha : Sm ax ay) (hb : Sm bx b_) : Calls Try.prog 34 #[vec ax ay, vec bx b_] w fun e w' => e = .returned (.int .i64 (dotI ax ay bx b_)) ∧ Below w.heap.size w w' := by
  obtain ⟨h1, h1'⟩ := mul_bd ha.a ha.b hb.a hb.b
  obtain ⟨h2, h2'⟩ := mul_bd ha.c ha.d hb.c hb.d
  go_enter Try.func34, Try.ntmps34
  go_wp2_with fail
  refine (vsmall_t _ _ _ ha).mono ?_
  rintro e w1 ⟨rfl, hw1⟩
  have A1 := blk_prev hw1
  have B1 := blk_last2 hw1
  have q1 := in2 hw1
  obtain ⟨a0, a1⟩ := Blk2 A1
  obtain ⟨b0, b1⟩ := Blk2 B1
  clear hw1
  go_wp2_with fail
  refine (vsmall_t _ _ _ hb).mono ?_
  rintro e w2 ⟨rfl, hw2⟩
  obtain ⟨a2, a3⟩ := Blk2 (A1.kept hw2)
  obtain ⟨b2, b3⟩ := Blk2 (B1.kept hw2)
  clear a0 a1 b0 b1
  go_wp2_with fail
  go_ret
  exact vint_ret rfl (next q1 hw2)
set_option maxRecDepth 100000 in
theorem vdot_f (ax ay bx b_ : Int) (w : World) (h : ¬ (Sm ax ay ∧ Sm bx b_)) : Calls Try.prog 34 #[vec ax ay, vec bx b_] w fun e w' => e = .returned (.int .i64 0) ∧ Below w.heap.size w w' := by
  by_cases ha : Sm ax ay
  · have hb : ¬ Sm bx b_ := fun hb => h ⟨ha, hb⟩
    clear h
    go_enter Try.func34, Try.ntmps34
    go_wp2_with fail
    refine (vsmall_t _ _ _ ha).mono ?_
    rintro e w1 ⟨rfl, hw1⟩
    have B1 := blk_last2 hw1
    have q1 := in2 hw1
    obtain ⟨b0, b1⟩ := Blk2 B1
    clear hw1
    go_wp2_with fail
    refine (vsmall_f _ _ _ hb).mono ?_
    rintro e w2 ⟨rfl, hw2⟩
    go_wp2_with fail
    go_ret
    exact vint_ret rfl (next q1 hw2)
  · clear h
    go_enter Try.func34, Try.ntmps34
    go_wp2_with fail
    refine (vsmall_f _ _ _ ha).mono ?_
    rintro e w1 ⟨rfl, hw1⟩
    go_wp2_with fail
    go_ret
    exact vint_ret rfl (in2 hw1)
end Go.Proofs.Ytmfmbglacebeiaa

namespace Go.Proofs.Ytmfmbglacebeiaa
open Go.RowKit PB VB
set_option maxRecDepth 100000 in
theorem rsmall_t (x y : Int) (w : World) (h : Sm x y) : Calls Try.prog 45 #[vec x y] w fun e w' => e = .returned (.bool true) ∧ Below w.heap.size w w' := by
  obtain ⟨a, b, c, d⟩ := h
  go_enter Try.func45, Try.ntmps45
  go_wp2
  go_ret
  exact ⟨rfl, (Below.refl _ _).alloc (Nat.le_refl _) _⟩
set_option maxRecDepth 100000 in
theorem rsmall_f (x y : Int) (w : World) (h : ¬ Sm x y) : Calls Try.prog 45 #[vec x y] w fun e w' => e = .returned (.bool false) ∧ Below w.heap.size w w' := by
  by_cases h0 : -1073741824 ≤ x
  case neg =>
    clear h
    have k : decide (-1073741824 ≤ x) = false := decide_eq_false h0
    clear h0
    go_enter Try.func45, Try.ntmps45
    go_wp2
    go_ret
    exact ⟨rfl, (Below.refl _ _).alloc (Nat.le_refl _) _⟩
  by_cases h1 : x ≤ 1073741824
  case neg =>
    clear h
    have k : decide (x ≤ 1073741824) = false := decide_eq_false h1
    clear h1
    go_enter Try.func45, Try.ntmps45
    go_wp2
    go_ret
    exact ⟨rfl, (Below.refl _ _).alloc (Nat.le_refl _) _⟩
  by_cases h2 : -1073741824 ≤ y
  case neg =>
    clear h
    have k : decide (-1073741824 ≤ y) = false := decide_eq_false h2
    clear h2
    go_enter Try.func45, Try.ntmps45
    go_wp2
    go_ret
    exact ⟨rfl, (Below.refl _ _).alloc (Nat.le_refl _) _⟩
  by_cases h3 : y ≤ 1073741824
  case neg =>
    clear h
    have k : decide (y ≤ 1073741824) = false := decide_eq_false h3
    clear h3
    go_enter Try.func45, Try.ntmps45
    go_wp2
    go_ret
    exact ⟨rfl, (Below.refl _ _).alloc (Nat.le_refl _) _⟩
  case pos => exact absurd ⟨h0, h1, h2, h3⟩ h
set_option maxRecDepth 100000 in
theorem rdot_t (ax ay bx b_ : Int) (w : World) (ha : Sm ax ay) (hb : Sm bx b_) : Calls Try.prog 35 #[vec ax ay, vec bx b_] w fun e w' => e = .returned (.int .i64 (dotI ax ay bx b_)) ∧ Below w.heap.size w w' := by
  obtain ⟨h1, h1'⟩ := mul_bd ha.a ha.b hb.a hb.b
  obtain ⟨h2, h2'⟩ := mul_bd ha.c ha.d hb.c hb.d
  go_enter Try.func35, Try.ntmps35
  go_wp2_with fail
  refine (rsmall_t _ _ _ ha).mono ?_
  rintro e w1 ⟨rfl, hw1⟩
  have A1 := blk_prev hw1
  have B1 := blk_last2 hw1
  have q1 := in2 hw1
  obtain ⟨a0, a1⟩ := Blk2 A1
  obtain ⟨b0, b1⟩ := Blk2 B1
  clear hw1
  go_wp2_with fail
  refine (rsmall_t _ _ _ hb).mono ?_
  rintro e w2 ⟨rfl, hw2⟩
  obtain ⟨a2, a3⟩ := Blk2 (A1.kept hw2)
  obtain ⟨b2, b3⟩ := Blk2 (B1.kept hw2)
  clear a0 a1 b0 b1
  go_wp2_with fail
  go_ret
  exact vint_ret rfl (next q1 hw2)
set_option maxRecDepth 100000 in
theorem rdot_f (ax ay bx b_ : Int) (w : World) (h : ¬ (Sm ax ay ∧ Sm bx b_)) : Calls Try.prog 35 #[vec ax ay, vec bx b_] w fun e w' => e = .returned (.int .i64 0) ∧ Below w.heap.size w w' := by
  by_cases ha : Sm ax ay
  · have hb : ¬ Sm bx b_ := fun hb => h ⟨ha, hb⟩
    clear h
    go_enter Try.func35, Try.ntmps35
    go_wp2_with fail
    refine (rsmall_t _ _ _ ha).mono ?_
    rintro e w1 ⟨rfl, hw1⟩
    have B1 := blk_last2 hw1
    have q1 := in2 hw1
    obtain ⟨b0, b1⟩ := Blk2 B1
    clear hw1
    go_wp2_with fail
    refine (rsmall_f _ _ _ hb).mono ?_
    rintro e w2 ⟨rfl, hw2⟩
    go_wp2_with fail
    go_ret
    exact vint_ret rfl (next q1 hw2)
  · clear h
    go_enter Try.func35, Try.ntmps35
    go_wp2_with fail
    refine (rsmall_f _ _ _ ha).mono ?_
    rintro e w1 ⟨rfl, hw1⟩
    go_wp2_with fail
    go_ret
    exact vint_ret rfl (in2 hw1)
end Go.Proofs.Ytmfmbglacebeiaa

namespace VB
/-- A vector if it is small. -/
def kp (x y : Int) : Int × Int := if Sm x y then (x, y) else (0, 0)
theorem kp_t {x y : Int} (h : Sm x y) : kp x y = (x, y) := if_pos h
theorem kp_f {x y : Int} (h : ¬ Sm x y) : kp x y = (0, 0) := if_neg h
open Classical in
noncomputable def addV (ax ay bx b_ : Int) : Int × Int := if Sm ax ay ∧ Sm bx b_ then kp (ax + bx) (ay + b_) else (0, 0)
end VB
namespace Go.Proofs.Ytmfmbglacebeiaa
open Go.RowKit PB VB
set_option maxRecDepth 100000 in
theorem vbnd_t (x y : Int) (w : World) (h : Sm x y) : Calls Try.prog 40 #[vec x y] w fun e w' => e = .returned (vec (kp x y).1 (kp x y).2) ∧ Below w.heap.size w w' := by
  have E := Lib.hid (kp_t h)
  go_enter Try.func40, Try.ntmps40
  go_wp2_with fail
  refine (vsmall_t _ _ _ h).mono ?_
  rintro e w1 ⟨rfl, hw1⟩
  have V1 := blk_prev hw1
  have R1 := blk_last2 hw1
  have q1 := in2 hw1
  obtain ⟨a0, a1⟩ := Blk2 V1
  obtain ⟨r0, r1⟩ := Blk2 R1
  obtain ⟨f0, f1⟩ := Blk2f R1
  clear hw1
  go_wp2_with fail
  refine bodyPost_ret (blk_res rfl _ rfl (blk_set2 R1) Try.underlying23 rfl (by rfl)) rfl ⟨by rw [E.out], (q1.setCell (by dsimp only; omega) _).setCell (by dsimp only; omega) _⟩
set_option maxRecDepth 100000 in
theorem vbnd_f (x y : Int) (w : World) (h : ¬ Sm x y) : Calls Try.prog 40 #[vec x y] w fun e w' => e = .returned (vec (kp x y).1 (kp x y).2) ∧ Below w.heap.size w w' := by
  have E := Lib.hid (kp_f h)
  go_enter Try.func40, Try.ntmps40
  go_wp2_with fail
  refine (vsmall_f _ _ _ h).mono ?_
  rintro e w1 ⟨rfl, hw1⟩
  have V1 := blk_prev hw1
  have R1 := blk_last2 hw1
  have q1 := in2 hw1
  obtain ⟨a0, a1⟩ := Blk2 V1
  obtain ⟨r0, r1⟩ := Blk2 R1
  obtain ⟨f0, f1⟩ := Blk2f R1
  clear hw1
  go_wp2_with fail
  refine bodyPost_ret (blk_res rfl _ rfl (blk_set2 R1) Try.underlying23 rfl (by rfl)) rfl ⟨by rw [E.out], (q1.setCell (by dsimp only; omega) _).setCell (by dsimp only; omega) _⟩
set_option maxRecDepth 100000 in
theorem vbnd_any (x y : Int) (w : World) : Calls Try.prog 40 #[vec x y] w fun e w' => e = .returned (vec (kp x y).1 (kp x y).2) ∧ Below w.heap.size w w' := by
  by_cases h : Sm x y
  · exact vbnd_t x y w h
  · exact vbnd_f x y w h
set_option maxRecDepth 100000 in
set_option maxHeartbeats 1000000 in
theorem vadd_t (ax ay bx b_ : Int) (w : World) (ha : Sm ax ay) (hb : Sm bx b_) : Calls Try.prog 25 #[vec ax ay, vec bx b_] w fun e w' => e = .returned (vec (addV ax ay bx b_).1 (addV ax ay bx b_).2) ∧ Below w.heap.size w w' := by
  have E := Lib.hid (show addV ax ay bx b_ = kp (ax + bx) (ay + b_) from if_pos ⟨ha, hb⟩)
  have a1 := ha.a; have a2 := ha.b; have a3 := ha.c; have a4 := ha.d
  have b1 := hb.a; have b2 := hb.b; have b3 := hb.c; have b4 := hb.d
  go_enter Try.func25, Try.ntmps25
  go_wp2_with fail
  refine (vsmall_t _ _ _ ha).mono ?_
  rintro e w1 ⟨rfl, hw1⟩
  have A1 : Blk w1 w.heap.size #[.int .i64 ax, .int .i64 ay] := (((blk_new rfl).alloc _).alloc _).kept hw1
  have B1 : Blk w1 (w.heap.size + 1) #[.int .i64 bx, .int .i64 b_] := ((blk_new (by simp)).alloc _).kept hw1
  have R1 : Blk w1 (w.heap.size + 1 + 1) #[.int .i64 0, .int .i64 0] := (blk_new (by simp)).kept hw1
  have q1 := in3 hw1
  obtain ⟨n0, n1⟩ := Blk2 B1
  clear hw1
  go_wp2_with fail
  refine (vsmall_t _ _ _ hb).mono ?_
  rintro e w2 ⟨rfl, hw2⟩
  have A2 := A1.kept hw2
  have B2 := B1.kept hw2
  have R2 := R1.kept hw2
  have q2 := next q1 hw2
  clear hw2 A1 B1 R1 n0 n1 q1
  obtain ⟨m0, m1⟩ := Blk2 A2
  obtain ⟨n0, n1⟩ := Blk2 B2
  go_wp2_with fail
  refine (vbnd_any _ _ _).mono ?_
  rintro e w3 ⟨rfl, hw3⟩
  have R3 := R2.kept hw3
  have q3 := next q2 hw3
  clear hw3 A2 B2 R2 n0 n1 m0 m1 q2
  obtain ⟨r0, r1⟩ := Blk2 R3
  obtain ⟨f0, f1⟩ := Blk2f R3
  go_wp2_with fail
  refine bodyPost_ret (blk_res rfl _ rfl (blk_set2 R3) Try.underlying23 rfl (by rfl)) rfl ⟨by rw [E.out], (q3.setCell (by dsimp only; omega) _).setCell (by dsimp only; omega) _⟩
set_option maxRecDepth 100000 in
set_option maxHeartbeats 1000000 in
theorem vadd_f (ax ay bx b_ : Int) (w : World) (hc : ¬ (Sm ax ay ∧ Sm bx b_)) : Calls Try.prog 25 #[vec ax ay, vec bx b_] w fun e w' => e = .returned (vec (addV ax ay bx b_).1 (addV ax ay bx b_).2) ∧ Below w.heap.size w w' := by
  have E := Lib.hid (show addV ax ay bx b_ = (0, 0) from if_neg hc)
  by_cases hv : Sm ax ay
  · have hn : ¬ Sm bx b_ := fun hn => hc ⟨hv, hn⟩
    clear hc
    go_enter Try.func25, Try.ntmps25
    go_wp2_with fail
    refine (vsmall_t _ _ _ hv).mono ?_
    rintro e w1 ⟨rfl, hw1⟩
    have B1 : Blk w1 (w.heap.size + 1) #[.int .i64 bx, .int .i64 b_] := ((blk_new (by simp)).alloc _).kept hw1
    have R1 : Blk w1 (w.heap.size + 1 + 1) #[.int .i64 0, .int .i64 0] := (blk_new (by simp)).kept hw1
    have q1 := in3 hw1
    obtain ⟨n0, n1⟩ := Blk2 B1
    clear hw1
    go_wp2_with fail
    refine (vsmall_f _ _ _ hn).mono ?_
    rintro e w2 ⟨rfl, hw2⟩
    have R2 := R1.kept hw2
    have q2 := next q1 hw2
    clear hw2 B1 R1 n0 n1 q1
    obtain ⟨r0, r1⟩ := Blk2 R2
    obtain ⟨f0, f1⟩ := Blk2f R2
    go_wp2_with fail
    refine bodyPost_ret (blk_res rfl _ rfl (blk_set2 R2) Try.underlying23 rfl (by rfl)) rfl ⟨by rw [E.out], (q2.setCell (by dsimp only; omega) _).setCell (by dsimp only; omega) _⟩
  · clear hc
    go_enter Try.func25, Try.ntmps25
    go_wp2_with fail
    refine (vsmall_f _ _ _ hv).mono ?_
    rintro e w2 ⟨rfl, hw1⟩
    have R2 : Blk w2 (w.heap.size + 1 + 1) #[.int .i64 0, .int .i64 0] := (blk_new (by simp)).kept hw1
    have q2 := in3 hw1
    clear hw1
    obtain ⟨r0, r1⟩ := Blk2 R2
    obtain ⟨f0, f1⟩ := Blk2f R2
    go_wp2_with fail
    refine bodyPost_ret (blk_res rfl _ rfl (blk_set2 R2) Try.underlying23 rfl (by rfl)) rfl ⟨by rw [E.out], (q2.setCell (by dsimp only; omega) _).setCell (by dsimp only; omega) _⟩
set_option maxRecDepth 100000 in
theorem vadd_any (ax ay bx b_ : Int) (w : World) : Calls Try.prog 25 #[vec ax ay, vec bx b_] w fun e w' => e = .returned (vec (addV ax ay bx b_).1 (addV ax ay bx b_).2) ∧ Below w.heap.size w w' := by
  by_cases h : Sm ax ay ∧ Sm bx b_
  · exact vadd_t ax ay bx b_ w h.1 h.2
  · exact vadd_f ax ay bx b_ w h
end Go.Proofs.Ytmfmbglacebeiaa







namespace VB
open Go Go.RowKit PB
/-- The first and the last of one half. -/
structure Half where
  fx : Int
  fy : Int
  lx : Int
  ly : Int
def Half.zero : Half := ⟨0, 0, 0, 0⟩
structure Both where
  u : Half
  d : Half
/-- The block of the four vectors. -/
def Both.cells (s : Both) : Array Value := #[.int .i64 s.u.fx, .int .i64 s.u.fy, .int .i64 s.u.lx, .int .i64 s.u.ly, .int .i64 s.d.fx, .int .i64 s.d.fy, .int .i64 s.d.lx, .int .i64 s.d.ly]
/-- All four are small. -/
structure SmB (s : Both) : Prop where
  a : Sm s.u.fx s.u.fy
  b : Sm s.u.lx s.u.ly
  c : Sm s.d.fx s.d.fy
  d : Sm s.d.lx s.d.ly
/-- The state inside a round. -/
structure InRound (w wx : World) (g v r : Nat) (cs : Array Value) (x y : Int) : Prop where
  s : Blk wx g cs
  n : Blk wx v #[.int .i64 x, .int .i64 y]
  r : Blk wx r (Both.cells ⟨Half.zero, Half.zero⟩)
  b : Below w.heap.size w wx
end VB


namespace VB
open Go Go.RowKit PB
/-- Its own memory. -/
structure InLift (w wx : World) (px pr ps pb : Nat) (xx xy : Int) (s : Both) (best : Int × Int) : Prop where
  x : Blk wx px #[.int .i64 xx, .int .i64 xy]
  r : Blk wx pr #[.int .i64 0, .int .i64 0]
  s : Blk wx ps s.cells
  b : Blk wx pb #[.int .i64 best.1, .int .i64 best.2]
  w : Below w.heap.size w wx
end VB










namespace VB
def dotW (ax ay bx b_ : Int) : Int := if Sm ax ay ∧ Sm bx b_ then dotI ax ay bx b_ else 0
end VB
namespace Go.Proofs.Ytmfmbglacebeiaa
open Go.RowKit PB VB
set_option maxRecDepth 100000 in
theorem vsmall_any (x y : Int) (w : World) : Calls Try.prog 39 #[vec x y] w fun e w' => e = .returned (.bool (smB x y)) ∧ Below w.heap.size w w' := by
  by_cases h : Sm x y
  · rw [smB_t h]; exact vsmall_t x y w h
  · rw [smB_f h]; exact vsmall_f x y w h
set_option maxRecDepth 100000 in
theorem vdotw (ax ay bx b_ : Int) (w : World) : Calls Try.prog 34 #[vec ax ay, vec bx b_] w fun e w' => e = .returned (.int .i64 (dotW ax ay bx b_)) ∧ Below w.heap.size w w' := by
  unfold dotW
  by_cases h : Sm ax ay ∧ Sm bx b_
  · rw [if_pos h]; exact vdot_t ax ay bx b_ w h.1 h.2
  · rw [if_neg h]; exact vdot_f ax ay bx b_ w h
set_option maxRecDepth 100000 in
theorem rdotw (ax ay bx b_ : Int) (w : World) : Calls Try.prog 35 #[vec ax ay, vec bx b_] w fun e w' => e = .returned (.int .i64 (dotW ax ay bx b_)) ∧ Below w.heap.size w w' := by
  unfold dotW
  by_cases h : Sm ax ay ∧ Sm bx b_
  · rw [if_pos h]; exact rdot_t ax ay bx b_ w h.1 h.2
  · rw [if_neg h]; exact rdot_f ax ay bx b_ w h
end Go.Proofs.Ytmfmbglacebeiaa


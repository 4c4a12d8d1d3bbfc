/-
  Motions: positions at sixteenths of the tick, on both sides.
-/
import Derived.Test.YtmfmbglacebeiaaFlEnd
namespace FL
open Go Go.RowKit PB VB
theorem mul_le {a b A C : Int} (h1 : -A ≤ a) (h2 : a ≤ A) (h3 : -C ≤ b) (h4 : b ≤ C) : -(A * C) ≤ a * b ∧ a * b ≤ A * C := by
  have hA : 0 ≤ A := by omega
  have hC : 0 ≤ C := by omega
  have h : (a * b).natAbs ≤ (A * C).natAbs := by
    rw [Int.natAbs_mul, Int.natAbs_mul]
    exact Nat.mul_le_mul (by omega) (by omega)
  have h5 : 0 ≤ A * C := Int.mul_nonneg hA hC
  omega
/-- 256 times a component of the position at j / 16. -/
def atI (p v h j : Int) : Int := 256 * p + 16 * j * v + j * j * h
structure AtB (p v h j : Int) : Prop where
  a : 0 ≤ j * j ∧ j * j ≤ 256
  b : -4194304 ≤ j * v ∧ j * v ≤ 4194304
  c : -67108864 ≤ 16 * j * v ∧ 16 * j * v ≤ 67108864
  d : -1048576 ≤ j * j * h ∧ j * j * h ≤ 1048576
theorem at_bd {p v h j : Int} (j0 : 0 ≤ j) (j1 : j ≤ 16) (v0 : -262144 ≤ v) (v1 : v ≤ 262144) (h0 : -4096 ≤ h) (h1 : h ≤ 4096) : AtB p v h j := by
  have a := mul_le (a := j) (b := j) (A := 16) (C := 16) (by omega) (by omega) (by omega) (by omega)
  have a0 := Int.mul_nonneg j0 j0
  have b := mul_le (a := j) (b := v) (A := 16) (C := 262144) (by omega) (by omega) (by omega) (by omega)
  have c := mul_le (a := 16 * j) (b := v) (A := 256) (C := 262144) (by omega) (by omega) (by omega) (by omega)
  have d := mul_le (a := j * j) (b := h) (A := 256) (C := 4096) (by omega) (by omega) (by omega) (by omega)
  exact ⟨⟨a0, by omega⟩, ⟨by omega, by omega⟩, ⟨by omega, by omega⟩, ⟨by omega, by omega⟩⟩
def atV (px py vx vy hx hy j : Int) : Int × Int := if VM px py vx vy hx hy ∧ 0 ≤ j ∧ j ≤ 16 then (atI px vx hx j, atI py vy hy j) else (0, 0)
end FL
namespace Go.Proofs.Ytmfmbglacebeiaa
open Go.RowKit PB VB FL
set_option maxRecDepth 100000 in
set_option maxHeartbeats 2000000 in
theorem at_clo (p v h j : Int) (g : Nat) (w : World) (hc : w.cell? ⟨g, 0, none⟩ = some (.int .i64 j)) (p0 : -8388608 ≤ p) (p1 : p ≤ 8388608) (j0 : 0 ≤ j) (j1 : j ≤ 16) (hb : AtB p v h j) :
    Calls Try.prog 33 #[.int .i64 p, .int .i64 v, .int .i64 h, .pointer (some ⟨g, 0, none⟩)] w fun e w' => e = .returned (.int .i64 (atI p v h j)) ∧ w' = w := by
  obtain ⟨⟨a0, a1⟩, ⟨b0, b1⟩, ⟨c0, c1⟩, d0, d1⟩ := hb
  have E := Lib.hid (show 256 * p + 16 * j * v + j * j * h = atI p v h j from rfl)
  go_enter Try.func33, Try.ntmps33
  go_wp2_with fail
  go_ret

  exact ⟨rfl, rfl⟩
set_option maxRecDepth 100000 in
set_option maxHeartbeats 4000000 in
theorem fat_f (px py vx vy hx hy j : Int) (w : World) (hv : ¬ (VM px py vx vy hx hy ∧ 0 ≤ j ∧ j ≤ 16)) : Calls Try.prog 17 #[mo px py vx vy hx hy, .int .i64 j] w fun e w' => e = .returned (vec 0 0) ∧ Below w.heap.size w w' := by
  have H1 := Lib.hid (fun W => fvalid_any px py vx vy hx hy W)
  by_cases h1 : VM px py vx vy hx hy
  · rw [vmB_t h1] at H1
    by_cases h2 : 0 ≤ j
    · have h3 : ¬ j ≤ 16 := fun h => hv ⟨h1, h2, h⟩
      have t2 : decide (j < 0) = false := decide_eq_false (by omega)
      have t3 : decide (j > 16) = true := decide_eq_true (by omega)
      clear hv h1 h2 h3
      go_enter Try.func17, Try.ntmps17
      go_wp2_with fail
      refine (H1.out _).mono ?_
      rintro e w1 ⟨rfl, hw1⟩
      have J1 : Blk w1 (w.heap.size + 1) #[.int .i64 j] := ((blk_new (by simp)).alloc _).kept hw1
      have j1 := J1.cell 0 _ rfl
      have R1 : Blk w1 (w.heap.size + 1 + 1) #[.int .i64 0, .int .i64 0] := (blk_new (by simp)).kept hw1
      have q1 : Below w.heap.size w w1 := in3 hw1
      obtain ⟨r0, r1⟩ := Blk2 R1
      obtain ⟨f0, f1⟩ := Blk2f R1
      clear hw1
      go_wp2_with fail
      exact bodyPost_ret (blk_res rfl _ rfl (blk_set2 R1) Try.underlying23 rfl (by rfl)) rfl ⟨rfl, (q1.setCell (by dsimp only; omega) _).setCell (by dsimp only; omega) _⟩
    · have t2 : decide (j < 0) = true := decide_eq_true (by omega)
      clear hv h1 h2
      go_enter Try.func17, Try.ntmps17
      go_wp2_with fail
      refine (H1.out _).mono ?_
      rintro e w1 ⟨rfl, hw1⟩
      have J1 : Blk w1 (w.heap.size + 1) #[.int .i64 j] := ((blk_new (by simp)).alloc _).kept hw1
      have j1 := J1.cell 0 _ rfl
      have R1 : Blk w1 (w.heap.size + 1 + 1) #[.int .i64 0, .int .i64 0] := (blk_new (by simp)).kept hw1
      have q1 : Below w.heap.size w w1 := in3 hw1
      obtain ⟨r0, r1⟩ := Blk2 R1
      obtain ⟨f0, f1⟩ := Blk2f R1
      clear hw1
      go_wp2_with fail
      exact bodyPost_ret (blk_res rfl _ rfl (blk_set2 R1) Try.underlying23 rfl (by rfl)) rfl ⟨rfl, (q1.setCell (by dsimp only; omega) _).setCell (by dsimp only; omega) _⟩
  · rw [vmB_f h1] at H1
    clear hv h1
    go_enter Try.func17, Try.ntmps17
    go_wp2_with fail
    refine (H1.out _).mono ?_
    rintro e w1 ⟨rfl, hw1⟩
    have J1 : Blk w1 (w.heap.size + 1) #[.int .i64 j] := ((blk_new (by simp)).alloc _).kept hw1
    have j1 := J1.cell 0 _ rfl
    have R1 : Blk w1 (w.heap.size + 1 + 1) #[.int .i64 0, .int .i64 0] := (blk_new (by simp)).kept hw1
    have q1 : Below w.heap.size w w1 := in3 hw1
    obtain ⟨r0, r1⟩ := Blk2 R1
    obtain ⟨f0, f1⟩ := Blk2f R1
    clear hw1
    go_wp2_with fail
    exact bodyPost_ret (blk_res rfl _ rfl (blk_set2 R1) Try.underlying23 rfl (by rfl)) rfl ⟨rfl, (q1.setCell (by dsimp only; omega) _).setCell (by dsimp only; omega) _⟩
set_option maxRecDepth 100000 in
set_option maxHeartbeats 4000000 in
theorem rat_f (px py vx vy hx hy j : Int) (w : World) (hv : ¬ (VM px py vx vy hx hy ∧ 0 ≤ j ∧ j ≤ 16)) : Calls Try.prog 18 #[mo px py vx vy hx hy, .int .i64 j] w fun e w' => e = .returned (vec 0 0) ∧ Below w.heap.size w w' := by
  have H1 := Lib.hid (fun W => rvalid_any px py vx vy hx hy W)
  by_cases h1 : VM px py vx vy hx hy
  · rw [vmB_t h1] at H1
    by_cases h2 : 0 ≤ j
    · have h3 : ¬ j ≤ 16 := fun h => hv ⟨h1, h2, h⟩
      have t2 : decide (j < 0) = false := decide_eq_false (by omega)
      have t3 : decide (j > 16) = true := decide_eq_true (by omega)
      clear hv h1 h2 h3
      go_enter Try.func18, Try.ntmps18
      go_wp2_with fail
      refine (H1.out _).mono ?_
      rintro e w1 ⟨rfl, hw1⟩
      have R1 : Blk w1 (w.heap.size + 1) #[.int .i64 0, .int .i64 0] := (blk_new (by simp)).kept hw1
      have q1 : Below w.heap.size w w1 := in2 hw1
      obtain ⟨r0, r1⟩ := Blk2 R1
      obtain ⟨f0, f1⟩ := Blk2f R1
      clear hw1
      go_wp2_with fail
      exact bodyPost_ret (blk_res rfl _ rfl (blk_set2 R1) Try.underlying23 rfl (by rfl)) rfl ⟨rfl, (q1.setCell (by dsimp only; omega) _).setCell (by dsimp only; omega) _⟩
    · have t2 : decide (j < 0) = true := decide_eq_true (by omega)
      clear hv h1 h2
      go_enter Try.func18, Try.ntmps18
      go_wp2_with fail
      refine (H1.out _).mono ?_
      rintro e w1 ⟨rfl, hw1⟩
      have R1 : Blk w1 (w.heap.size + 1) #[.int .i64 0, .int .i64 0] := (blk_new (by simp)).kept hw1
      have q1 : Below w.heap.size w w1 := in2 hw1
      obtain ⟨r0, r1⟩ := Blk2 R1
      obtain ⟨f0, f1⟩ := Blk2f R1
      clear hw1
      go_wp2_with fail
      exact bodyPost_ret (blk_res rfl _ rfl (blk_set2 R1) Try.underlying23 rfl (by rfl)) rfl ⟨rfl, (q1.setCell (by dsimp only; omega) _).setCell (by dsimp only; omega) _⟩
  · rw [vmB_f h1] at H1
    clear hv h1
    go_enter Try.func18, Try.ntmps18
    go_wp2_with fail
    refine (H1.out _).mono ?_
    rintro e w1 ⟨rfl, hw1⟩
    have R1 : Blk w1 (w.heap.size + 1) #[.int .i64 0, .int .i64 0] := (blk_new (by simp)).kept hw1
    have q1 : Below w.heap.size w w1 := in2 hw1
    obtain ⟨r0, r1⟩ := Blk2 R1
    obtain ⟨f0, f1⟩ := Blk2f R1
    clear hw1
    go_wp2_with fail
    exact bodyPost_ret (blk_res rfl _ rfl (blk_set2 R1) Try.underlying23 rfl (by rfl)) rfl ⟨rfl, (q1.setCell (by dsimp only; omega) _).setCell (by dsimp only; omega) _⟩
set_option maxRecDepth 100000 in
set_option maxHeartbeats 4000000 in
theorem rat_t (px py vx vy hx hy j : Int) (w : World) (hv : VM px py vx vy hx hy) (j0 : 0 ≤ j) (j1 : j ≤ 16) : Calls Try.prog 18 #[mo px py vx vy hx hy, .int .i64 j] w fun e w' => e = .returned (vec (atI px vx hx j) (atI py vy hy j)) ∧ Below w.heap.size w w' := by
  have H1 := Lib.hid (fun W => rvalid_any px py vx vy hx hy W)
  rw [vmB_t hv] at H1
  obtain ⟨⟨p1, p2, p3, p4⟩, ⟨v1, v2, v3, v4⟩, ⟨h1, h2, h3, h4⟩⟩ := hv
  obtain ⟨⟨a0, a1⟩, ⟨b0, b1⟩, ⟨c0, c1⟩, d0, d1⟩ := at_bd (p := px) j0 j1 v1 v2 h1 h2
  obtain ⟨-, ⟨b2, b3⟩, ⟨c2, c3⟩, d2, d3⟩ := at_bd (p := py) j0 j1 v3 v4 h3 h4
  have E := Lib.hid (show (256 * px + 16 * j * vx + j * j * hx = atI px vx hx j) ∧ (256 * py + 16 * j * vy + j * j * hy = atI py vy hy j) from ⟨rfl, rfl⟩)
  go_enter Try.func18, Try.ntmps18
  go_wp2_with fail
  refine (H1.out _).mono ?_
  rintro e w1 ⟨rfl, hw1⟩
  have V1 : Blk w1 w.heap.size #[.int .i64 px, .int .i64 py, .int .i64 vx, .int .i64 vy, .int .i64 hx, .int .i64 hy] := ((blk_new rfl).alloc _).kept hw1
  have R1 : Blk w1 (w.heap.size + 1) #[.int .i64 0, .int .i64 0] := (blk_new (by simp)).kept hw1
  have q1 : Below w.heap.size w w1 := in2 hw1
  obtain ⟨m0, m1, m2, m3, m4, m5⟩ := Blk6 V1
  obtain ⟨r0, r1⟩ := Blk2 R1
  obtain ⟨f0, f1⟩ := Blk2f R1
  clear hw1
  go_wp2_with fail
  exact bodyPost_ret (blk_res rfl _ rfl (blk_set2 R1) Try.underlying23 rfl (by rfl)) rfl ⟨by rw [E.out.1, E.out.2], (q1.setCell (by dsimp only; omega) _).setCell (by dsimp only; omega) _⟩
set_option maxRecDepth 100000 in
set_option maxHeartbeats 4000000 in
theorem fat_t (px py vx vy hx hy j : Int) (w : World) (hv : VM px py vx vy hx hy) (j0 : 0 ≤ j) (j1 : j ≤ 16) : Calls Try.prog 17 #[mo px py vx vy hx hy, .int .i64 j] w fun e w' => e = .returned (vec (atI px vx hx j) (atI py vy hy j)) ∧ Below w.heap.size w w' := by
  have H1 := Lib.hid (fun W => fvalid_any px py vx vy hx hy W)
  rw [vmB_t hv] at H1
  obtain ⟨⟨p1, p2, p3, p4⟩, ⟨v1, v2, v3, v4⟩, ⟨h1, h2, h3, h4⟩⟩ := hv
  have HX := Lib.hid (fun g W hc => at_clo px vx hx j g W hc p1 p2 j0 j1 (at_bd j0 j1 v1 v2 h1 h2))
  have HY := Lib.hid (fun g W hc => at_clo py vy hy j g W hc p3 p4 j0 j1 (at_bd j0 j1 v3 v4 h3 h4))
  generalize atI px vx hx j = rx at *
  generalize atI py vy hy j = ry at *
  clear p1 p2 p3 p4 v1 v2 v3 v4 h1 h2 h3 h4
  go_enter Try.func17, Try.ntmps17
  go_wp2_with fail
  refine (H1.out _).mono ?_
  rintro e w1 ⟨rfl, hw1⟩
  have V1 : Blk w1 w.heap.size #[.int .i64 px, .int .i64 py, .int .i64 vx, .int .i64 vy, .int .i64 hx, .int .i64 hy] := (((blk_new rfl).alloc _).alloc _).kept hw1
  have J1 : Blk w1 (w.heap.size + 1) #[.int .i64 j] := ((blk_new (by simp)).alloc _).kept hw1
  have R1 : Blk w1 (w.heap.size + 1 + 1) #[.int .i64 0, .int .i64 0] := (blk_new (by simp)).kept hw1
  have q1 : Below w.heap.size w w1 := in3 hw1
  obtain ⟨m0, m1, m2, m3, m4, m5⟩ := Blk6 V1
  have jc := J1.cell 0 _ rfl
  obtain ⟨r0, r1⟩ := Blk2 R1
  obtain ⟨f0, f1⟩ := Blk2f R1
  clear hw1
  have n01 : w.heap.size ≠ w.heap.size + 1 + 1 := by omega
  have n02 : w.heap.size + 1 ≠ w.heap.size + 1 + 1 := by omega
  have jcd : w1.drew.cell? ⟨w.heap.size + 1, 0, none⟩ = some (.int .i64 j) := jc
  have q1d : Below w.heap.size w w1.drew := PB.below_drewN q1 1
  have hN : w.heap.size ≤ w.heap.size + 1 + 1 := by omega
  have V1d := V1.drew
  have J1d := J1.drew
  go_upto_region 4 with fail
  go_region_held3 (fun w' => (w'.cell? ⟨w.heap.size, 0, none⟩ = some (.int .i64 px) ∧ w'.cell? ⟨w.heap.size, 1, none⟩ = some (.int .i64 py) ∧ w'.cell? ⟨w.heap.size, 2, none⟩ = some (.int .i64 vx) ∧ w'.cell? ⟨w.heap.size, 3, none⟩ = some (.int .i64 vy) ∧ w'.cell? ⟨w.heap.size, 4, none⟩ = some (.int .i64 hx) ∧ w'.cell? ⟨w.heap.size, 5, none⟩ = some (.int .i64 hy)) ∧ w'.cell? ⟨w.heap.size + 1, 0, none⟩ = some (.int .i64 j))
    (first | exact ⟨⟨m0, m1, m2, m3, m4, m5⟩, jc⟩ | exact ⟨Blk6 (blk_oth2 V1d n01), (blk_oth2 J1d n02).cell 0 _ rfl⟩ | fail)
    (first
      | (go_at_call 33; (with_reducible refine (HY.out _ _ jcd).mono ?_); rintro e x1 ⟨rfl, rfl⟩)
      | (go_at_call 33; (with_reducible refine (HX.out _ _ jcd).mono ?_); rintro e x1 ⟨rfl, rfl⟩)
      | fail)
  go_wp2_with fail
  exact bodyPost_ret (blk_res rfl _ rfl (blk_set2 R1.drew) Try.underlying23 rfl (by rfl)) rfl ⟨rfl, (q1d.setCell hN _).setCell hN _⟩
end Go.Proofs.Ytmfmbglacebeiaa

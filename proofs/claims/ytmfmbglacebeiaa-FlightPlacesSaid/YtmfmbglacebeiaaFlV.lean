/-
  Motions: which are valid, on both sides.
-/
import Derived.Test.YtmfmbglacebeiaaFlM
namespace Go.Proofs.Ytmfmbglacebeiaa
open Go.RowKit PB VB FL
set_option maxRecDepth 100000 in
theorem near_any (n x y : Int) (w : World) (hn : 0 ≤ n) (hn' : n ≤ 1099511627776) : Calls Try.prog 32 #[vec x y, .int .i64 n] w fun e w' => e = .returned (.bool (wiB n x y)) ∧ Below w.heap.size w w' := by
  unfold wiB
  by_cases h1 : -n ≤ x
  · by_cases h2 : x ≤ n
    · by_cases h3 : -n ≤ y
      · by_cases h4 : y ≤ n
        · rw [decide_eq_true (show Wi n x y from ⟨h1, h2, h3, h4⟩)]
          go_enter Try.func32, Try.ntmps32
          go_wp2
          go_ret
          exact ⟨rfl, (Below.refl _ _).alloc (Nat.le_refl _) _⟩
        · rw [decide_eq_false (show ¬ Wi n x y from fun h => h4 h.d)]
          have h4' : decide (y ≤ n) = false := decide_eq_false h4
          clear h4
          go_enter Try.func32, Try.ntmps32
          go_wp2
          go_ret
          exact ⟨rfl, (Below.refl _ _).alloc (Nat.le_refl _) _⟩
      · rw [decide_eq_false (show ¬ Wi n x y from fun h => h3 h.c)]
        have h4' : decide (-n ≤ y) = false := decide_eq_false h3
        clear h3
        go_enter Try.func32, Try.ntmps32
        go_wp2
        go_ret
        exact ⟨rfl, (Below.refl _ _).alloc (Nat.le_refl _) _⟩
    · rw [decide_eq_false (show ¬ Wi n x y from fun h => h2 h.b)]
      have h4' : decide (x ≤ n) = false := decide_eq_false h2
      clear h2
      go_enter Try.func32, Try.ntmps32
      go_wp2
      go_ret
      exact ⟨rfl, (Below.refl _ _).alloc (Nat.le_refl _) _⟩
  · rw [decide_eq_false (show ¬ Wi n x y from fun h => h1 h.a)]
    have h4' : decide (-n ≤ x) = false := decide_eq_false h1
    clear h1
    go_enter Try.func32, Try.ntmps32
    go_wp2
    go_ret
    exact ⟨rfl, (Below.refl _ _).alloc (Nat.le_refl _) _⟩
set_option maxRecDepth 100000 in
set_option maxHeartbeats 2000000 in
theorem fvalid_any (px py vx vy hx hy : Int) (w : World) : Calls Try.prog 15 #[mo px py vx vy hx hy] w fun e w' => e = .returned (.bool (vmB px py vx vy hx hy)) ∧ Below w.heap.size w w' := by
  rw [vmB_and]
  have H1 := Lib.hid (fun W => within_any 8388608 px py W (by decide) (by decide))
  have H2 := Lib.hid (fun W => within_any 262144 vx vy W (by decide) (by decide))
  have H3 := Lib.hid (fun W => within_any 4096 hx hy W (by decide) (by decide))
  generalize wiB 8388608 px py = b1 at *
  generalize wiB 262144 vx vy = b2 at *
  generalize wiB 4096 hx hy = b3 at *
  cases b1
  · go_enter Try.func15, Try.ntmps15
    go_wp2_with fail
    refine (H1.out _).mono ?_
    rintro e w1 ⟨rfl, hw1⟩
    have V1 : Blk w1 w.heap.size #[.int .i64 px, .int .i64 py, .int .i64 vx, .int .i64 vy, .int .i64 hx, .int .i64 hy] := (blk_new rfl).kept hw1
    have q1 := in1 hw1
    clear hw1
    obtain ⟨c0, c1, c2, c3, c4, c5⟩ := Blk6 V1
    go_wp2_with fail
    go_ret
    exact ⟨rfl, q1⟩
  · cases b2
    · go_enter Try.func15, Try.ntmps15
      go_wp2_with fail
      refine (H1.out _).mono ?_
      rintro e w1 ⟨rfl, hw1⟩
      have V1 : Blk w1 w.heap.size #[.int .i64 px, .int .i64 py, .int .i64 vx, .int .i64 vy, .int .i64 hx, .int .i64 hy] := (blk_new rfl).kept hw1
      have q1 := in1 hw1
      clear hw1
      obtain ⟨c0, c1, c2, c3, c4, c5⟩ := Blk6 V1
      go_wp2_with fail
      refine (H2.out _).mono ?_
      rintro e w2 ⟨rfl, hw2⟩
      have V2 := V1.kept hw2
      have q2 := next q1 hw2
      clear hw2
      clear c0 c1 c2 c3 c4 c5
      obtain ⟨c0, c1, c2, c3, c4, c5⟩ := Blk6 V2
      go_wp2_with fail
      go_ret
      exact ⟨rfl, q2⟩
    · go_enter Try.func15, Try.ntmps15
      go_wp2_with fail
      refine (H1.out _).mono ?_
      rintro e w1 ⟨rfl, hw1⟩
      have V1 : Blk w1 w.heap.size #[.int .i64 px, .int .i64 py, .int .i64 vx, .int .i64 vy, .int .i64 hx, .int .i64 hy] := (blk_new rfl).kept hw1
      have q1 := in1 hw1
      clear hw1
      obtain ⟨c0, c1, c2, c3, c4, c5⟩ := Blk6 V1
      go_wp2_with fail
      refine (H2.out _).mono ?_
      rintro e w2 ⟨rfl, hw2⟩
      have V2 := V1.kept hw2
      have q2 := next q1 hw2
      clear hw2
      clear c0 c1 c2 c3 c4 c5
      obtain ⟨c0, c1, c2, c3, c4, c5⟩ := Blk6 V2
      go_wp2_with fail
      refine (H3.out _).mono ?_
      rintro e w3 ⟨rfl, hw3⟩
      have V3 := V2.kept hw3
      have q3 := next q2 hw3
      clear hw3
      clear c0 c1 c2 c3 c4 c5
      obtain ⟨c0, c1, c2, c3, c4, c5⟩ := Blk6 V3
      go_wp2_with fail
      go_ret
      exact ⟨rfl, q3⟩
set_option maxRecDepth 100000 in
set_option maxHeartbeats 2000000 in
theorem rvalid_any (px py vx vy hx hy : Int) (w : World) : Calls Try.prog 16 #[mo px py vx vy hx hy] w fun e w' => e = .returned (.bool (vmB px py vx vy hx hy)) ∧ Below w.heap.size w w' := by
  rw [vmB_and]
  have H1 := Lib.hid (fun W => near_any 8388608 px py W (by decide) (by decide))
  have H2 := Lib.hid (fun W => near_any 262144 vx vy W (by decide) (by decide))
  have H3 := Lib.hid (fun W => near_any 4096 hx hy W (by decide) (by decide))
  generalize wiB 8388608 px py = b1 at *
  generalize wiB 262144 vx vy = b2 at *
  generalize wiB 4096 hx hy = b3 at *
  cases b1
  · go_enter Try.func16, Try.ntmps16
    go_wp2_with fail
    refine (H1.out _).mono ?_
    rintro e w1 ⟨rfl, hw1⟩
    have V1 : Blk w1 w.heap.size #[.int .i64 px, .int .i64 py, .int .i64 vx, .int .i64 vy, .int .i64 hx, .int .i64 hy] := (blk_new rfl).kept hw1
    have q1 := in1 hw1
    clear hw1
    obtain ⟨c0, c1, c2, c3, c4, c5⟩ := Blk6 V1
    go_wp2_with fail
    go_ret
    exact ⟨rfl, q1⟩
  · cases b2
    · go_enter Try.func16, Try.ntmps16
      go_wp2_with fail
      refine (H1.out _).mono ?_
      rintro e w1 ⟨rfl, hw1⟩
      have V1 : Blk w1 w.heap.size #[.int .i64 px, .int .i64 py, .int .i64 vx, .int .i64 vy, .int .i64 hx, .int .i64 hy] := (blk_new rfl).kept hw1
      have q1 := in1 hw1
      clear hw1
      obtain ⟨c0, c1, c2, c3, c4, c5⟩ := Blk6 V1
      go_wp2_with fail
      refine (H2.out _).mono ?_
      rintro e w2 ⟨rfl, hw2⟩
      have V2 := V1.kept hw2
      have q2 := next q1 hw2
      clear hw2
      clear c0 c1 c2 c3 c4 c5
      obtain ⟨c0, c1, c2, c3, c4, c5⟩ := Blk6 V2
      go_wp2_with fail
      go_ret
      exact ⟨rfl, q2⟩
    · go_enter Try.func16, Try.ntmps16
      go_wp2_with fail
      refine (H1.out _).mono ?_
      rintro e w1 ⟨rfl, hw1⟩
      have V1 : Blk w1 w.heap.size #[.int .i64 px, .int .i64 py, .int .i64 vx, .int .i64 vy, .int .i64 hx, .int .i64 hy] := (blk_new rfl).kept hw1
      have q1 := in1 hw1
      clear hw1
      obtain ⟨c0, c1, c2, c3, c4, c5⟩ := Blk6 V1
      go_wp2_with fail
      refine (H2.out _).mono ?_
      rintro e w2 ⟨rfl, hw2⟩
      have V2 := V1.kept hw2
      have q2 := next q1 hw2
      clear hw2
      clear c0 c1 c2 c3 c4 c5
      obtain ⟨c0, c1, c2, c3, c4, c5⟩ := Blk6 V2
      go_wp2_with fail
      refine (H3.out _).mono ?_
      rintro e w3 ⟨rfl, hw3⟩
      have V3 := V2.kept hw3
      have q3 := next q2 hw3
      clear hw3
      clear c0 c1 c2 c3 c4 c5
      obtain ⟨c0, c1, c2, c3, c4, c5⟩ := Blk6 V3
      go_wp2_with fail
      go_ret
      exact ⟨rfl, q3⟩
set_option maxRecDepth 100000 in
theorem fenergy_any (x y : Int) (w : World) : Calls Try.prog 21 #[vec x y] w fun e w' => e = .returned (.int .i64 (dotW x y x y)) ∧ Below w.heap.size w w' := by
  have H1 := Lib.hid (fun W => vdotw x y x y W)
  generalize dotW x y x y = d at *
  go_enter Try.func21, Try.ntmps21
  go_wp2_with fail
  refine (H1.out _).mono ?_
  rintro e w1 ⟨rfl, hw1⟩
  have q1 := in1 hw1
  go_wp2_with fail
  go_ret
  exact ⟨rfl, q1⟩
set_option maxRecDepth 100000 in
theorem renergy_any (x y : Int) (w : World) : Calls Try.prog 22 #[vec x y] w fun e w' => e = .returned (.int .i64 (dotW x y x y)) ∧ Below w.heap.size w w' := by
  have H1 := Lib.hid (fun W => rdotw x y x y W)
  generalize dotW x y x y = d at *
  go_enter Try.func22, Try.ntmps22
  go_wp2_with fail
  refine (H1.out _).mono ?_
  rintro e w1 ⟨rfl, hw1⟩
  have q1 := in1 hw1
  go_wp2_with fail
  go_ret
  exact ⟨rfl, q1⟩
end Go.Proofs.Ytmfmbglacebeiaa

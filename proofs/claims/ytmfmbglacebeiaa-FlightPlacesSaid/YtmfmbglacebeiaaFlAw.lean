/-
  The example of the chapter; dot.
-/
import Derived.Test.YtmfmbglacebeiaaFlBox
namespace Go.Proofs.Ytmfmbglacebeiaa
open Go.RowKit PB VB FL
set_option maxRecDepth 100000 in
theorem dot_any (a b c d : Int) (w : World) (h1 : -9223372036854775808 ≤ a * c) (h2 : a * c ≤ 9223372036854775807) (h3 : -9223372036854775808 ≤ b * d) (h4 : b * d ≤ 9223372036854775807) (h5 : -9223372036854775808 ≤ a * c + b * d) (h6 : a * c + b * d ≤ 9223372036854775807) :
    Calls Try.prog 23 #[vec a b, vec c d] w fun e w' => e = .returned (.int .i64 (a * c + b * d)) ∧ Below w.heap.size w w' := by
  go_enter Try.func23, Try.ntmps23
  go_wp2_with fail
  go_ret
  exact ⟨rfl, ((Below.refl _ _).alloc (Nat.le_refl _) _).alloc (by simp) _⟩
set_option maxRecDepth 100000 in
theorem awv : VM 0 0 16 0 0 (-4) := ⟨⟨by decide, by decide, by decide, by decide⟩, ⟨by decide, by decide, by decide, by decide⟩, ⟨by decide, by decide, by decide, by decide⟩⟩
set_option maxRecDepth 100000 in
theorem aw_end (w : World) : Calls Try.prog 8 #[mo 0 0 16 0 0 (-4)] w fun e w' => e = .returned (.tuple #[vec 16 (-4), vec 16 (-8)]) ∧ Below w.heap.size w w' := fend_t 0 0 16 0 0 (-4) w awv
set_option maxRecDepth 100000 in
theorem aw_at (w : World) : Calls Try.prog 17 #[mo 0 0 16 0 0 (-4), .int .i64 8] w fun e w' => e = .returned (vec 2048 (-256)) ∧ Below w.heap.size w w' := fat_t 0 0 16 0 0 (-4) 8 w awv (by decide) (by decide)
set_option maxRecDepth 100000 in
theorem aw_box (w : World) : Calls Try.prog 12 #[mo 0 0 16 0 0 (-4)] w fun e w' => e = .returned (.tuple #[vec 0 (-4), vec 16 0]) ∧ Below w.heap.size w w' := by
  have h := fbox_t 0 0 16 0 0 (-4) w awv
  rw [show exL 0 16 0 = 0 by decide, show exH 0 16 0 = 16 by decide, show exL 0 0 (-4) = -4 by decide, show exH 0 0 (-4) = 0 by decide] at h
  exact h
set_option maxRecDepth 100000 in
theorem aw_en (w : World) : Calls Try.prog 21 #[vec 3 4] w fun e w' => e = .returned (.int .i64 25) ∧ Below w.heap.size w w' := by
  have h := fenergy_any 3 4 w
  rw [show dotW 3 4 3 4 = 25 by decide] at h
  exact h
set_option maxRecDepth 100000 in
theorem aw_va (w : World) : Calls Try.prog 15 #[mo 0 0 16 0 0 (-4)] w fun e w' => e = .returned (.bool true) ∧ Below w.heap.size w w' := by
  have h := fvalid_any 0 0 16 0 0 (-4) w
  rw [vmB_t awv] at h
  exact h
set_option maxRecDepth 100000 in
set_option maxHeartbeats 4000000 in
theorem flawake (w : World) : Calls Try.prog 7 #[] w fun e w' => e = .returned (.bool true) ∧ Below w.heap.size w w' := by
  go_enter Try.func7, Try.ntmps7
  go_wp2_with fail
  refine (aw_end _).mono ?_
  rintro e w1 ⟨rfl, hw1⟩
  have M1 : Blk w1 w.heap.size #[.int .i64 0, .int .i64 0, .int .i64 16, .int .i64 0, .int .i64 0, .int .i64 (-4)] := (blk_new rfl).kept hw1
  have q1 := in1 hw1
  obtain ⟨m0, m1, m2, m3, m4, m5⟩ := Blk6 M1
  have l1 := M1.lt
  clear hw1
  go_wp2_with fail
  refine (aw_box _).mono ?_
  rintro e w2 ⟨rfl, hw2⟩
  have M2 : Blk w2 w.heap.size #[.int .i64 0, .int .i64 0, .int .i64 16, .int .i64 0, .int .i64 0, .int .i64 (-4)] := ((M1.alloc _).alloc _).kept hw2
  have P2 : Blk w2 w1.heap.size #[.int .i64 16, .int .i64 (-4)] := blk_prev hw2
  have V2 : Blk w2 (w1.heap.size + 1) #[.int .i64 16, .int .i64 (-8)] := blk_last2 hw2
  have q2 := next q1 (in2 hw2)
  clear hw2 m0 m1 m2 m3 m4 m5 M1
  obtain ⟨m0, m1, m2, m3, m4, m5⟩ := Blk6 M2
  have l2 := M2.lt
  have l3 := P2.lt
  have l4 := V2.lt
  obtain ⟨a0, a1⟩ := Blk2 P2
  obtain ⟨b0, b1⟩ := Blk2 V2
  go_wp2_with fail
  refine (aw_at _).mono ?_
  rintro e w3 ⟨rfl, hw3⟩
  have M3 : Blk w3 w.heap.size #[.int .i64 0, .int .i64 0, .int .i64 16, .int .i64 0, .int .i64 0, .int .i64 (-4)] := ((M2.alloc _).alloc _).kept hw3
  have L3 : Blk w3 w2.heap.size #[.int .i64 0, .int .i64 (-4)] := blk_prev hw3
  have U3 : Blk w3 (w2.heap.size + 1) #[.int .i64 16, .int .i64 0] := blk_last2 hw3
  have q3 := next q2 (in2 hw3)
  clear hw3 m0 m1 m2 m3 m4 m5 a0 a1 b0 b1 M2
  obtain ⟨m0, m1, m2, m3, m4, m5⟩ := Blk6 M3
  obtain ⟨a0, a1⟩ := Blk2 L3
  obtain ⟨b0, b1⟩ := Blk2 U3
  go_wp2_with fail
  refine (aw_va _).mono ?_
  rintro e w4 ⟨rfl, hw4⟩
  have q4 := next q3 hw4
  clear hw4
  go_wp2_with fail
  refine (aw_en _).mono ?_
  rintro e w5 ⟨rfl, hw5⟩
  have q5 := next q4 hw5
  clear hw5
  go_wp2_with fail
  go_ret
  exact ⟨rfl, q5⟩
end Go.Proofs.Ytmfmbglacebeiaa

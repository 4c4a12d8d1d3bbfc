/-
  Motions: the box of a flight, on both sides.
-/
import Derived.Test.YtmfmbglacebeiaaFlBx
import Derived.BigRegion
namespace FL
open Go Go.RowKit PB VB
theorem set2x {w : World} {g : Nat} {a b c : Value} (h : Blk w g #[a, b]) : Blk (w.setCell ⟨g, 0, none⟩ c) g #[c, b] := h.set 0 c
theorem set2y {w : World} {g : Nat} {a b c : Value} (h : Blk w g #[a, b]) : Blk (w.setCell ⟨g, 1, none⟩ c) g #[a, c] := h.set 1 c
end FL
namespace Go.Proofs.Ytmfmbglacebeiaa
open Go.RowKit PB VB FL
set_option maxRecDepth 100000 in
set_option maxHeartbeats 2000000 in
theorem fbox_f (px py vx vy hx hy : Int) (w : World) (hv : ¬ VM px py vx vy hx hy) : Calls Try.prog 12 #[mo px py vx vy hx hy] w fun e w' => e = .returned (.tuple #[vec 0 0, vec 0 0]) ∧ Below w.heap.size w w' := by
  have H1 := Lib.hid (fun W => fvalid_any px py vx vy hx hy W)
  rw [vmB_f hv] at H1
  clear hv
  go_enter Try.func12, Try.ntmps12
  go_wp2_with fail
  refine (H1.out _).mono ?_
  rintro e w1 ⟨rfl, hw1⟩
  have R1 : Blk w1 (w.heap.size + 1) #[.int .i64 0, .int .i64 0] := ((blk_new (by simp)).alloc _).kept hw1
  have R2 : Blk w1 (w.heap.size + 1 + 1) #[.int .i64 0, .int .i64 0] := (blk_new (by simp)).kept hw1
  have q1 : Below w.heap.size w w1 := in3 hw1
  obtain ⟨c0, c1⟩ := Blk2 R1
  obtain ⟨d0, d1⟩ := Blk2 R2
  obtain ⟨f0, f1⟩ := Blk2f R1
  obtain ⟨g0, g1⟩ := Blk2f R2
  clear hw1
  go_wp2_with fail
  refine bodyPost_ret (blk_res2 rfl _ _ rfl (blk_oth2 (blk_set2 R1) (by omega)) Try.underlying23 rfl (by rfl) rfl (blk_set2 (blk_oth2 R2 (by omega))) Try.underlying23 rfl (by rfl)) rfl ⟨rfl, (((q1.setCell (by dsimp only; omega) _).setCell (by dsimp only; omega) _).setCell (by dsimp only; omega) _).setCell (by dsimp only; omega) _⟩
set_option maxRecDepth 100000 in
set_option maxHeartbeats 4000000 in
theorem fbox_t (px py vx vy hx hy : Int) (w : World) (hv : VM px py vx vy hx hy) : Calls Try.prog 12 #[mo px py vx vy hx hy] w fun e w' => e = .returned (.tuple #[vec (exL px vx hx) (exL py vy hy), vec (exH px vx hx) (exH py vy hy)]) ∧ Below w.heap.size w w' := by
  have H1 := Lib.hid (fun W => fvalid_any px py vx vy hx hy W)
  rw [vmB_t hv] at H1
  obtain ⟨⟨p1, p2, p3, p4⟩, ⟨v1, v2, v3, v4⟩, ⟨h1, h2, h3, h4⟩⟩ := hv
  have HX := Lib.hid (fun W => extent_any px vx hx W p1 p2 v1 v2 h1 h2)
  have HY := Lib.hid (fun W => extent_any py vy hy W p3 p4 v3 v4 h3 h4)
  clear p1 p2 p3 p4 v1 v2 v3 v4 h1 h2 h3 h4
  generalize exL px vx hx = lx at *
  generalize exH px vx hx = ux at *
  generalize exL py vy hy = ly at *
  generalize exH py vy hy = uy at *
  go_enter Try.func12, Try.ntmps12
  go_wp2_with fail
  refine (H1.out _).mono ?_
  rintro e w1 ⟨rfl, hw1⟩
  have V1 : Blk w1 w.heap.size #[.int .i64 px, .int .i64 py, .int .i64 vx, .int .i64 vy, .int .i64 hx, .int .i64 hy] := (((blk_new rfl).alloc _).alloc _).kept hw1
  have R1 : Blk w1 (w.heap.size + 1) #[.int .i64 0, .int .i64 0] := ((blk_new (by simp)).alloc _).kept hw1
  have R2 : Blk w1 (w.heap.size + 1 + 1) #[.int .i64 0, .int .i64 0] := (blk_new (by simp)).kept hw1
  have q1 : Below w.heap.size w w1 := in3 hw1
  clear hw1
  obtain ⟨m0, m1, m2, m3, m4, m5⟩ := Blk6 V1
  obtain ⟨r0, r1⟩ := Blk2 R1
  obtain ⟨s0, s1⟩ := Blk2 R2
  obtain ⟨f0, f1⟩ := Blk2f R1
  obtain ⟨g0, g1⟩ := Blk2f R2
  have n01 : w.heap.size ≠ w.heap.size + 1 := by omega
  have n02 : w.heap.size ≠ w.heap.size + 1 + 1 := by omega
  have n12 : w.heap.size + 1 ≠ w.heap.size + 1 + 1 := by omega
  have n21 : w.heap.size + 1 + 1 ≠ w.heap.size + 1 := by omega
  have hN1 : w.heap.size ≤ w.heap.size + 1 := by omega
  have hN2 : w.heap.size ≤ w.heap.size + 1 + 1 := by omega
  go_wp2_with fail
  refine (HX.out _).mono ?_
  rintro e w2 ⟨rfl, rfl⟩
  go_upto_region 4 with fail
  obtain ⟨W, hW⟩ : ∃ W, W = (w2.setCell ⟨w.heap.size + 1, 0, none⟩ (.int .i64 lx)).setCell ⟨w.heap.size + 1 + 1, 0, none⟩ (.int .i64 ux) := ⟨_, rfl⟩
  have V2 : Blk W w.heap.size #[.int .i64 px, .int .i64 py, .int .i64 vx, .int .i64 vy, .int .i64 hx, .int .i64 hy] := hW ▸ ((V1.other _ n01).other _ n02)
  have S1 : Blk W (w.heap.size + 1) #[.int .i64 lx, .int .i64 0] := hW ▸ ((set2x R1).other _ n12)
  have S2 : Blk W (w.heap.size + 1 + 1) #[.int .i64 ux, .int .i64 0] := hW ▸ (set2x (R2.other _ n21))
  have q2 : Below w.heap.size w W := hW ▸ ((q1.setCell hN1 _).setCell hN2 _)
  rw [← hW]
  clear hW V1 R1 R2 q1 m0 m1 m2 m3 m4 m5 r0 r1 s0 s1 f0 f1 g0 g1
  obtain ⟨m0, m1, m2, m3, m4, m5⟩ := Blk6 V2
  obtain ⟨r0, r1⟩ := Blk2 S1
  obtain ⟨s0, s1⟩ := Blk2 S2
  obtain ⟨f0, f1⟩ := Blk2f S1
  obtain ⟨g0, g1⟩ := Blk2f S2
  go_wp2_with fail
  refine (HY.out _).mono ?_
  rintro e w3 ⟨rfl, rfl⟩
  go_upto_region 5 with fail
  obtain ⟨W, hW⟩ : ∃ W, W = (w3.setCell ⟨w.heap.size + 1, 1, none⟩ (.int .i64 ly)).setCell ⟨w.heap.size + 1 + 1, 1, none⟩ (.int .i64 uy) := ⟨_, rfl⟩
  have R1 : Blk W (w.heap.size + 1) #[.int .i64 lx, .int .i64 ly] := hW ▸ ((set2y S1).other _ n12)
  have R2 : Blk W (w.heap.size + 1 + 1) #[.int .i64 ux, .int .i64 uy] := hW ▸ (set2y (S2.other _ n21))
  have q1 : Below w.heap.size w W := hW ▸ ((q2.setCell hN1 _).setCell hN2 _)
  rw [← hW]
  clear hW V2 S1 S2 q2 m0 m1 m2 m3 m4 m5 r0 r1 s0 s1 f0 f1 g0 g1
  obtain ⟨r0, r1⟩ := Blk2 R1
  obtain ⟨s0, s1⟩ := Blk2 R2
  obtain ⟨f0, f1⟩ := Blk2f R1
  obtain ⟨g0, g1⟩ := Blk2f R2
  have q1d : Below w.heap.size w W.drew := PB.below_drewN q1 1
  have B1 := R1.drew
  have B2 := R2.drew
  have C1 := Blk2 B1
  have C2 := Blk2 B2
  go_region_held3 (fun w' => (w'.cell? ⟨w.heap.size + 1, 0, none⟩ = some (.int .i64 lx) ∧ w'.cell? ⟨w.heap.size + 1, 1, none⟩ = some (.int .i64 ly)) ∧ w'.cell? ⟨w.heap.size + 1 + 1, 0, none⟩ = some (.int .i64 ux) ∧ w'.cell? ⟨w.heap.size + 1 + 1, 1, none⟩ = some (.int .i64 uy))
    (first | with_reducible exact ⟨C1, C2⟩ | with_reducible exact ⟨Blk2 (blk_set2 R1).drew, Blk2 (blk_oth2 R2 n21).drew⟩ | with_reducible exact ⟨Blk2 (blk_oth2 (blk_set2 R1).drew n12), Blk2 (blk_set2 (blk_oth2 R2 n21).drew)⟩ | with_reducible exact ⟨Blk2 (blk_oth2 (blk_set2 R1) n12), Blk2 (blk_set2 (blk_oth2 R2 n21))⟩ | with_reducible exact ⟨Blk2 (blk_oth2 (blk_set2 R1) n12).drew, Blk2 (blk_set2 (blk_oth2 R2 n21)).drew⟩ | fail)
    (fail)
  go_wp2_with fail
  refine bodyPost_ret (blk_res2 rfl _ _ rfl (blk_oth2 (blk_set2 B1) n12) Try.underlying23 rfl (by rfl) rfl (blk_set2 (blk_oth2 B2 n21)) Try.underlying23 rfl (by rfl)) rfl ⟨rfl, (((q1d.setCell hN1 _).setCell hN1 _).setCell hN2 _).setCell hN2 _⟩
set_option maxRecDepth 100000 in
set_option maxHeartbeats 2000000 in
theorem rbox_f (px py vx vy hx hy : Int) (w : World) (hv : ¬ VM px py vx vy hx hy) : Calls Try.prog 13 #[mo px py vx vy hx hy] w fun e w' => e = .returned (.tuple #[vec 0 0, vec 0 0]) ∧ Below w.heap.size w w' := by
  have H1 := Lib.hid (fun W => rvalid_any px py vx vy hx hy W)
  rw [vmB_f hv] at H1
  clear hv
  go_enter Try.func13, Try.ntmps13
  go_wp2_with fail
  refine (H1.out _).mono ?_
  rintro e w1 ⟨rfl, hw1⟩
  have R1 : Blk w1 (w.heap.size + 1) #[.int .i64 0, .int .i64 0] := ((blk_new (by simp)).alloc _).kept hw1
  have R2 : Blk w1 (w.heap.size + 1 + 1) #[.int .i64 0, .int .i64 0] := (blk_new (by simp)).kept hw1
  have q1 : Below w.heap.size w w1 := in3 hw1
  obtain ⟨c0, c1⟩ := Blk2 R1
  obtain ⟨d0, d1⟩ := Blk2 R2
  obtain ⟨f0, f1⟩ := Blk2f R1
  obtain ⟨g0, g1⟩ := Blk2f R2
  clear hw1
  go_wp2_with fail
  refine bodyPost_ret (blk_res2 rfl _ _ rfl (blk_oth2 (blk_set2 R1) (by omega)) Try.underlying23 rfl (by rfl) rfl (blk_set2 (blk_oth2 R2 (by omega))) Try.underlying23 rfl (by rfl)) rfl ⟨rfl, (((q1.setCell (by dsimp only; omega) _).setCell (by dsimp only; omega) _).setCell (by dsimp only; omega) _).setCell (by dsimp only; omega) _⟩
set_option maxRecDepth 100000 in
set_option maxHeartbeats 4000000 in
theorem rbox_t (px py vx vy hx hy : Int) (w : World) (hv : VM px py vx vy hx hy) : Calls Try.prog 13 #[mo px py vx vy hx hy] w fun e w' => e = .returned (.tuple #[vec (exL px vx hx) (exL py vy hy), vec (exH px vx hx) (exH py vy hy)]) ∧ Below w.heap.size w w' := by
  have H1 := Lib.hid (fun W => rvalid_any px py vx vy hx hy W)
  rw [vmB_t hv] at H1
  obtain ⟨⟨p1, p2, p3, p4⟩, ⟨v1, v2, v3, v4⟩, ⟨h1, h2, h3, h4⟩⟩ := hv
  have HX := Lib.hid (fun W => span_any px vx hx W p1 p2 v1 v2 h1 h2)
  have HY := Lib.hid (fun W => span_any py vy hy W p3 p4 v3 v4 h3 h4)
  clear p1 p2 p3 p4 v1 v2 v3 v4 h1 h2 h3 h4
  generalize exL px vx hx = lx at *
  generalize exH px vx hx = ux at *
  generalize exL py vy hy = ly at *
  generalize exH py vy hy = uy at *
  go_enter Try.func13, Try.ntmps13
  go_wp2_with fail
  refine (H1.out _).mono ?_
  rintro e w1 ⟨rfl, hw1⟩
  have V1 : Blk w1 w.heap.size #[.int .i64 px, .int .i64 py, .int .i64 vx, .int .i64 vy, .int .i64 hx, .int .i64 hy] := (((blk_new rfl).alloc _).alloc _).kept hw1
  have R1 : Blk w1 (w.heap.size + 1) #[.int .i64 0, .int .i64 0] := ((blk_new (by simp)).alloc _).kept hw1
  have R2 : Blk w1 (w.heap.size + 1 + 1) #[.int .i64 0, .int .i64 0] := (blk_new (by simp)).kept hw1
  have q1 : Below w.heap.size w w1 := in3 hw1
  clear hw1
  obtain ⟨m0, m1, m2, m3, m4, m5⟩ := Blk6 V1
  obtain ⟨r0, r1⟩ := Blk2 R1
  obtain ⟨s0, s1⟩ := Blk2 R2
  obtain ⟨f0, f1⟩ := Blk2f R1
  obtain ⟨g0, g1⟩ := Blk2f R2
  have n01 : w.heap.size ≠ w.heap.size + 1 := by omega
  have n02 : w.heap.size ≠ w.heap.size + 1 + 1 := by omega
  have n12 : w.heap.size + 1 ≠ w.heap.size + 1 + 1 := by omega
  have n21 : w.heap.size + 1 + 1 ≠ w.heap.size + 1 := by omega
  have hN1 : w.heap.size ≤ w.heap.size + 1 := by omega
  have hN2 : w.heap.size ≤ w.heap.size + 1 + 1 := by omega
  go_wp2_with fail
  refine (HX.out _).mono ?_
  rintro e w2 ⟨rfl, rfl⟩
  go_wp2_with fail
  refine (HY.out _).mono ?_
  rintro e w3 ⟨rfl, rfl⟩
  go_wp2_with fail
  refine bodyPost_ret (blk_res2 rfl _ _ rfl (blk_oth2 (blk_set2 R1) n12) Try.underlying23 rfl (by rfl) rfl (blk_set2 (blk_oth2 R2 n21)) Try.underlying23 rfl (by rfl)) rfl ⟨rfl, (((q1.setCell hN1 _).setCell hN1 _).setCell hN2 _).setCell hN2 _⟩
end Go.Proofs.Ytmfmbglacebeiaa

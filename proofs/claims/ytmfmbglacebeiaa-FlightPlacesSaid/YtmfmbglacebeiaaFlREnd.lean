/-
  Motions: the reference's End of a valid Motion.
-/
import Derived.Test.YtmfmbglacebeiaaFlEnd
import Derived.IntWalk
namespace Go.Proofs.Ytmfmbglacebeiaa
open Go.RowKit PB VB FL
set_option maxRecDepth 100000 in
set_option maxHeartbeats 8000000 in
theorem rend_t (px py vx vy hx hy : Int) (w : World) (hv : VM px py vx vy hx hy) : Calls Try.prog 9 #[mo px py vx vy hx hy] w fun e w' => e = .returned (.tuple #[vec (px + vx + hx) (py + vy + hy), vec (vx + 2 * hx) (vy + 2 * hy)]) ∧ Below w.heap.size w w' := by
  have H1 := Lib.hid (fun W => rvalid_any px py vx vy hx hy W)
  rw [vmB_t hv] at H1
  obtain ⟨⟨p1, p2, p3, p4⟩, ⟨v1, v2, v3, v4⟩, ⟨h1, h2, h3, h4⟩⟩ := hv
  go_enter Try.func9, Try.ntmps9
  go_wp2_with fail
  refine (H1.out _).mono ?_
  rintro e w1 ⟨rfl, hw1⟩
  have V1 : Blk w1 w.heap.size #[.int .i64 px, .int .i64 py, .int .i64 vx, .int .i64 vy, .int .i64 hx, .int .i64 hy] := (((blk_new rfl).alloc _).alloc _).kept hw1
  have R1 : Blk w1 (w.heap.size + 1) #[.int .i64 0, .int .i64 0] := ((blk_new (by simp)).alloc _).kept hw1
  have R2 : Blk w1 (w.heap.size + 1 + 1) #[.int .i64 0, .int .i64 0] := (blk_new (by simp)).kept hw1
  have q1 : Below w.heap.size w w1 := in3 hw1
  clear hw1
  obtain ⟨m0, m1, m2, m3, m4, m5⟩ := Blk6 V1
  obtain ⟨r0, r1⟩ := Blk2 R1
  obtain ⟨s0, s1⟩ := Blk2 R2
  obtain ⟨f0, f1⟩ := Blk2f R1
  obtain ⟨g0, g1⟩ := Blk2f R2
  have n01 : w.heap.size ≠ w.heap.size + 1 := by omega
  have n02 : w.heap.size ≠ w.heap.size + 1 + 1 := by omega
  have n12 : w.heap.size + 1 ≠ w.heap.size + 1 + 1 := by omega
  have n21 : w.heap.size + 1 + 1 ≠ w.heap.size + 1 := by omega
  have hN1 : w.heap.size ≤ w.heap.size + 1 := by omega
  have hN2 : w.heap.size ≤ w.heap.size + 1 + 1 := by omega
  have q1d : Below w.heap.size w w1.drew := PB.below_drewN q1 1
  have V1d := V1.drew
  have ex1 : IntKind.i64.wrap (px + vx) = px + vx := IntWalk.i64_in _ (by omega)
  have ex2 : IntKind.i64.wrap (px + vx + hx) = px + vx + hx := IntWalk.i64_in _ (by omega)
  have ex3 : IntKind.i64.wrap (2 * hx) = 2 * hx := IntWalk.i64_in _ (by omega)
  have ex4 : IntKind.i64.wrap (vx + 2 * hx) = vx + 2 * hx := IntWalk.i64_in _ (by omega)
  have ey1 : IntKind.i64.wrap (py + vy) = py + vy := IntWalk.i64_in _ (by omega)
  have ey2 : IntKind.i64.wrap (py + vy + hy) = py + vy + hy := IntWalk.i64_in _ (by omega)
  have ey3 : IntKind.i64.wrap (2 * hy) = 2 * hy := IntWalk.i64_in _ (by omega)
  have ey4 : IntKind.i64.wrap (vy + 2 * hy) = vy + 2 * hy := IntWalk.i64_in _ (by omega)
  go_upto_region 3 with fail
  go_region_held3 (fun w' => w'.cell? ⟨w.heap.size, 0, none⟩ = some (.int .i64 px) ∧ w'.cell? ⟨w.heap.size, 1, none⟩ = some (.int .i64 py) ∧ w'.cell? ⟨w.heap.size, 2, none⟩ = some (.int .i64 vx) ∧ w'.cell? ⟨w.heap.size, 3, none⟩ = some (.int .i64 vy) ∧ w'.cell? ⟨w.heap.size, 4, none⟩ = some (.int .i64 hx) ∧ w'.cell? ⟨w.heap.size, 5, none⟩ = some (.int .i64 hy))
    (first | exact ⟨m0, m1, m2, m3, m4, m5⟩ | exact Blk6 (blk_oth2 V1d n01) | exact Blk6 (blk_oth2 (blk_oth2 V1d n01) n02) | fail)
    (fail)
  go_wp2_with fail
  refine bodyPost_ret (blk_res2 rfl _ _ rfl (blk_oth2 (blk_set2 R1.drew) n12) Try.underlying23 rfl (by rfl) rfl (blk_set2 (blk_oth2 R2.drew n21)) Try.underlying23 rfl (by rfl)) rfl ⟨rfl, (((q1d.setCell hN1 _).setCell hN1 _).setCell hN2 _).setCell hN2 _⟩
end Go.Proofs.Ytmfmbglacebeiaa

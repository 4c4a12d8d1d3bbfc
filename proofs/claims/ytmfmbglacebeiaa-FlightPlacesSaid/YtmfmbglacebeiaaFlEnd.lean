/-
  Motions: the end of the tick, on both sides.
-/
import Derived.Test.YtmfmbglacebeiaaFlE
namespace FL
open Go Go.RowKit PB VB
/-- What End returns: the position and the velocity at the end of a valid Motion. -/
structure EndR where
  px : Int
  py : Int
  vx : Int
  vy : Int
def endV (px py vx vy hx hy : Int) : EndR := if VM px py vx vy hx hy then ⟨px + vx + hx, py + vy + hy, vx + 2 * hx, vy + 2 * hy⟩ else ⟨0, 0, 0, 0⟩
theorem add_of {a b c d x y : Int} (h1 : Sm a b) (h2 : Sm c d) (hx : a + c = x) (hy : b + d = y) (h3 : Sm x y) : addV a b c d = (x, y) := by
  unfold addV kp
  rw [if_pos ⟨h1, h2⟩, hx, hy, if_pos h3]
abbrev endT (r : EndR) : Value := .tuple #[vec r.px r.py, vec r.vx r.vy]
end FL
namespace Go.Proofs.Ytmfmbglacebeiaa
open Go.RowKit PB VB FL
set_option maxRecDepth 100000 in
set_option maxHeartbeats 2000000 in
theorem fend_f (px py vx vy hx hy : Int) (w : World) (hv : ¬ VM px py vx vy hx hy) : Calls Try.prog 8 #[mo px py vx vy hx hy] w fun e w' => e = .returned (.tuple #[vec 0 0, vec 0 0]) ∧ Below w.heap.size w w' := by
  have H1 := Lib.hid (fun W => fvalid_any px py vx vy hx hy W)
  rw [vmB_f hv] at H1
  clear hv
  go_enter Try.func8, Try.ntmps8
  go_wp2_with fail
  refine (H1.out _).mono ?_
  rintro e w1 ⟨rfl, hw1⟩
  have R1 : Blk w1 (w.heap.size + 1) #[.int .i64 0, .int .i64 0] := ((blk_new (by simp)).alloc _).kept hw1
  have R2 : Blk w1 (w.heap.size + 1 + 1) #[.int .i64 0, .int .i64 0] := (blk_new (by simp)).kept hw1
  have q1 : Below w.heap.size w w1 := in3 hw1
  obtain ⟨c0, c1⟩ := Blk2 R1
  obtain ⟨d0, d1⟩ := Blk2 R2
  obtain ⟨f0, f1⟩ := Blk2f R1
  obtain ⟨g0, g1⟩ := Blk2f R2
  clear hw1
  go_wp2_with fail
  refine bodyPost_ret (blk_res2 rfl _ _ rfl (blk_oth2 (blk_set2 R1) (by omega)) Try.underlying23 rfl (by rfl) rfl (blk_set2 (blk_oth2 R2 (by omega))) Try.underlying23 rfl (by rfl)) rfl ⟨rfl, (((q1.setCell (by dsimp only; omega) _).setCell (by dsimp only; omega) _).setCell (by dsimp only; omega) _).setCell (by dsimp only; omega) _⟩
set_option maxRecDepth 100000 in
set_option maxHeartbeats 2000000 in
theorem rend_f (px py vx vy hx hy : Int) (w : World) (hv : ¬ VM px py vx vy hx hy) : Calls Try.prog 9 #[mo px py vx vy hx hy] w fun e w' => e = .returned (.tuple #[vec 0 0, vec 0 0]) ∧ Below w.heap.size w w' := by
  have H1 := Lib.hid (fun W => rvalid_any px py vx vy hx hy W)
  rw [vmB_f hv] at H1
  clear hv
  go_enter Try.func9, Try.ntmps9
  go_wp2_with fail
  refine (H1.out _).mono ?_
  rintro e w1 ⟨rfl, hw1⟩
  have R1 : Blk w1 (w.heap.size + 1) #[.int .i64 0, .int .i64 0] := ((blk_new (by simp)).alloc _).kept hw1
  have R2 : Blk w1 (w.heap.size + 1 + 1) #[.int .i64 0, .int .i64 0] := (blk_new (by simp)).kept hw1
  have q1 : Below w.heap.size w w1 := in3 hw1
  obtain ⟨c0, c1⟩ := Blk2 R1
  obtain ⟨d0, d1⟩ := Blk2 R2
  obtain ⟨f0, f1⟩ := Blk2f R1
  obtain ⟨g0, g1⟩ := Blk2f R2
  clear hw1
  go_wp2_with fail
  refine bodyPost_ret (blk_res2 rfl _ _ rfl (blk_oth2 (blk_set2 R1) (by omega)) Try.underlying23 rfl (by rfl) rfl (blk_set2 (blk_oth2 R2 (by omega))) Try.underlying23 rfl (by rfl)) rfl ⟨rfl, (((q1.setCell (by dsimp only; omega) _).setCell (by dsimp only; omega) _).setCell (by dsimp only; omega) _).setCell (by dsimp only; omega) _⟩
set_option maxRecDepth 100000 in
set_option maxHeartbeats 4000000 in
theorem fend_t (px py vx vy hx hy : Int) (w : World) (hv : VM px py vx vy hx hy) : Calls Try.prog 8 #[mo px py vx vy hx hy] w fun e w' => e = .returned (.tuple #[vec (px + (vx + hx)) (py + (vy + hy)), vec (vx + hx + hx) (vy + hy + hy)]) ∧ Below w.heap.size w w' := by
  have H1 := Lib.hid (fun W => fvalid_any px py vx vy hx hy W)
  rw [vmB_t hv] at H1
  obtain ⟨⟨p1, p2, p3, p4⟩, ⟨v1, v2, v3, v4⟩, ⟨h1, h2, h3, h4⟩⟩ := hv
  have H2 := Lib.hid (fun W => vadd_any vx vy hx hy W)
  have H3 := Lib.hid (fun W => vadd_any px py (vx + hx) (vy + hy) W)
  have H4 := Lib.hid (fun W => vadd_any (vx + hx) (vy + hy) hx hy W)
  rw [add_of ⟨by omega, by omega, by omega, by omega⟩ ⟨by omega, by omega, by omega, by omega⟩ rfl rfl ⟨by omega, by omega, by omega, by omega⟩] at H2 H3 H4
  generalize px + (vx + hx) = ex at *
  generalize py + (vy + hy) = ey at *
  generalize vx + hx + hx = ux at *
  generalize vy + hy + hy = uy at *
  generalize vx + hx = mx at *
  generalize vy + hy = my at *
  clear p1 p2 p3 p4 v1 v2 v3 v4 h1 h2 h3 h4
  go_enter Try.func8, Try.ntmps8
  go_wp2_with fail
  refine (H1.out _).mono ?_
  rintro e w1 ⟨rfl, hw1⟩
  have V1 : Blk w1 w.heap.size #[.int .i64 px, .int .i64 py, .int .i64 vx, .int .i64 vy, .int .i64 hx, .int .i64 hy] := (((blk_new rfl).alloc _).alloc _).kept hw1
  have R1 : Blk w1 (w.heap.size + 1) #[.int .i64 0, .int .i64 0] := ((blk_new (by simp)).alloc _).kept hw1
  have R2 : Blk w1 (w.heap.size + 1 + 1) #[.int .i64 0, .int .i64 0] := (blk_new (by simp)).kept hw1
  have q1 : Below w.heap.size w w1 := in3 hw1
  obtain ⟨c0, c1, c2, c3, c4, c5⟩ := Blk6 V1
  clear hw1
  go_wp2_with fail
  refine (H2.out _).mono ?_
  rintro e w2 ⟨rfl, hw2⟩
  have V2 := V1.kept hw2
  have S1 := R1.kept hw2
  have S2 := R2.kept hw2
  have q2 := next q1 hw2
  clear hw2 c0 c1 c2 c3 c4 c5 V1 R1 R2 q1
  have hg1 := S1.lt
  have hg2 := S2.lt
  go_upto_region 4 with fail
  obtain ⟨W, hW⟩ : ∃ W, W = w2.alloc (.cells #[.int .i64 mx, .int .i64 my] 23) := ⟨_, rfl⟩
  have VM2 : Blk W w2.heap.size #[.int .i64 mx, .int .i64 my] := hW ▸ blk_new rfl
  have V3 : Blk W w.heap.size #[.int .i64 px, .int .i64 py, .int .i64 vx, .int .i64 vy, .int .i64 hx, .int .i64 hy] := hW ▸ V2.alloc _
  have T1 : Blk W (w.heap.size + 1) #[.int .i64 0, .int .i64 0] := hW ▸ S1.alloc _
  have T2 : Blk W (w.heap.size + 1 + 1) #[.int .i64 0, .int .i64 0] := hW ▸ S2.alloc _
  have Q3 : Below w.heap.size w W := hW ▸ q2.alloc q2.size _
  rw [← hW]
  clear hW V2 S1 S2 q2
  have HK := Lib.hid (fun w' (h : Below W.heap.size W w') => (⟨Blk6 (V3.kept h), Blk2 (VM2.kept h)⟩ : (w'.cell? ⟨w.heap.size, 0, none⟩ = some (.int .i64 px) ∧ w'.cell? ⟨w.heap.size, 1, none⟩ = some (.int .i64 py) ∧ w'.cell? ⟨w.heap.size, 2, none⟩ = some (.int .i64 vx) ∧ w'.cell? ⟨w.heap.size, 3, none⟩ = some (.int .i64 vy) ∧ w'.cell? ⟨w.heap.size, 4, none⟩ = some (.int .i64 hx) ∧ w'.cell? ⟨w.heap.size, 5, none⟩ = some (.int .i64 hy)) ∧ (w'.cell? ⟨w2.heap.size, 0, none⟩ = some (.int .i64 mx) ∧ w'.cell? ⟨w2.heap.size, 1, none⟩ = some (.int .i64 my))))
  have HR := Lib.hid (fun w' (h : Below W.heap.size W w') => (⟨T1.kept h, T2.kept h⟩ : Blk w' (w.heap.size + 1) #[.int .i64 0, .int .i64 0] ∧ Blk w' (w.heap.size + 1 + 1) #[.int .i64 0, .int .i64 0]))
  have HV := Lib.hid (fun w' (h : Below W.heap.size W w') => (⟨V3.kept h, VM2.kept h⟩ : Blk w' w.heap.size #[.int .i64 px, .int .i64 py, .int .i64 vx, .int .i64 vy, .int .i64 hx, .int .i64 hy] ∧ Blk w' w2.heap.size #[.int .i64 mx, .int .i64 my]))
  have n01 : w.heap.size ≠ w.heap.size + 1 := by omega
  have n02 : w.heap.size ≠ w.heap.size + 1 + 1 := by omega
  have n21 : w2.heap.size ≠ w.heap.size + 1 := by omega
  have n22 : w2.heap.size ≠ w.heap.size + 1 + 1 := by omega
  have hq : Below W.heap.size W W := Below.refl _ _
  have hQ := Lib.hid Q3
  clear Q3 V3 VM2 T1 T2
  obtain ⟨⟨c0, c1, c2, c3, c4, c5⟩, m0, m1⟩ := HK.out _ (Below.refl _ _)
  go_region_held3 (fun w' => (w'.cell? ⟨w.heap.size, 0, none⟩ = some (.int .i64 px) ∧ w'.cell? ⟨w.heap.size, 1, none⟩ = some (.int .i64 py) ∧ w'.cell? ⟨w.heap.size, 2, none⟩ = some (.int .i64 vx) ∧ w'.cell? ⟨w.heap.size, 3, none⟩ = some (.int .i64 vy) ∧ w'.cell? ⟨w.heap.size, 4, none⟩ = some (.int .i64 hx) ∧ w'.cell? ⟨w.heap.size, 5, none⟩ = some (.int .i64 hy)) ∧ (w'.cell? ⟨w2.heap.size, 0, none⟩ = some (.int .i64 mx) ∧ w'.cell? ⟨w2.heap.size, 1, none⟩ = some (.int .i64 my)))
    (first | exact HK.out _ hq | exact HK.out _ (PB.below_drewN hq 1) | exact ⟨Blk6 (blk_oth2 VX n01), Blk2 (blk_oth2 MX n21)⟩ | exact ⟨Blk6 (blk_oth2 (blk_oth2 VX n01) n02), Blk2 (blk_oth2 (blk_oth2 MX n21) n22)⟩ | fail)
    (first
      | (go_at_call 25; (with_reducible refine (H4.out _).mono ?_); rintro e x1 ⟨rfl, hx1⟩; have hq : Below W.heap.size W x1 := (by first | exact hq.trans (hx1.mono hq.size) | exact hq.trans (below_undrew (hx1.mono hq.size))); obtain ⟨R1, R2⟩ := HR.out _ hq; obtain ⟨r0, r1⟩ := Blk2 R1; obtain ⟨s0, s1⟩ := Blk2 R2; obtain ⟨f0, f1⟩ := Blk2f R1; obtain ⟨g0, g1⟩ := Blk2f R2; obtain ⟨VX, MX⟩ := HV.out _ hq)
      | (go_at_call 25; (with_reducible refine (H3.out _).mono ?_); rintro e x1 ⟨rfl, hx1⟩; have hq : Below W.heap.size W x1 := (by first | exact hq.trans (hx1.mono hq.size) | exact hq.trans (below_undrew (hx1.mono hq.size))))
      | fail "no arm")
  go_wp2_with fail
  refine bodyPost_ret (blk_res2 rfl _ _ rfl (blk_oth2 (blk_set2 R1) (by omega)) Try.underlying23 rfl (by rfl) rfl (blk_set2 (blk_oth2 R2 (by omega))) Try.underlying23 rfl (by rfl)) rfl ⟨rfl, ((((hQ.out.trans (hq.mono hQ.out.size)).setCell (by dsimp only; omega) _).setCell (by dsimp only; omega) _).setCell (by dsimp only; omega) _).setCell (by dsimp only; omega) _⟩
end Go.Proofs.Ytmfmbglacebeiaa

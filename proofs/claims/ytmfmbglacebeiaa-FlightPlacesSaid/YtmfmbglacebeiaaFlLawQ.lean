/-
  FlightPlaces: the walk.
-/
import Derived.Test.YtmfmbglacebeiaaFlLawP
namespace Go.Proofs.Ytmfmbglacebeiaa
open Go.RowKit PB VB FL PO
set_option maxRecDepth 100000 in
set_option maxHeartbeats 4000000 in
theorem places_f (px py vx vy hx hy : Int) (w : World) (hv : ¬ VM px py vx vy hx hy) : Calls Try.prog 5 #[mo px py vx vy hx hy] w fun e w' => e = .returned (.bool true) ∧ Below w.heap.size w w' := by
  have HR := Lib.hid (fun W => rvalid_any px py vx vy hx hy W)
  rw [vmB_f hv] at HR
  clear hv
  go_enter Try.func5, Try.ntmps5
  go_wp2_with fail
  refine (flawake _).mono ?_
  rintro e w1 ⟨rfl, hw1⟩
  have M1 : Blk w1 w.heap.size #[.int .i64 px, .int .i64 py, .int .i64 vx, .int .i64 vy, .int .i64 hx, .int .i64 hy] := (blk_new rfl).kept hw1
  have q1 := in1 hw1
  obtain ⟨m0, m1, m2, m3, m4, m5⟩ := Blk6 M1
  clear hw1
  go_wp2_with fail
  refine (HR.out _).mono ?_
  rintro e w2 ⟨rfl, hw2⟩
  have M2 := M1.kept hw2
  have q2 := next q1 hw2
  clear hw2 m0 m1 m2 m3 m4 m5 M1 q1
  obtain ⟨m0, m1, m2, m3, m4, m5⟩ := Blk6 M2
  go_wp2_with fail
  refine (flawake _).mono ?_
  rintro e w3 ⟨rfl, hw3⟩
  have q3 := next q2 hw3
  clear hw3
  go_wp2_with fail
  go_ret
  exact ⟨rfl, q3⟩
set_option maxRecDepth 100000 in
set_option maxHeartbeats 16000000 in
theorem places_t (px py vx vy hx hy : Int) (w : World) (hv : VM px py vx vy hx hy) : Calls Try.prog 5 #[mo px py vx vy hx hy] w fun e w' => e = .returned (.bool true) ∧ Below w.heap.size w w' := by
  have HR := Lib.hid (fun W => rvalid_any px py vx vy hx hy W)
  rw [vmB_t hv] at HR
  have HB := Lib.hid (fun W => fbox_t px py vx vy hx hy W hv)
  have HP := Lib.hid (fun W => fpolys_t px py vx vy hx hy W hv)
  have HE := Lib.hid (fun W => fend_t px py vx vy hx hy W hv)
  have HA := Lib.hid (fun (j : Int) W (j0 : 0 ≤ j) (j1 : j ≤ 16) => fat_t px py vx vy hx hy j W hv j0 j1)
  obtain ⟨⟨p1, p2, p3, p4⟩, ⟨v1, v2, v3, v4⟩, ⟨h1, h2, h3, h4⟩⟩ := hv
  have HI := Lib.hid (fun (j : Int) (j0 : 0 ≤ j) (j1 : j ≤ 16) => at_box (p := px) (v := vx) (h := hx) j0 j1)
  have HJ := Lib.hid (fun (j : Int) (j0 : 0 ≤ j) (j1 : j ≤ 16) => at_box (p := py) (v := vy) (h := hy) j0 j1)
  have HX := Lib.hid (fun (j : Int) (j0 : 0 ≤ j) (j1 : j ≤ 16) b n c N W (hc : CanP N W (.slice b n c) (trimL [px, vx, hx])) => value_any b n c N px vx hx j W hc p1 p2 (by omega) (by omega) (by omega) (by omega) j0 j1 (by have := at_64 p1 p2 v1 v2 h1 h2 j0 j1; omega) (by have := at_64 p1 p2 v1 v2 h1 h2 j0 j1; omega))
  have HY := Lib.hid (fun (j : Int) (j0 : 0 ≤ j) (j1 : j ≤ 16) b n c N W (hc : CanP N W (.slice b n c) (trimL [py, vy, hy])) => value_any b n c N py vy hy j W hc p3 p4 (by omega) (by omega) (by omega) (by omega) j0 j1 (by have := at_64 p3 p4 v3 v4 h3 h4 j0 j1; omega) (by have := at_64 p3 p4 v3 v4 h3 h4 j0 j1; omega))
  obtain ⟨⟨x1, x2⟩, x3, x4⟩ := ex_bd p1 p2 v1 v2 h1 h2
  obtain ⟨⟨y1, y2⟩, y3, y4⟩ := ex_bd p3 p4 v3 v4 h3 h4
  have HA0 := Lib.hid (fun W => HA.out 0 W (by decide) (by decide))
  have HA1 := Lib.hid (fun W => HA.out 16 W (by decide) (by decide))
  rw [(at_ends px vx hx).1, (at_ends py vy hy).1] at HA0
  rw [(at_ends px vx hx).2, (at_ends py vy hy).2] at HA1
  have z1 : -9000000 ≤ px + (vx + hx) := by omega
  have z2 : px + (vx + hx) ≤ 9000000 := by omega
  have z3 : -9000000 ≤ py + (vy + hy) := by omega
  have z4 : py + (vy + hy) ≤ 9000000 := by omega
  clear v1 v2 v3 v4 h1 h2 h3 h4
  generalize px + (vx + hx) = ex at *
  generalize py + (vy + hy) = ey at *
  generalize exL px vx hx = lx at *
  generalize exH px vx hx = ux at *
  generalize exL py vy hy = ly at *
  generalize exH py vy hy = uy at *
  generalize trimL [px, vx, hx] = tx at *
  generalize trimL [py, vy, hy] = ty at *
  go_enter Try.func5, Try.ntmps5
  go_wp2_with fail
  refine (flawake _).mono ?_
  rintro e w1 ⟨rfl, hw1⟩
  have M1 : Blk w1 w.heap.size #[.int .i64 px, .int .i64 py, .int .i64 vx, .int .i64 vy, .int .i64 hx, .int .i64 hy] := (blk_new rfl).kept hw1
  have q1 := in1 hw1
  obtain ⟨m0, m1, m2, m3, m4, m5⟩ := Blk6 M1
  clear hw1
  go_wp2_with fail
  refine (HR.out _).mono ?_
  rintro e w2 ⟨rfl, hw2⟩
  have M2 := M1.kept hw2
  have q2 := next q1 hw2
  clear hw2 m0 m1 m2 m3 m4 m5 M1 q1
  obtain ⟨m0, m1, m2, m3, m4, m5⟩ := Blk6 M2
  go_wp2_with fail
  refine (HB.out _).mono ?_
  rintro e w3 ⟨rfl, hw3⟩
  have M3 := M2.kept hw3
  have q3 := next q2 hw3
  have lm3 := M3.lt
  clear hw3 m0 m1 m2 m3 m4 m5 M2 q2
  obtain ⟨m0, m1, m2, m3, m4, m5⟩ := Blk6 M3
  go_wp2_with fail
  refine (HP.out _).mono ?_
  rintro e w4 ⟨a1, a2, rfl, c1, c2, hw4⟩
  have M4 := ((M3.alloc _).alloc _).kept hw4
  have L4 : Blk w4 w3.heap.size #[.int .i64 lx, .int .i64 ly] := blk_prev hw4
  have U4 : Blk w4 (w3.heap.size + 1) #[.int .i64 ux, .int .i64 uy] := blk_last2 hw4
  have q4 := next q3 (in2 hw4)
  have lm4 := M4.lt
  clear hw4 m0 m1 m2 m3 m4 m5 M3 q3
  obtain ⟨m0, m1, m2, m3, m4, m5⟩ := Blk6 M4
  go_wp2_with fail
  refine (HE.out _).mono ?_
  rintro e w5 ⟨rfl, hw5⟩
  have M5 := M4.kept hw5
  have L5 := L4.kept hw5
  have U5 := U4.kept hw5
  have k1 := c1.kept hw5
  have k2 := c2.kept hw5
  have q5 := next q4 hw5
  obtain ⟨b1, d1, e1⟩ := canp_slice k1
  obtain ⟨b2, d2, e2⟩ := canp_slice k2
  subst e1 e2
  clear hw5 m0 m1 m2 m3 m4 m5 M4 q4 L4 U4 c1 c2 lm3 lm4
  generalize tx.length = nx at *
  generalize ty.length = ny at *
  go_wp2_with fail
  generalize hW : World.alloc (World.alloc w5 _) _ = W
  have MW : Blk W w.heap.size #[.int .i64 px, .int .i64 py, .int .i64 vx, .int .i64 vy, .int .i64 hx, .int .i64 hy] := hW ▸ ((M5.alloc _).alloc _)
  have LW : Blk W w3.heap.size #[.int .i64 lx, .int .i64 ly] := hW ▸ ((L5.alloc _).alloc _)
  have UW : Blk W (w3.heap.size + 1) #[.int .i64 ux, .int .i64 uy] := hW ▸ ((U5.alloc _).alloc _)
  have EW : Blk W w5.heap.size #[.int .i64 ex, .int .i64 ey] := hW ▸ ((blk_new rfl).alloc _)
  have QW : Below w.heap.size w W := hW ▸ ((q5.alloc q5.size _).alloc (Nat.le_trans q5.size (by simp)) _)
  have hbW : Below w5.heap.size w5 W := hW ▸ bs_alloc (bs_alloc (Below.refl _ _) _) _
  have K1 := Lib.hid (k1.kept hbW)
  have K2 := Lib.hid (k2.kept hbW)
  have HM := Lib.hid (fun w' (h : Below W.heap.size W w') => Blk6 (MW.kept h))
  have HL := Lib.hid (fun w' (h : Below W.heap.size W w') => (⟨Blk2 (LW.kept h), Blk2 (UW.kept h)⟩ : (w'.cell? ⟨w3.heap.size, 0, none⟩ = some (.int .i64 lx) ∧ w'.cell? ⟨w3.heap.size, 1, none⟩ = some (.int .i64 ly)) ∧ (w'.cell? ⟨w3.heap.size + 1, 0, none⟩ = some (.int .i64 ux) ∧ w'.cell? ⟨w3.heap.size + 1, 1, none⟩ = some (.int .i64 uy))))
  have HEE := Lib.hid (fun w' (h : Below W.heap.size W w') => Blk2 (EW.kept h))
  have HQ := Lib.hid QW
  have hl1 := Nat.lt_of_lt_of_le LW.lt (Nat.le_refl _)
  have hl2 := UW.lt
  clear hW MW LW UW EW QW hbW k1 k2 M5 L5 U5 q5
  go_loopw [9] (fun i wr => ∃ k : Nat, k ≤ 17 ∧ i = .int .i64 k ∧ Hid (Below W.heap.size W wr)) (fun i _ => 17 - (intOf i).toNat)
  case atStart => exact ⟨0, by omega, rfl, Lib.hid (Below.refl _ _)⟩
  case round =>
    obtain ⟨k, hk, rfl, hq⟩ := hrel
    by_cases hk17 : k < 17
    · have t0 : (0 : Int) ≤ (k : Int) := by omega
      have t1 : (k : Int) ≤ 16 := by omega
      have HAK := Lib.hid (fun W => HA.out k W t0 t1)
      have HXK := Lib.hid (fun b n c N W hc => HX.out k t0 t1 b n c N W hc)
      have HYK := Lib.hid (fun b n c N W hc => HY.out k t0 t1 b n c N W hc)
      obtain ⟨i1, i2⟩ := HI.out k t0 t1
      obtain ⟨i3, i4⟩ := HJ.out k t0 t1
      generalize atI px vx hx k = ax at *
      generalize atI py vy hy k = ay at *
      have r1 : decide (ax < 256 * lx) = false := decide_eq_false (by omega)
      have r2 : decide (ax > 256 * ux) = false := decide_eq_false (by omega)
      have r3 : decide (ay < 256 * ly) = false := decide_eq_false (by omega)
      have r4 : decide (ay > 256 * uy) = false := decide_eq_false (by omega)
      clear i1 i2 i3 i4
      obtain ⟨m0, m1, m2, m3, m4, m5⟩ := HM.out _ hq.out
      go_wp2_with fail
      refine (HAK.out _).mono ?_
      rintro e y1 ⟨rfl, hy1⟩
      have hq1 := hq.out.trans (hy1.mono hq.out.size)
      have ls1 := Nat.lt_of_lt_of_le hl1 hq1.size
      have ls2 := Nat.lt_of_lt_of_le hl2 hq1.size
      obtain ⟨⟨n0, n1⟩, n2, n3⟩ := HL.out _ hq1
      have HQ1 := Lib.hid (hq1.trans ((Below.refl _ _).alloc hq1.size (Obj.cells #[.int .i64 ax, .int .i64 ay] 23)))
      clear hy1 m0 m1 m2 m3 m4 m5 hq1
      go_wp2_with fail
      refine (HXK.out _ _ _ _ _ (K1.out.kept HQ1.out)).mono ?_
      rintro e y2 ⟨rfl, hy2⟩
      have A2 : Blk y2 y1.heap.size #[.int .i64 ax, .int .i64 ay] := (blk_new rfl).kept hy2
      have HQ2 := Lib.hid (HQ1.out.trans (hy2.mono HQ1.out.size))
      obtain ⟨o0, o1⟩ := Blk2 A2
      clear hy2 n0 n1 n2 n3 A2
      go_wp2_with fail
      refine (HYK.out _ _ _ _ _ (K2.out.kept HQ2.out)).mono ?_
      rintro e y3 ⟨rfl, hy3⟩
      have HQ3 := Lib.hid (HQ2.out.trans (hy3.mono HQ2.out.size))
      clear hy3 o0 o1
      go_wp2_with fail
      go_roundw
      case rel => exact ⟨k + 1, by omega, by go_num, HQ3⟩
      case measure => simp [intOf]; omega
    · obtain rfl : k = 17 := by omega
      have hq := hq.out
      obtain ⟨m0, m1, m2, m3, m4, m5⟩ := HM.out _ hq
      have w1' : IntKind.i64.wrap (256 * px) = 256 * px := IntWalk.i64_in _ (by omega)
      have w2' : IntKind.i64.wrap (256 * py) = 256 * py := IntWalk.i64_in _ (by omega)
      have w3' : IntKind.i64.wrap (256 * ex) = 256 * ex := IntWalk.i64_in _ (by omega)
      have w4' : IntKind.i64.wrap (256 * ey) = 256 * ey := IntWalk.i64_in _ (by omega)
      go_upto_region 16 with fail
      go_region_held3 (fun w' => (w'.cell? ⟨w.heap.size, 0, none⟩ = some (.int .i64 px) ∧ w'.cell? ⟨w.heap.size, 1, none⟩ = some (.int .i64 py) ∧ w'.cell? ⟨w.heap.size, 2, none⟩ = some (.int .i64 vx) ∧ w'.cell? ⟨w.heap.size, 3, none⟩ = some (.int .i64 vy) ∧ w'.cell? ⟨w.heap.size, 4, none⟩ = some (.int .i64 hx) ∧ w'.cell? ⟨w.heap.size, 5, none⟩ = some (.int .i64 hy)) ∧ (w'.cell? ⟨w5.heap.size, 0, none⟩ = some (.int .i64 ex) ∧ w'.cell? ⟨w5.heap.size, 1, none⟩ = some (.int .i64 ey)))
        (first | exact ⟨HM.out _ hq, HEE.out _ hq⟩ | exact ⟨HM.out _ (PB.below_drewN hq 1), HEE.out _ (PB.below_drewN hq 1)⟩ | fail)
        (first
          | (go_at_call 17; (with_reducible refine (HA1.out _).mono ?_); rintro e x1 ⟨rfl, hx1⟩; have hq : Below W.heap.size W x1 := (by first | exact hq.trans (hx1.mono hq.size) | exact hq.trans (below_undrew (hx1.mono hq.size))))
          | (go_at_call 17; (with_reducible refine (HA0.out _).mono ?_); rintro e x1 ⟨rfl, hx1⟩; have hq : Below W.heap.size W x1 := (by first | exact hq.trans (hx1.mono hq.size) | exact hq.trans (below_undrew (hx1.mono hq.size))))
          | fail "no arm")
      go_wp2_with fail
      go_ret
      exact ⟨rfl, HQ.out.trans (hq.mono HQ.out.size)⟩
set_option maxRecDepth 100000 in
theorem places_any (px py vx vy hx hy : Int) (w : World) : Calls Try.prog 5 #[mo px py vx vy hx hy] w fun e w' => e = .returned (.bool true) ∧ Below w.heap.size w w' := by
  by_cases h : VM px py vx vy hx hy
  · exact places_t px py vx vy hx hy w h
  · exact places_f px py vx vy hx hy w h
end Go.Proofs.Ytmfmbglacebeiaa

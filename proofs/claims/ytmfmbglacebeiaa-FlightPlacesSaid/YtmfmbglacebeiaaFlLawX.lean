/-
  FlightExact: the walk.
-/
import Derived.Test.YtmfmbglacebeiaaFlPol
import Derived.Test.YtmfmbglacebeiaaFlREnd
import Derived.Test.YtmfmbglacebeiaaFlLawE
namespace Go.Proofs.Ytmfmbglacebeiaa
open Go.RowKit PB VB FL PO
set_option maxRecDepth 100000 in
theorem both_end (px py vx vy hx hy : Int) : ∃ a b c d : Int, (∀ w, Calls Try.prog 8 #[mo px py vx vy hx hy] w fun e w' => e = .returned (.tuple #[vec a b, vec c d]) ∧ Below w.heap.size w w') ∧ ∀ w, Calls Try.prog 9 #[mo px py vx vy hx hy] w fun e w' => e = .returned (.tuple #[vec a b, vec c d]) ∧ Below w.heap.size w w' := by
  by_cases hv : VM px py vx vy hx hy
  · refine ⟨_, _, _, _, fun w => fend_t px py vx vy hx hy w hv, fun w => ?_⟩
    have h := rend_t px py vx vy hx hy w hv
    rw [show px + vx + hx = px + (vx + hx) by omega, show py + vy + hy = py + (vy + hy) by omega, show vx + 2 * hx = vx + hx + hx by omega, show vy + 2 * hy = vy + hy + hy by omega] at h
    exact h
  · exact ⟨0, 0, 0, 0, fun w => fend_f px py vx vy hx hy w hv, fun w => rend_f px py vx vy hx hy w hv⟩
set_option maxRecDepth 100000 in
theorem both_box (px py vx vy hx hy : Int) : ∃ a b c d : Int, (∀ w, Calls Try.prog 12 #[mo px py vx vy hx hy] w fun e w' => e = .returned (.tuple #[vec a b, vec c d]) ∧ Below w.heap.size w w') ∧ ∀ w, Calls Try.prog 13 #[mo px py vx vy hx hy] w fun e w' => e = .returned (.tuple #[vec a b, vec c d]) ∧ Below w.heap.size w w' := by
  by_cases hv : VM px py vx vy hx hy
  · exact ⟨_, _, _, _, fun w => fbox_t px py vx vy hx hy w hv, fun w => rbox_t px py vx vy hx hy w hv⟩
  · exact ⟨0, 0, 0, 0, fun w => fbox_f px py vx vy hx hy w hv, fun w => rbox_f px py vx vy hx hy w hv⟩
set_option maxRecDepth 100000 in
theorem both_at (px py vx vy hx hy : Int) (j : Int) : ∃ a b : Int, (∀ w, Calls Try.prog 17 #[mo px py vx vy hx hy, .int .i64 j] w fun e w' => e = .returned (vec a b) ∧ Below w.heap.size w w') ∧ ∀ w, Calls Try.prog 18 #[mo px py vx vy hx hy, .int .i64 j] w fun e w' => e = .returned (vec a b) ∧ Below w.heap.size w w' := by
  by_cases hv : VM px py vx vy hx hy ∧ 0 ≤ j ∧ j ≤ 16
  · exact ⟨_, _, fun w => fat_t px py vx vy hx hy j w hv.1 hv.2.1 hv.2.2, fun w => rat_t px py vx vy hx hy j w hv.1 hv.2.1 hv.2.2⟩
  · exact ⟨0, 0, fun w => fat_f px py vx vy hx hy j w hv, fun w => rat_f px py vx vy hx hy j w hv⟩
set_option maxRecDepth 100000 in
theorem both_polys (px py vx vy hx hy : Int) : ∃ l m : List Int, l.length ≤ 3 ∧ m.length ≤ 3 ∧ (∀ w, Calls Try.prog 10 #[mo px py vx vy hx hy] w (RetPolys w l m)) ∧ ∀ w, Calls Try.prog 11 #[mo px py vx vy hx hy] w (RetPolys w l m) := by
  by_cases hv : VM px py vx vy hx hy
  · exact ⟨_, _, by rw [trimL_length]; exact trimN_le _, by rw [trimL_length]; exact trimN_le _, fun w => fpolys_t px py vx vy hx hy w hv, fun w => rpolys_t px py vx vy hx hy w hv⟩
  · exact ⟨[], [], by decide, by decide, fun w => fpolys_f px py vx vy hx hy w hv, fun w => rpolys_f px py vx vy hx hy w hv⟩
theorem canp_slice {N : Nat} {w : World} {v : Value} {l : List Int} (h : CanP N w v l) : ∃ b c, v = .slice b l.length c := by
  obtain ⟨b, _, _, c, e, _⟩ := h; exact ⟨b, c, e⟩
set_option maxRecDepth 100000 in
set_option maxHeartbeats 16000000 in
theorem exact_any (px py vx vy hx hy j : Int) (w : World) : Calls Try.prog 3 #[mo px py vx vy hx hy, .int .i64 j] w fun e w' => e = .returned (.bool true) ∧ Below w.heap.size w w' := by
  obtain ⟨ea, eb, ec, ed, e1, e2⟩ := both_end px py vx vy hx hy
  obtain ⟨ba, bb, bc, bd, b1, b2⟩ := both_box px py vx vy hx hy
  obtain ⟨aa, ab, a1, a2⟩ := both_at px py vx vy hx hy j
  obtain ⟨l, m, hl, hm, p1, p2⟩ := both_polys px py vx vy hx hy
  have E1 := Lib.hid e1; have E2 := Lib.hid e2; have B1 := Lib.hid b1; have B2 := Lib.hid b2; have A1 := Lib.hid a1; have A2 := Lib.hid a2; have P1 := Lib.hid p1; have P2 := Lib.hid p2
  clear e1 e2 b1 b2 a1 a2 p1 p2
  have V1 := Lib.hid (fun W => fvalid_any px py vx vy hx hy W)
  have V2 := Lib.hid (fun W => rvalid_any px py vx vy hx hy W)
  have S1 := Lib.hid (fun W => fstay_any px py W)
  have S2 := Lib.hid (fun W => rstay_any px py W)
  have N1 := Lib.hid (fun W => fenergy_any vx vy W)
  have N2 := Lib.hid (fun W => renergy_any vx vy W)
  generalize vmB px py vx vy hx hy = bv at *
  generalize (stV px py).1 = sx at *
  generalize (stV px py).2 = sy at *
  generalize dotW vx vy vx vy = en at *
  go_enter Try.func3, Try.ntmps3
  go_wp2_with fail
  refine (flawake _).mono ?_
  rintro e w1 ⟨rfl, hw1⟩
  have M1 : Blk w1 w.heap.size #[.int .i64 px, .int .i64 py, .int .i64 vx, .int .i64 vy, .int .i64 hx, .int .i64 hy] := (blk_new rfl).kept hw1
  have q1 := in1 hw1
  obtain ⟨m0, m1, m2, m3, m4, m5⟩ := Blk6 M1
  clear hw1
  go_wp2_with fail
  refine (E1.out _).mono ?_
  rintro e w2 ⟨rfl, hw2⟩
  have M2 := M1.kept hw2
  have q2 := next q1 hw2
  clear hw2 m0 m1 m2 m3 m4 m5 M1 q1 
  obtain ⟨m0, m1, m2, m3, m4, m5⟩ := Blk6 M2
  have lm2 := M2.lt
  go_wp2_with fail
  refine (E2.out _).mono ?_
  rintro e w3 ⟨rfl, hw3⟩
  have M3 := ((M2.alloc _).alloc _).kept hw3
  have U2_3 : Blk w3 w2.heap.size #[.int .i64 ea, .int .i64 eb] := blk_prev hw3
  have W2_3 : Blk w3 (w2.heap.size + 1) #[.int .i64 ec, .int .i64 ed] := blk_last2 hw3
  have q3 := next q2 (in2 hw3)
  clear hw3 m0 m1 m2 m3 m4 m5 M2 q2 
  obtain ⟨m0, m1, m2, m3, m4, m5⟩ := Blk6 M3
  have lm3 := M3.lt
  go_wp2_with fail
  refine (P1.out _).mono ?_
  rintro e w4 ⟨x4, y4, rfl, cx4, cy4, hw4⟩
  have M4 := ((M3.alloc _).alloc _).kept hw4
  have U2_4 : Blk w4 w2.heap.size #[.int .i64 ea, .int .i64 eb] := ((U2_3.alloc _).alloc _).kept hw4
  have W2_4 : Blk w4 (w2.heap.size + 1) #[.int .i64 ec, .int .i64 ed] := ((W2_3.alloc _).alloc _).kept hw4
  have U3_4 : Blk w4 w3.heap.size #[.int .i64 ea, .int .i64 eb] := blk_prev hw4
  have W3_4 : Blk w4 (w3.heap.size + 1) #[.int .i64 ec, .int .i64 ed] := blk_last2 hw4
  have q4 := next q3 (in2 hw4)
  clear hw4 m0 m1 m2 m3 m4 m5 M3 q3 U2_3 W2_3
  obtain ⟨m0, m1, m2, m3, m4, m5⟩ := Blk6 M4
  have lm4 := M4.lt
  go_wp2_with fail
  refine (P2.out _).mono ?_
  rintro e w5 ⟨x5, y5, rfl, cx5, cy5, hw5⟩
  have M5 := M4.kept hw5
  have U2_5 : Blk w5 w2.heap.size #[.int .i64 ea, .int .i64 eb] := U2_4.kept hw5
  have W2_5 : Blk w5 (w2.heap.size + 1) #[.int .i64 ec, .int .i64 ed] := W2_4.kept hw5
  have U3_5 : Blk w5 w3.heap.size #[.int .i64 ea, .int .i64 eb] := U3_4.kept hw5
  have W3_5 : Blk w5 (w3.heap.size + 1) #[.int .i64 ec, .int .i64 ed] := W3_4.kept hw5
  have cx4 := (cx4.kept (Below.refl _ _)).kept hw5
  have cy4 := (cy4.kept (Below.refl _ _)).kept hw5
  have q5 := next q4 hw5
  clear hw5 m0 m1 m2 m3 m4 m5 M4 q4 U2_4 W2_4 U3_4 W3_4
  obtain ⟨m0, m1, m2, m3, m4, m5⟩ := Blk6 M5
  have lm5 := M5.lt
  go_wp2_with fail
  refine (B1.out _).mono ?_
  rintro e w6 ⟨rfl, hw6⟩
  have M6 := M5.kept hw6
  have U2_6 : Blk w6 w2.heap.size #[.int .i64 ea, .int .i64 eb] := U2_5.kept hw6
  have W2_6 : Blk w6 (w2.heap.size + 1) #[.int .i64 ec, .int .i64 ed] := W2_5.kept hw6
  have U3_6 : Blk w6 w3.heap.size #[.int .i64 ea, .int .i64 eb] := U3_5.kept hw6
  have W3_6 : Blk w6 (w3.heap.size + 1) #[.int .i64 ec, .int .i64 ed] := W3_5.kept hw6
  have cx4 := (cx4.kept (Below.refl _ _)).kept hw6
  have cy4 := (cy4.kept (Below.refl _ _)).kept hw6
  have cx5 := (cx5.kept (Below.refl _ _)).kept hw6
  have cy5 := (cy5.kept (Below.refl _ _)).kept hw6
  have q6 := next q5 hw6
  clear hw6 m0 m1 m2 m3 m4 m5 M5 q5 U2_5 W2_5 U3_5 W3_5
  obtain ⟨m0, m1, m2, m3, m4, m5⟩ := Blk6 M6
  have lm6 := M6.lt
  go_wp2_with fail
  refine (B2.out _).mono ?_
  rintro e w7 ⟨rfl, hw7⟩
  have M7 := ((M6.alloc _).alloc _).kept hw7
  have U2_7 : Blk w7 w2.heap.size #[.int .i64 ea, .int .i64 eb] := ((U2_6.alloc _).alloc _).kept hw7
  have W2_7 : Blk w7 (w2.heap.size + 1) #[.int .i64 ec, .int .i64 ed] := ((W2_6.alloc _).alloc _).kept hw7
  have U3_7 : Blk w7 w3.heap.size #[.int .i64 ea, .int .i64 eb] := ((U3_6.alloc _).alloc _).kept hw7
  have W3_7 : Blk w7 (w3.heap.size + 1) #[.int .i64 ec, .int .i64 ed] := ((W3_6.alloc _).alloc _).kept hw7
  have U6_7 : Blk w7 w6.heap.size #[.int .i64 ba, .int .i64 bb] := blk_prev hw7
  have W6_7 : Blk w7 (w6.heap.size + 1) #[.int .i64 bc, .int .i64 bd] := blk_last2 hw7
  have cx4 := (cx4.kept (bs_alloc (bs_alloc (Below.refl _ _) _) _)).kept hw7
  have cy4 := (cy4.kept (bs_alloc (bs_alloc (Below.refl _ _) _) _)).kept hw7
  have cx5 := (cx5.kept (bs_alloc (bs_alloc (Below.refl _ _) _) _)).kept hw7
  have cy5 := (cy5.kept (bs_alloc (bs_alloc (Below.refl _ _) _) _)).kept hw7
  have q7 := next q6 (in2 hw7)
  clear hw7 m0 m1 m2 m3 m4 m5 M6 q6 U2_6 W2_6 U3_6 W3_6
  obtain ⟨m0, m1, m2, m3, m4, m5⟩ := Blk6 M7
  have lm7 := M7.lt
  go_upto_region 9 with fail
  obtain ⟨W, hW⟩ : ∃ W, W = (w7.alloc (.cells #[.int .i64 ba, .int .i64 bb] 23)).alloc (.cells #[.int .i64 bc, .int .i64 bd] 23) := ⟨_, rfl⟩
  have MW : Blk W w.heap.size #[.int .i64 px, .int .i64 py, .int .i64 vx, .int .i64 vy, .int .i64 hx, .int .i64 hy] := hW ▸ ((M7.alloc _).alloc _)
  have K0 : Blk W w2.heap.size #[.int .i64 ea, .int .i64 eb] := hW ▸ ((U2_7.alloc _).alloc _)
  have K1 : Blk W (w2.heap.size + 1) #[.int .i64 ec, .int .i64 ed] := hW ▸ ((W2_7.alloc _).alloc _)
  have K2 : Blk W w3.heap.size #[.int .i64 ea, .int .i64 eb] := hW ▸ ((U3_7.alloc _).alloc _)
  have K3 : Blk W (w3.heap.size + 1) #[.int .i64 ec, .int .i64 ed] := hW ▸ ((W3_7.alloc _).alloc _)
  have K4 : Blk W w6.heap.size #[.int .i64 ba, .int .i64 bb] := hW ▸ ((U6_7.alloc _).alloc _)
  have K5 : Blk W (w6.heap.size + 1) #[.int .i64 bc, .int .i64 bd] := hW ▸ ((W6_7.alloc _).alloc _)
  have K6 : Blk W w7.heap.size #[.int .i64 ba, .int .i64 bb] := hW ▸ ((blk_new rfl).alloc _)
  have K7 : Blk W (w7.heap.size + 1) #[.int .i64 bc, .int .i64 bd] := hW ▸ blk_new (by simp)
  have cx4 := cx4.kept (bs_alloc (bs_alloc (Below.refl w7.heap.size w7) (.cells #[.int .i64 ba, .int .i64 bb] 23)) (.cells #[.int .i64 bc, .int .i64 bd] 23))
  rw [← hW] at cx4
  have cy4 := cy4.kept (bs_alloc (bs_alloc (Below.refl w7.heap.size w7) (.cells #[.int .i64 ba, .int .i64 bb] 23)) (.cells #[.int .i64 bc, .int .i64 bd] 23))
  rw [← hW] at cy4
  have cx5 := cx5.kept (bs_alloc (bs_alloc (Below.refl w7.heap.size w7) (.cells #[.int .i64 ba, .int .i64 bb] 23)) (.cells #[.int .i64 bc, .int .i64 bd] 23))
  rw [← hW] at cx5
  have cy5 := cy5.kept (bs_alloc (bs_alloc (Below.refl w7.heap.size w7) (.cells #[.int .i64 ba, .int .i64 bb] 23)) (.cells #[.int .i64 bc, .int .i64 bd] 23))
  rw [← hW] at cy5
  have QW : Below w.heap.size w W := hW ▸ ((q7.alloc q7.size _).alloc (Nat.le_trans q7.size (by simp)) _)
  rw [← hW]
  clear hW m0 m1 m2 m3 m4 m5 M7 q7 U2_7 W2_7 U3_7 W3_7 U6_7 W6_7
  obtain ⟨k0a, k0b⟩ := Blk2 K0
  obtain ⟨k1a, k1b⟩ := Blk2 K1
  obtain ⟨k2a, k2b⟩ := Blk2 K2
  obtain ⟨k3a, k3b⟩ := Blk2 K3
  obtain ⟨k4a, k4b⟩ := Blk2 K4
  obtain ⟨k5a, k5b⟩ := Blk2 K5
  obtain ⟨k6a, k6b⟩ := Blk2 K6
  obtain ⟨k7a, k7b⟩ := Blk2 K7
  obtain ⟨bcx4, ccx4, ecx4⟩ := canp_slice cx4
  subst ecx4
  obtain ⟨bcy4, ccy4, ecy4⟩ := canp_slice cy4
  subst ecy4
  obtain ⟨bcx5, ccx5, ecx5⟩ := canp_slice cx5
  subst ecx5
  obtain ⟨bcy5, ccy5, ecy5⟩ := canp_slice cy5
  subst ecy5
  have HX := Lib.hid (fun W' (h : Below W.heap.size W W') => psame_any _ _ _ _ _ _ _ _ l W' (cx4.kept h) (cx5.kept h) (by omega))
  have HY := Lib.hid (fun W' (h : Below W.heap.size W W') => psame_any _ _ _ _ _ _ _ _ m W' (cy4.kept h) (cy5.kept h) (by omega))
  have HM := Lib.hid (fun w' (h : Below W.heap.size W w') => (Blk6 (MW.kept h)))
  have HB := Lib.hid (fun w' (h : Below W.heap.size W w') => (⟨Blk2 (K4.kept h), Blk2 (K5.kept h), Blk2 (K6.kept h), Blk2 (K7.kept h)⟩ : (w'.cell? ⟨w6.heap.size, 0, none⟩ = some (.int .i64 ba) ∧ w'.cell? ⟨w6.heap.size, 1, none⟩ = some (.int .i64 bb)) ∧ (w'.cell? ⟨w6.heap.size + 1, 0, none⟩ = some (.int .i64 bc) ∧ w'.cell? ⟨w6.heap.size + 1, 1, none⟩ = some (.int .i64 bd)) ∧ (w'.cell? ⟨w7.heap.size, 0, none⟩ = some (.int .i64 ba) ∧ w'.cell? ⟨w7.heap.size, 1, none⟩ = some (.int .i64 bb)) ∧ (w'.cell? ⟨w7.heap.size + 1, 0, none⟩ = some (.int .i64 bc) ∧ w'.cell? ⟨w7.heap.size + 1, 1, none⟩ = some (.int .i64 bd))))
  have HQ := Lib.hid QW
  clear MW QW cx4 cx5 cy4 cy5 K0 K1 K2 K3 K4 K5 K6 K7
  go_wp2_with fail
  refine (HX.out _ (Below.refl _ _)).mono ?_
  rintro e y1 ⟨rfl, hq⟩
  have g1 := HB.out _ hq
  clear k0a k0b k1a k1b k2a k2b k3a k3b k4a k4b k5a k5b k6a k6b k7a k7b
  obtain ⟨⟨k4a, k4b⟩, ⟨k5a, k5b⟩, ⟨k6a, k6b⟩, k7a, k7b⟩ := g1
  go_wp2_with fail
  refine (HY.out _ hq).mono ?_
  rintro e y2 ⟨rfl, hq2⟩
  have hq := pnext hq hq2
  have g1 := HB.out _ hq
  clear hq2 k4a k4b k5a k5b k6a k6b k7a k7b
  obtain ⟨⟨k4a, k4b⟩, ⟨k5a, k5b⟩, ⟨k6a, k6b⟩, k7a, k7b⟩ := g1
  obtain ⟨m0, m1, m2, m3, m4, m5⟩ := HM.out _ hq
  go_upto_region 10 with fail
  clear k4a k4b k5a k5b k6a k6b k7a k7b
  go_region_held3 (fun w' => w'.cell? ⟨w.heap.size, 0, none⟩ = some (.int .i64 px) ∧ w'.cell? ⟨w.heap.size, 1, none⟩ = some (.int .i64 py) ∧ w'.cell? ⟨w.heap.size, 2, none⟩ = some (.int .i64 vx) ∧ w'.cell? ⟨w.heap.size, 3, none⟩ = some (.int .i64 vy) ∧ w'.cell? ⟨w.heap.size, 4, none⟩ = some (.int .i64 hx) ∧ w'.cell? ⟨w.heap.size, 5, none⟩ = some (.int .i64 hy))
    (first | exact HM.out _ hq | exact HM.out _ (PB.below_drewN hq 1) | fail)
    (first
      | (go_at_call 22; (with_reducible refine (N2.out _).mono ?_); rintro e x1 ⟨rfl, hx1⟩; have hq : Below W.heap.size W x1 := (by first | exact hq.trans (hx1.mono hq.size) | exact hq.trans (below_undrew (hx1.mono hq.size))))
      | (go_at_call 21; (with_reducible refine (N1.out _).mono ?_); rintro e x1 ⟨rfl, hx1⟩; have hq : Below W.heap.size W x1 := (by first | exact hq.trans (hx1.mono hq.size) | exact hq.trans (below_undrew (hx1.mono hq.size))))
      | (go_at_call 20; (with_reducible refine (S2.out _).mono ?_); rintro e x1 ⟨rfl, hx1⟩; have hq : Below W.heap.size W x1 := (by first | exact hq.trans (hx1.mono hq.size) | exact hq.trans (below_undrew (hx1.mono hq.size))))
      | (go_at_call 19; (with_reducible refine (S1.out _).mono ?_); rintro e x1 ⟨rfl, hx1⟩; have hq : Below W.heap.size W x1 := (by first | exact hq.trans (hx1.mono hq.size) | exact hq.trans (below_undrew (hx1.mono hq.size))))
      | (go_at_call 18; (with_reducible refine (A2.out _).mono ?_); rintro e x1 ⟨rfl, hx1⟩; have hq : Below W.heap.size W x1 := (by first | exact hq.trans (hx1.mono hq.size) | exact hq.trans (below_undrew (hx1.mono hq.size))))
      | (go_at_call 17; (with_reducible refine (A1.out _).mono ?_); rintro e x1 ⟨rfl, hx1⟩; have hq : Below W.heap.size W x1 := (by first | exact hq.trans (hx1.mono hq.size) | exact hq.trans (below_undrew (hx1.mono hq.size))))
      | (go_at_call 16; (with_reducible refine (V2.out _).mono ?_); rintro e x1 ⟨rfl, hx1⟩; have hq : Below W.heap.size W x1 := (by first | exact hq.trans (hx1.mono hq.size) | exact hq.trans (below_undrew (hx1.mono hq.size))))
      | (go_at_call 15; (with_reducible refine (V1.out _).mono ?_); rintro e x1 ⟨rfl, hx1⟩; have hq : Below W.heap.size W x1 := (by first | exact hq.trans (hx1.mono hq.size) | exact hq.trans (below_undrew (hx1.mono hq.size))))
      | fail "no arm")
  go_wp2_with fail
  go_ret
  trace_state
  exact ⟨rfl, HQ.out.trans (hq.mono HQ.out.size)⟩
end Go.Proofs.Ytmfmbglacebeiaa

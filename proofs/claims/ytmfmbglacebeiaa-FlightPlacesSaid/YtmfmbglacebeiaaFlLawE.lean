/-
  FlightEnergy: the walk.
-/
import Derived.Test.YtmfmbglacebeiaaFlAw
namespace FL
open Go Go.RowKit PB VB
theorem energy_eq {px py vx vy hx hy : Int} (h : VM px py vx vy hx hy) : dotW (vx + hx + hx) (vy + hy + hy) (vx + hx + hx) (vy + hy + hy) - dotW vx vy vx vy = 4 * (hx * (px + (vx + hx) - px) + hy * (py + (vy + hy) - py)) := by
  obtain ⟨⟨p1, p2, p3, p4⟩, ⟨v1, v2, v3, v4⟩, ⟨h1, h2, h3, h4⟩⟩ := h
  have s1 : Sm (vx + hx + hx) (vy + hy + hy) := ⟨by omega, by omega, by omega, by omega⟩
  have s2 : Sm vx vy := ⟨by omega, by omega, by omega, by omega⟩
  unfold dotW
  rw [if_pos ⟨s1, s1⟩, if_pos ⟨s2, s2⟩]
  unfold dotI
  grind
theorem sm_dotI {ax ay bx b_ : Int} (h : Sm ax ay) (h' : Sm bx b_) : -2305843009213693952 ≤ dotI ax ay bx b_ ∧ dotI ax ay bx b_ ≤ 2305843009213693952 := by
  obtain ⟨a, b, c, d⟩ := h
  obtain ⟨a', b', c', d'⟩ := h'
  have h1 := VB.mul_bd a b a' b'
  have h2 := VB.mul_bd c d c' d'
  unfold dotI; omega
theorem dotW_bd (a b : Int) : -2305843009213693952 ≤ dotW a b a b ∧ dotW a b a b ≤ 2305843009213693952 := by
  unfold dotW
  split
  · rename_i h; exact sm_dotI h.1 h.2
  · omega
theorem sm_dot' {a b c d : Int} (h1 : -1000000 ≤ a) (h2 : a ≤ 1000000) (h3 : -1000000 ≤ b) (h4 : b ≤ 1000000) (h5 : -1000000 ≤ c) (h6 : c ≤ 1000000) (h7 : -1000000 ≤ d) (h8 : d ≤ 1000000) :
    (-1000000000000 ≤ a * c ∧ a * c ≤ 1000000000000) ∧ (-1000000000000 ≤ b * d ∧ b * d ≤ 1000000000000) := by
  have e1 := mul_le (a := a) (b := c) (A := 1000000) (C := 1000000) h1 h2 h5 h6
  have e2 := mul_le (a := b) (b := d) (A := 1000000) (C := 1000000) h3 h4 h7 h8
  omega
end FL
namespace Go.Proofs.Ytmfmbglacebeiaa
open Go.RowKit PB VB FL
set_option maxRecDepth 100000 in
set_option maxHeartbeats 4000000 in
theorem energy_t (px py vx vy hx hy : Int) (w : World) (hv : VM px py vx vy hx hy) : Calls Try.prog 4 #[mo px py vx vy hx hy] w fun e w' => e = .returned (.bool true) ∧ Below w.heap.size w w' := by
  have HR := Lib.hid (fun W => rvalid_any px py vx vy hx hy W)
  rw [vmB_t hv] at HR
  have HE := Lib.hid (fun W => fend_t px py vx vy hx hy W hv)
  have E := Lib.hid (energy_eq hv)
  obtain ⟨⟨p1, p2, p3, p4⟩, ⟨v1, v2, v3, v4⟩, ⟨h1, h2, h3, h4⟩⟩ := hv
  have H1 := Lib.hid (fun W => fenergy_any (vx + hx + hx) (vy + hy + hy) W)
  have H0 := Lib.hid (fun W => fenergy_any vx vy W)
  obtain ⟨⟨d1, d2⟩, d3, d4⟩ := sm_dot' (a := hx) (b := hy) (c := px + (vx + hx) - px) (d := py + (vy + hy) - py) (by omega) (by omega) (by omega) (by omega) (by omega) (by omega) (by omega) (by omega)
  have HD := Lib.hid (fun W => dot_any hx hy (px + (vx + hx) - px) (py + (vy + hy) - py) W (by omega) (by omega) (by omega) (by omega) (by omega) (by omega))
  obtain ⟨e1, e2⟩ := dotW_bd (vx + hx + hx) (vy + hy + hy)
  obtain ⟨e3, e4⟩ := dotW_bd vx vy
  have x1 : -9000000 ≤ px + (vx + hx) := by omega
  have x2 : px + (vx + hx) ≤ 9000000 := by omega
  have y1 : -9000000 ≤ py + (vy + hy) := by omega
  have y2 : py + (vy + hy) ≤ 9000000 := by omega
  generalize dotW (vx + hx + hx) (vy + hy + hy) (vx + hx + hx) (vy + hy + hy) = en1 at *
  generalize dotW vx vy vx vy = en0 at *
  generalize px + (vx + hx) = ex at *
  generalize py + (vy + hy) = ey at *
  generalize vx + hx + hx = ux at *
  generalize vy + hy + hy = uy at *
  have t1 : -2000000000000 ≤ hx * (ex - px) + hy * (ey - py) := by omega
  have t2 : hx * (ex - px) + hy * (ey - py) ≤ 2000000000000 := by omega
  generalize hx * (ex - px) + hy * (ey - py) = dd at *
  clear d1 d2 d3 d4 v1 v2 v3 v4 h1 h2 h3 h4
  go_enter Try.func4, Try.ntmps4
  go_wp2_with fail
  refine (flawake _).mono ?_
  rintro e w1 ⟨rfl, hw1⟩
  have M1 : Blk w1 w.heap.size #[.int .i64 px, .int .i64 py, .int .i64 vx, .int .i64 vy, .int .i64 hx, .int .i64 hy] := (blk_new rfl).kept hw1
  have q1 := in1 hw1
  obtain ⟨m0, m1, m2, m3, m4, m5⟩ := Blk6 M1
  clear hw1
  go_wp2_with fail
  refine (HR.out _).mono ?_
  rintro e w2 ⟨rfl, hw2⟩
  have M2 := M1.kept hw2
  have q2 := next q1 hw2
  clear hw2 m0 m1 m2 m3 m4 m5 M1 q1
  obtain ⟨m0, m1, m2, m3, m4, m5⟩ := Blk6 M2
  go_wp2_with fail
  refine (HE.out _).mono ?_
  rintro e w3 ⟨rfl, hw3⟩
  have M3 := M2.kept hw3
  have q3 := next q2 hw3
  have l3 := M3.lt
  clear hw3 m0 m1 m2 m3 m4 m5 M2 q2
  obtain ⟨m0, m1, m2, m3, m4, m5⟩ := Blk6 M3
  go_upto_region 7 with fail
  obtain ⟨W, hW⟩ : ∃ W, W = ((w3.alloc (.cells #[.int .i64 ex, .int .i64 ey] 23)).alloc (.cells #[.int .i64 ux, .int .i64 uy] 23)).alloc (.cells #[.int .i64 (ex - px), .int .i64 (ey - py)] 23) := ⟨_, rfl⟩
  have M4 : Blk W w.heap.size #[.int .i64 px, .int .i64 py, .int .i64 vx, .int .i64 vy, .int .i64 hx, .int .i64 hy] := hW ▸ (((M3.alloc _).alloc _).alloc _)
  have U4 : Blk W (w3.heap.size + 1) #[.int .i64 ux, .int .i64 uy] := hW ▸ ((blk_new (by simp)).alloc _)
  have D4 : Blk W (w3.heap.size + 1 + 1) #[.int .i64 (ex - px), .int .i64 (ey - py)] := hW ▸ blk_new (by simp)
  have q4 : Below w.heap.size w W := hW ▸ (((q3.alloc q3.size _).alloc (Nat.le_trans q3.size (by simp)) _).alloc (Nat.le_trans q3.size (by simp; omega)) _)
  rw [← hW]
  clear hW M3 q3 l3 m0 m1 m2 m3 m4 m5
  have HK := Lib.hid (fun w' (h : Below W.heap.size W w') => (⟨Blk6 (M4.kept h), Blk2 (U4.kept h), Blk2 (D4.kept h)⟩ : (w'.cell? ⟨w.heap.size, 0, none⟩ = some (.int .i64 px) ∧ w'.cell? ⟨w.heap.size, 1, none⟩ = some (.int .i64 py) ∧ w'.cell? ⟨w.heap.size, 2, none⟩ = some (.int .i64 vx) ∧ w'.cell? ⟨w.heap.size, 3, none⟩ = some (.int .i64 vy) ∧ w'.cell? ⟨w.heap.size, 4, none⟩ = some (.int .i64 hx) ∧ w'.cell? ⟨w.heap.size, 5, none⟩ = some (.int .i64 hy)) ∧ (w'.cell? ⟨w3.heap.size + 1, 0, none⟩ = some (.int .i64 ux) ∧ w'.cell? ⟨w3.heap.size + 1, 1, none⟩ = some (.int .i64 uy)) ∧ (w'.cell? ⟨w3.heap.size + 1 + 1, 0, none⟩ = some (.int .i64 (ex - px)) ∧ w'.cell? ⟨w3.heap.size + 1 + 1, 1, none⟩ = some (.int .i64 (ey - py)))))
  have HQ := Lib.hid q4
  have hq : Below W.heap.size W W := Below.refl _ _
  clear M4 U4 D4 q4
  obtain ⟨⟨m0, m1, m2, m3, m4, m5⟩, ⟨u0, u1⟩, d0, d1⟩ := HK.out _ (Below.refl _ _)
  go_region_held3 (fun w' => (w'.cell? ⟨w.heap.size, 0, none⟩ = some (.int .i64 px) ∧ w'.cell? ⟨w.heap.size, 1, none⟩ = some (.int .i64 py) ∧ w'.cell? ⟨w.heap.size, 2, none⟩ = some (.int .i64 vx) ∧ w'.cell? ⟨w.heap.size, 3, none⟩ = some (.int .i64 vy) ∧ w'.cell? ⟨w.heap.size, 4, none⟩ = some (.int .i64 hx) ∧ w'.cell? ⟨w.heap.size, 5, none⟩ = some (.int .i64 hy)) ∧ (w'.cell? ⟨w3.heap.size + 1, 0, none⟩ = some (.int .i64 ux) ∧ w'.cell? ⟨w3.heap.size + 1, 1, none⟩ = some (.int .i64 uy)) ∧ (w'.cell? ⟨w3.heap.size + 1 + 1, 0, none⟩ = some (.int .i64 (ex - px)) ∧ w'.cell? ⟨w3.heap.size + 1 + 1, 1, none⟩ = some (.int .i64 (ey - py))))
    (first | exact HK.out _ hq | exact HK.out _ (PB.below_drewN hq 1) | fail)
    (first
      | (go_at_call 23; (with_reducible refine (HD.out _).mono ?_); rintro e x1 ⟨rfl, hx1⟩; have hq : Below W.heap.size W x1 := (by first | exact hq.trans (hx1.mono hq.size) | exact hq.trans (below_undrew (hx1.mono hq.size))))
      | (go_at_call 21; (with_reducible refine (H0.out _).mono ?_); rintro e x1 ⟨rfl, hx1⟩; have hq : Below W.heap.size W x1 := (by first | exact hq.trans (hx1.mono hq.size) | exact hq.trans (below_undrew (hx1.mono hq.size))))
      | (go_at_call 21; (with_reducible refine (H1.out _).mono ?_); rintro e x1 ⟨rfl, hx1⟩; have hq : Below W.heap.size W x1 := (by first | exact hq.trans (hx1.mono hq.size) | exact hq.trans (below_undrew (hx1.mono hq.size))))
      | fail "no arm")
  go_wp2_with fail
  go_ret
  exact bret (by rw [E.out]; exact beq_self_eq_true _) (next HQ.out hq)
set_option maxRecDepth 100000 in
set_option maxHeartbeats 4000000 in
theorem energy_f (px py vx vy hx hy : Int) (w : World) (hv : ¬ VM px py vx vy hx hy) : Calls Try.prog 4 #[mo px py vx vy hx hy] w fun e w' => e = .returned (.bool true) ∧ Below w.heap.size w w' := by
  have HR := Lib.hid (fun W => rvalid_any px py vx vy hx hy W)
  rw [vmB_f hv] at HR
  have HS := Lib.hid (fun W => fstay_any px py W)
  have HV := Lib.hid (fun W => fvalid_any (stV px py).1 (stV px py).2 0 0 0 0 W)
  have hw : VM (stV px py).1 (stV px py).2 0 0 0 0 := by
    refine ⟨?_, ⟨by decide, by decide, by decide, by decide⟩, ⟨by decide, by decide, by decide, by decide⟩⟩
    unfold stV
    split
    · assumption
    · exact ⟨by decide, by decide, by decide, by decide⟩
  rw [vmB_t hw] at HV
  clear hv hw
  generalize (stV px py).1 = sx at *
  generalize (stV px py).2 = sy at *
  by_cases cx : sx = 0
  · by_cases cy : sy = 0
    · subst cx cy
      go_enter Try.func4, Try.ntmps4
      go_wp2_with fail
      refine (flawake _).mono ?_
      rintro e w1 ⟨rfl, hw1⟩
      have M1 : Blk w1 w.heap.size #[.int .i64 px, .int .i64 py, .int .i64 vx, .int .i64 vy, .int .i64 hx, .int .i64 hy] := (blk_new rfl).kept hw1
      have q1 := in1 hw1
      obtain ⟨m0, m1, m2, m3, m4, m5⟩ := Blk6 M1
      clear hw1
      go_wp2_with fail
      refine (HR.out _).mono ?_
      rintro e w2 ⟨rfl, hw2⟩
      have M2 := M1.kept hw2
      have q2 := next q1 hw2
      clear hw2 m0 m1 m2 m3 m4 m5 M1 q1
      obtain ⟨m0, m1, m2, m3, m4, m5⟩ := Blk6 M2
      go_wp2_with fail
      refine (HS.out _).mono ?_
      rintro e w3 ⟨rfl, hw3⟩
      have q3 := next q2 hw3
      clear hw3
      go_wp2_with fail
      go_ret
      exact ⟨rfl, q3⟩
    · subst cx
      have cy' : (sy == 0) = false := by simpa using cy
      have cy2 : decide (sy = 0) = false := by simpa using cy
      clear cy
      go_enter Try.func4, Try.ntmps4
      go_wp2_with fail
      refine (flawake _).mono ?_
      rintro e w1 ⟨rfl, hw1⟩
      have M1 : Blk w1 w.heap.size #[.int .i64 px, .int .i64 py, .int .i64 vx, .int .i64 vy, .int .i64 hx, .int .i64 hy] := (blk_new rfl).kept hw1
      have q1 := in1 hw1
      obtain ⟨m0, m1, m2, m3, m4, m5⟩ := Blk6 M1
      clear hw1
      go_wp2_with fail
      refine (HR.out _).mono ?_
      rintro e w2 ⟨rfl, hw2⟩
      have M2 := M1.kept hw2
      have q2 := next q1 hw2
      clear hw2 m0 m1 m2 m3 m4 m5 M1 q1
      obtain ⟨m0, m1, m2, m3, m4, m5⟩ := Blk6 M2
      go_wp2_with fail
      refine (HS.out _).mono ?_
      rintro e w3 ⟨rfl, hw3⟩
      have M3 := M2.kept hw3
      have q3 := next q2 hw3
      clear hw3 m0 m1 m2 m3 m4 m5 M2 q2
      obtain ⟨m0, m1, m2, m3, m4, m5⟩ := Blk6 M3
      go_wp2_with fail
      refine (HS.out _).mono ?_
      rintro e w4 ⟨rfl, hw4⟩
      have q4 := next q3 hw4
      clear hw4
      go_wp2_with fail
      refine (HV.out _).mono ?_
      rintro e w5 ⟨rfl, hw5⟩
      have q5 := next q4 hw5
      clear hw5
      go_wp2_with fail
      go_ret
      exact ⟨rfl, q5⟩
  · have cx' : (sx == 0) = false := by simpa using cx
    have cx2 : decide (sx = 0) = false := by simpa using cx
    clear cx
    go_enter Try.func4, Try.ntmps4
    go_wp2_with fail
    refine (flawake _).mono ?_
    rintro e w1 ⟨rfl, hw1⟩
    have M1 : Blk w1 w.heap.size #[.int .i64 px, .int .i64 py, .int .i64 vx, .int .i64 vy, .int .i64 hx, .int .i64 hy] := (blk_new rfl).kept hw1
    have q1 := in1 hw1
    obtain ⟨m0, m1, m2, m3, m4, m5⟩ := Blk6 M1
    clear hw1
    go_wp2_with fail
    refine (HR.out _).mono ?_
    rintro e w2 ⟨rfl, hw2⟩
    have M2 := M1.kept hw2
    have q2 := next q1 hw2
    clear hw2 m0 m1 m2 m3 m4 m5 M1 q1
    obtain ⟨m0, m1, m2, m3, m4, m5⟩ := Blk6 M2
    go_wp2_with fail
    refine (HS.out _).mono ?_
    rintro e w3 ⟨rfl, hw3⟩
    have M3 := M2.kept hw3
    have q3 := next q2 hw3
    clear hw3 m0 m1 m2 m3 m4 m5 M2 q2
    obtain ⟨m0, m1, m2, m3, m4, m5⟩ := Blk6 M3
    go_wp2_with fail
    refine (HS.out _).mono ?_
    rintro e w4 ⟨rfl, hw4⟩
    have q4 := next q3 hw4
    clear hw4
    go_wp2_with fail
    refine (HV.out _).mono ?_
    rintro e w5 ⟨rfl, hw5⟩
    have q5 := next q4 hw5
    clear hw5
    go_wp2_with fail
    go_ret
    exact ⟨rfl, q5⟩
end Go.Proofs.Ytmfmbglacebeiaa

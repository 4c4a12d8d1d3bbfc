/-
  FlightSteps: the walk, arguments in their ranges.
-/
import Derived.Test.YtmfmbglacebeiaaFlLawSo
namespace Go.Proofs.Ytmfmbglacebeiaa
open Go.RowKit PB VB FL
set_option maxRecDepth 100000 in
set_option maxHeartbeats 8000000 in
theorem steps_in (px py vx vy hx hy n : Int) (w : World) (h : InS px py vx vy hx hy n) : Calls Try.prog 6 #[mo px py vx vy hx hy, .int .i64 n] w fun e w' => e = .returned (.bool true) ∧ Below w.heap.size w w' := by
  have HS := Lib.hid (fun (k : Int) W (k0 : 0 ≤ k) (k1 : k ≤ n) => fend_t (stp px vx hx k) (stp py vy hy k) (stw vx hx k) (stw vy hy k) hx hy W (st_valid h k0 k1))
  obtain ⟨⟨a0, a1⟩, ⟨b0, b1⟩, ⟨c0, c1⟩, d0, d1⟩ := st_bd h.n0 h.n1 h.v1 h.v2 h.h1 h.h2
  obtain ⟨⟨a2, a3⟩, -, ⟨c2, c3⟩, d2, d3⟩ := st_bd h.n0 h.n1 h.v3 h.v4 h.h3 h.h4
  obtain ⟨n0, n1, p1, p2, p3, p4, v1, v2, v3, v4, h1, h2, h3, h4⟩ := h
  go_enter Try.func6, Try.ntmps6
  go_wp2_with fail
  refine (flawake _).mono ?_
  rintro e w1 ⟨rfl, hw1⟩
  have M1 : Blk w1 w.heap.size #[.int .i64 px, .int .i64 py, .int .i64 vx, .int .i64 vy, .int .i64 hx, .int .i64 hy] := (blk_new rfl).kept hw1
  have q1 := in1 hw1
  obtain ⟨m0, m1, m2, m3, m4, m5⟩ := Blk6 M1
  clear hw1
  obtain ⟨kn, hkn⟩ : ∃ kn : Nat, n = kn := ⟨n.toNat, by omega⟩
  have HKN := Lib.hid hkn
  have HM := Lib.hid M1
  have HQ := Lib.hid q1
  have lm := M1.lt
  clear M1 q1 hkn
  go_wp2_with fail
  go_loopw [6] (fun i wr => ∃ k : Nat, k ≤ kn ∧ i = .int .i64 k ∧ Hid (Blk wr w1.heap.size #[.int .i64 (stp px vx hx k), .int .i64 (stp py vy hy k), .int .i64 (stw vx hx k), .int .i64 (stw vy hy k), .int .i64 hx, .int .i64 hy] ∧ Blk wr w.heap.size #[.int .i64 px, .int .i64 py, .int .i64 vx, .int .i64 vy, .int .i64 hx, .int .i64 hy] ∧ Below w.heap.size w wr)) (fun i _ => kn - (intOf i).toNat)
  case atStart =>
    refine ⟨0, Nat.zero_le _, rfl, Lib.hid ⟨?_, HM.out.alloc _, HQ.out.alloc HQ.out.size _⟩⟩
    have e : ((0 : Nat) : Int) = 0 := rfl
    rw [e, stp_zero, stp_zero, stw_zero, stw_zero]
    exact blk_new rfl
  case round =>
    obtain ⟨k, hk, rfl, hR⟩ := hrel
    obtain ⟨hB, hM, hq⟩ := hR.out
    have E1 := HKN.out
    have hk0 : (0 : Int) ≤ (k : Int) := by omega
    have hk1 : (k : Int) ≤ n := by omega
    clear E1
    have HE := Lib.hid (fun W => HS.out (k : Int) W hk0 hk1)
    rw [stp_succ, stp_succ, stw_succ, stw_succ] at HE
    have HC := Lib.hid (show ((k : Int) + 1) = ((k + 1 : Nat) : Int) from by omega)
    by_cases hkn : (k : Int) < n
    · generalize stp px vx hx k = xx at *
      generalize stp py vy hy k = xy at *
      generalize stw vx hx k = ux at *
      generalize stw vy hy k = uy at *
      obtain ⟨x0, x1, x2, x3, x4, x5⟩ := Blk6 hB
      obtain ⟨f0, f1, f2, f3, f4, f5⟩ := Blk6f hB
      clear m0 m1 m2 m3 m4 m5
      obtain ⟨m0, m1, m2, m3, m4, m5⟩ := Blk6 hM
      have HB := Lib.hid hB
      have HM' := Lib.hid hM
      have HQ' := Lib.hid hq
      clear hB hM hq hR
      go_wp2_with fail
      refine (HE.out _).mono ?_
      rintro e w2 ⟨rfl, hw2⟩
      have B2 := HB.out.kept hw2
      have M2 := HM'.out.kept hw2
      have q2 := next HQ'.out hw2
      have lb := B2.lt
      have lm2 := M2.lt
      clear hw2 x0 x1 x2 x3 x4 x5 f0 f1 f2 f3 f4 f5 m0 m1 m2 m3 m4 m5
      obtain ⟨x0, x1, x2, x3, x4, x5⟩ := Blk6 B2
      obtain ⟨f0, f1, f2, f3, f4, f5⟩ := Blk6f B2
      obtain ⟨m0, m1, m2, m3, m4, m5⟩ := Blk6 M2
      have HB2 := Lib.hid B2
      have HM2 := Lib.hid M2
      have HQ2 := Lib.hid q2
      clear B2 M2 q2
      go_wp2_with fail
      go_roundw
      case rel =>
        have E1 := HKN.out
        have hle : w.heap.size ≤ w1.heap.size := HQ.out.size
        have hne : w.heap.size ≠ w1.heap.size := by omega
        have P1 := below_set6 (a' := .int .i64 (stp px vx hx ((k : Int) + 1))) (b' := .int .i64 (stp py vy hy ((k : Int) + 1))) (c' := .int .i64 (stw vx hx ((k : Int) + 1))) (d' := .int .i64 (stw vy hy ((k : Int) + 1))) (e' := .int .i64 hx) (f' := .int .i64 hy) HQ2.out hle
        refine ⟨k + 1, by omega, by go_num, Lib.hid ⟨?_, ?_, ?_⟩⟩
        · rw [← HC.out]
          exact ((blk_set6 HB2.out).alloc _).alloc _
        · exact ((oth6 HM2.out hne).alloc _).alloc _
        · exact (P1.alloc P1.size _).alloc (Nat.le_trans P1.size (by rw [World.size_alloc]; omega)) _
      case measure =>
        have E1 := HKN.out
        simp [intOf]; omega
    · have hkn' : decide ((k : Int) < n) = false := decide_eq_false hkn
      obtain rfl : n = (k : Int) := by omega
      have HB := Lib.hid hB
      have HM' := Lib.hid hM
      have HQ' := Lib.hid hq
      clear hB hM hq hR
      have hB := HB.out
      unfold stp stw at hB
      obtain ⟨x0, x1, x2, x3, x4, x5⟩ := Blk6 hB
      clear m0 m1 m2 m3 m4 m5 hB
      obtain ⟨m0, m1, m2, m3, m4, m5⟩ := Blk6 HM'.out
      clear hkn HE
      go_wp2_with fail
      go_ret
      exact ⟨rfl, HQ'.out⟩
end Go.Proofs.Ytmfmbglacebeiaa

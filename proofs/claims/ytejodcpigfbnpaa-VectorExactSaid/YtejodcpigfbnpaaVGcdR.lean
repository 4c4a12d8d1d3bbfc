/-
  Reduce of the reference.
-/
import Derived.Test.YtejodcpigfbnpaaVGcd
namespace VB
theorem gcd_abs (x y : Int) : Int.gcd (x.natAbs : Int) (y.natAbs : Int) = Int.gcd x y := by
  show Nat.gcd _ _ = Nat.gcd _ _
  simp
theorem gcd_mod {a b : Int} (ha : 0 ≤ a) : Int.gcd b (a % b) = Int.gcd a b := by
  rw [← Int.tmod_eq_emod_of_nonneg ha]; exact gcd_step a b
end VB
namespace Go.Proofs.Ytejodcpigfbnpaa
open Go.RowKit PB VB
theorem rred_f (x y : Int) (w : World) (h : ¬ Sm x y) : Calls Try.prog 25 #[vec x y] w fun e w' => e = .returned (vec (redV x y).1 (redV x y).2) ∧ Below w.heap.size w w' := by
  have E := Lib.hid (show redV x y = (0, 0) from if_neg h)
  go_enter Try.func25, Try.ntmps25
  go_wp2_with fail
  refine (rsmall_f _ _ _ h).mono ?_
  rintro e w1 ⟨rfl, hw1⟩
  have V1 := blk_prev hw1
  have R1 := blk_last2 hw1
  have q1 := in2 hw1
  obtain ⟨a0, a1⟩ := Blk2 V1
  obtain ⟨r0, r1⟩ := Blk2 R1
  obtain ⟨f0, f1⟩ := Blk2f R1
  clear hw1
  go_wp2_with fail
  refine bodyPost_ret (blk_res rfl _ rfl (blk_set2 R1) Try.underlying23 rfl (by rfl)) rfl ⟨by rw [E.out], (q1.setCell (by dsimp only; omega) _).setCell (by dsimp only; omega) _⟩
theorem rred_zero (w : World) (h : Sm 0 0) : Calls Try.prog 25 #[vec 0 0] w fun e w' => e = .returned (vec (redV 0 0).1 (redV 0 0).2) ∧ Below w.heap.size w w' := by
  have E := Lib.hid (show redV 0 0 = (0, 0) from (if_pos h).trans rfl)
  go_enter Try.func25, Try.ntmps25
  go_wp2_with fail
  refine (rsmall_t _ _ _ h).mono ?_
  rintro e w1 ⟨rfl, hw1⟩
  have V1 := blk_prev hw1
  have R1 := blk_last2 hw1
  have q1 := in2 hw1
  obtain ⟨a0, a1⟩ := Blk2 V1
  obtain ⟨r0, r1⟩ := Blk2 R1
  obtain ⟨f0, f1⟩ := Blk2f R1
  clear hw1
  go_wp2_with fail
  refine bodyPost_ret (blk_res rfl _ rfl (blk_set2 R1) Try.underlying23 rfl (by rfl)) rfl ⟨by rw [E.out], (q1.setCell (by dsimp only; omega) _).setCell (by dsimp only; omega) _⟩
set_option maxHeartbeats 2000000 in
theorem rred_tx (x y : Int) (w : World) (h : Sm x y) (hz : x ≠ 0) : Calls Try.prog 25 #[vec x y] w fun e w' => e = .returned (vec (redV x y).1 (redV x y).2) ∧ Below w.heap.size w w' := by
  have E := Lib.hid (show redV x y = (Int.tdiv x (Int.gcd x y), y.tdiv (Int.gcd x y)) from if_pos h)
  have hg := gcd_pos (x := x) (y := y) (Or.inl hz)
  obtain ⟨t1, t2⟩ := tdiv_bd (g := (Int.gcd x y : Int)) h.a h.b
  obtain ⟨t3, t4⟩ := tdiv_bd (g := (Int.gcd x y : Int)) h.c h.d
  have HGA := Lib.hid (gcd_abs x y)
  generalize Int.gcd x y = g at *
  have hg1 : (0 : Int) < g := by omega
  have hg2 : ¬ (g : Int) = 0 := by omega
  have s1 := h.a; have s2 := h.b; have s3 := h.c; have s4 := h.d
  go_enter Try.func25, Try.ntmps25
  go_wp2_with fail
  refine (rsmall_t _ _ _ h).mono ?_
  rintro e w1 ⟨rfl, hw1⟩
  have V1 := blk_prev hw1
  have R1 := blk_last2 hw1
  have q1 := in2 hw1
  obtain ⟨a0, a1⟩ := Blk2 V1
  clear hw1
  go_upto_region 3 with fail
  go_cut [3, 4] from 14 to 25 (fun s3 s4 wx => s3 = .int .i64 ((Int.natAbs x : Nat) : Int) ∧ s4 = .int .i64 ((Int.natAbs y : Nat) : Int) ∧ ∃ m, wx = w1.drewN m)
  case first =>
    by_cases p1 : 0 ≤ x
    · by_cases p2 : 0 ≤ y
      · have e1 : ((Int.natAbs x : Nat) : Int) = x := by omega
        have e2 : ((Int.natAbs y : Nat) : Int) = y := by omega
        have G1 := Lib.hid e1
        have G2 := Lib.hid e2
        clear e1 e2
        go_quiet (fail)
        all_goals (go_wp2_with fail; go_meet; exact ⟨congrArg (Value.int .i64) G1.out.symm, congrArg (Value.int .i64) G2.out.symm, _, rfl⟩)
      · have e1 : ((Int.natAbs x : Nat) : Int) = x := by omega
        have e2 : ((Int.natAbs y : Nat) : Int) = -y := by omega
        have G1 := Lib.hid e1
        have G2 := Lib.hid e2
        clear e1 e2
        go_quiet (fail)
        all_goals (go_wp2_with fail; go_meet; exact ⟨congrArg (Value.int .i64) G1.out.symm, congrArg (Value.int .i64) G2.out.symm, _, rfl⟩)
    · by_cases p2 : 0 ≤ y
      · have e1 : ((Int.natAbs x : Nat) : Int) = -x := by omega
        have e2 : ((Int.natAbs y : Nat) : Int) = y := by omega
        have G1 := Lib.hid e1
        have G2 := Lib.hid e2
        clear e1 e2
        go_quiet (fail)
        all_goals (go_wp2_with fail; go_meet; exact ⟨congrArg (Value.int .i64) G1.out.symm, congrArg (Value.int .i64) G2.out.symm, _, rfl⟩)
      · have e1 : ((Int.natAbs x : Nat) : Int) = -x := by omega
        have e2 : ((Int.natAbs y : Nat) : Int) = -y := by omega
        have G1 := Lib.hid e1
        have G2 := Lib.hid e2
        clear e1 e2
        go_quiet (fail)
        all_goals (go_wp2_with fail; go_meet; exact ⟨congrArg (Value.int .i64) G1.out.symm, congrArg (Value.int .i64) G2.out.symm, _, rfl⟩)
  case rest =>
    obtain ⟨rfl, rfl, m0, rfl⟩ := hcut
    have HV := Lib.hid V1
    have HR := Lib.hid R1
    have HQ := Lib.hid q1
    have n1 : ((Int.natAbs x : Nat) : Int) ≤ 1073741824 := by omega
    have n2 : ((Int.natAbs y : Nat) : Int) ≤ 1073741824 := by omega
    have n3 : 0 ≤ ((Int.natAbs x : Nat) : Int) := by omega
    have n4 : 0 ≤ ((Int.natAbs y : Nat) : Int) := by omega
    generalize ((Int.natAbs x : Nat) : Int) = A0 at *
    generalize ((Int.natAbs y : Nat) : Int) = B0 at *
    clear V1 R1 q1 a0 a1
    go_wp2_with fail
    go_loopw [3, 4] (fun u v wr => ∃ a b : Int, 0 ≤ a ∧ a ≤ 1073741824 ∧ 0 ≤ b ∧ b ≤ 1073741824 ∧ u = .int .i64 a ∧ v = .int .i64 b ∧ Hid (Int.gcd a b = g) ∧ Hid (∃ m, wr = w1.drewN m)) (fun _ v _ => (intOf v).natAbs)
    case atStart => exact ⟨A0, B0, n3, n1, n4, n2, rfl, rfl, HGA, Lib.hid ⟨m0, rfl⟩⟩
    case round =>
      obtain ⟨a, b, a1, a2, b1, b2, rfl, rfl, hgc, hm⟩ := hrel
      obtain ⟨m, rfl⟩ := hm.out
      by_cases hz : 0 < b
      · have HG := Lib.hid ((gcd_mod (b := b) a1).trans hgc.out)
        have hm1 : 0 ≤ a % b := Int.emod_nonneg _ (by omega)
        have hm3 : a % b < b := Int.emod_lt_of_pos _ hz
        have hm2 : a % b ≤ 1073741824 := by omega
        have hz0 : ¬ b = 0 := by omega
        go_wp2_with fail
        go_quiet (fail)
        go_wp2_with fail
        go_roundw
        case rel => exact ⟨b, a % b, b1, b2, hm1, hm2, rfl, rfl, HG, Lib.hid (by simp only [World.drewN_drewN]; exact ⟨_, rfl⟩)⟩
        case measure => simp [intOf]; omega
      · obtain rfl : b = 0 := by omega
        have e := hgc.out
        rw [Int.gcd_zero_right] at e
        obtain rfl : a = (g : Int) := by omega
        clear e hgc
        obtain ⟨a0, a1'⟩ := Blk2 HV.out
        obtain ⟨r0, r1⟩ := Blk2 HR.out
        obtain ⟨f0, f1⟩ := Blk2f HR.out
        go_wp2_with fail
        go_region
        go_wp2_with fail
        refine bodyPost_ret (blk_res rfl _ rfl (blk_set2 HR.out.drewN) Try.underlying23 rfl (by rfl)) rfl ⟨by rw [E.out], ((PB.below_drewN HQ.out _).setCell (by dsimp only; omega) _).setCell (by dsimp only; omega) _⟩
set_option maxHeartbeats 2000000 in
theorem rred_ty (y : Int) (w : World) (h : Sm 0 y) (hz : y ≠ 0) : Calls Try.prog 25 #[vec 0 y] w fun e w' => e = .returned (vec (redV 0 y).1 (redV 0 y).2) ∧ Below w.heap.size w w' := by
  have E := Lib.hid (show redV 0 y = (Int.tdiv 0 (Int.gcd 0 y), y.tdiv (Int.gcd 0 y)) from if_pos h)
  have hg := gcd_pos (x := 0) (y := y) (Or.inr hz)
  obtain ⟨t1, t2⟩ := tdiv_bd (g := (Int.gcd 0 y : Int)) h.a h.b
  obtain ⟨t3, t4⟩ := tdiv_bd (g := (Int.gcd 0 y : Int)) h.c h.d
  have HGA := Lib.hid (gcd_abs 0 y)
  generalize Int.gcd 0 y = g at *
  have hg1 : (0 : Int) < g := by omega
  have hg2 : ¬ (g : Int) = 0 := by omega
  have s1 := h.a; have s2 := h.b; have s3 := h.c; have s4 := h.d
  go_enter Try.func25, Try.ntmps25
  go_wp2_with fail
  refine (rsmall_t _ _ _ h).mono ?_
  rintro e w1 ⟨rfl, hw1⟩
  have V1 := blk_prev hw1
  have R1 := blk_last2 hw1
  have q1 := in2 hw1
  obtain ⟨a0, a1⟩ := Blk2 V1
  clear hw1
  go_upto_region 3 with fail
  go_cut [3, 4] from 14 to 25 (fun s3 s4 wx => s3 = .int .i64 ((Int.natAbs 0 : Nat) : Int) ∧ s4 = .int .i64 ((Int.natAbs y : Nat) : Int) ∧ ∃ m, wx = w1.drewN m)
  case first =>
    by_cases p1 : 0 ≤ 0
    · by_cases p2 : 0 ≤ y
      · have e1 : ((Int.natAbs 0 : Nat) : Int) = 0 := by omega
        have e2 : ((Int.natAbs y : Nat) : Int) = y := by omega
        have G1 := Lib.hid e1
        have G2 := Lib.hid e2
        clear e1 e2
        go_quiet (fail)
        all_goals (go_wp2_with fail; go_meet; exact ⟨congrArg (Value.int .i64) G1.out.symm, congrArg (Value.int .i64) G2.out.symm, _, rfl⟩)
      · have e1 : ((Int.natAbs 0 : Nat) : Int) = 0 := by omega
        have e2 : ((Int.natAbs y : Nat) : Int) = -y := by omega
        have G1 := Lib.hid e1
        have G2 := Lib.hid e2
        clear e1 e2
        go_quiet (fail)
        all_goals (go_wp2_with fail; go_meet; exact ⟨congrArg (Value.int .i64) G1.out.symm, congrArg (Value.int .i64) G2.out.symm, _, rfl⟩)
    · exact absurd (Nat.le_refl 0) p1
  case rest =>
    obtain ⟨rfl, rfl, m0, rfl⟩ := hcut
    have HV := Lib.hid V1
    have HR := Lib.hid R1
    have HQ := Lib.hid q1
    have n1 : ((Int.natAbs 0 : Nat) : Int) ≤ 1073741824 := by omega
    have n2 : ((Int.natAbs y : Nat) : Int) ≤ 1073741824 := by omega
    have n3 : 0 ≤ ((Int.natAbs 0 : Nat) : Int) := by omega
    have n4 : 0 ≤ ((Int.natAbs y : Nat) : Int) := by omega
    generalize ((Int.natAbs 0 : Nat) : Int) = A0 at *
    generalize ((Int.natAbs y : Nat) : Int) = B0 at *
    clear V1 R1 q1 a0 a1
    go_wp2_with fail
    go_loopw [3, 4] (fun u v wr => ∃ a b : Int, 0 ≤ a ∧ a ≤ 1073741824 ∧ 0 ≤ b ∧ b ≤ 1073741824 ∧ u = .int .i64 a ∧ v = .int .i64 b ∧ Hid (Int.gcd a b = g) ∧ Hid (∃ m, wr = w1.drewN m)) (fun _ v _ => (intOf v).natAbs)
    case atStart => exact ⟨A0, B0, n3, n1, n4, n2, rfl, rfl, HGA, Lib.hid ⟨m0, rfl⟩⟩
    case round =>
      obtain ⟨a, b, a1, a2, b1, b2, rfl, rfl, hgc, hm⟩ := hrel
      obtain ⟨m, rfl⟩ := hm.out
      by_cases hz : 0 < b
      · have HG := Lib.hid ((gcd_mod (b := b) a1).trans hgc.out)
        have hm1 : 0 ≤ a % b := Int.emod_nonneg _ (by omega)
        have hm3 : a % b < b := Int.emod_lt_of_pos _ hz
        have hm2 : a % b ≤ 1073741824 := by omega
        have hz0 : ¬ b = 0 := by omega
        go_wp2_with fail
        go_quiet (fail)
        go_wp2_with fail
        go_roundw
        case rel => exact ⟨b, a % b, b1, b2, hm1, hm2, rfl, rfl, HG, Lib.hid (by simp only [World.drewN_drewN]; exact ⟨_, rfl⟩)⟩
        case measure => simp [intOf]; omega
      · obtain rfl : b = 0 := by omega
        have e := hgc.out
        rw [Int.gcd_zero_right] at e
        obtain rfl : a = (g : Int) := by omega
        clear e hgc
        obtain ⟨a0, a1'⟩ := Blk2 HV.out
        obtain ⟨r0, r1⟩ := Blk2 HR.out
        obtain ⟨f0, f1⟩ := Blk2f HR.out
        go_wp2_with fail
        go_region
        go_wp2_with fail
        refine bodyPost_ret (blk_res rfl _ rfl (blk_set2 HR.out.drewN) Try.underlying23 rfl (by rfl)) rfl ⟨by rw [E.out, Int.zero_tdiv], ((PB.below_drewN HQ.out _).setCell (by dsimp only; omega) _).setCell (by dsimp only; omega) _⟩
theorem rred_any (x y : Int) (w : World) : Calls Try.prog 25 #[vec x y] w fun e w' => e = .returned (vec (redV x y).1 (redV x y).2) ∧ Below w.heap.size w w' := by
  by_cases h : Sm x y
  · by_cases hx : x = 0
    · subst hx
      by_cases hy : y = 0
      · subst hy; exact rred_zero w h
      · exact rred_ty y w h hy
    · exact rred_tx x y w h hx
  · exact rred_f x y w h
end Go.Proofs.Ytejodcpigfbnpaa

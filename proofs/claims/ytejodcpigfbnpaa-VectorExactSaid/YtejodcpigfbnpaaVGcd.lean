/-
  divisor and Reduce of both sides.
-/
import Derived.Test.YtejodcpigfbnpaaVRef
import Derived.RegionTactic
import Derived.ChangeAlike
import Derived.Deep.DeepCutAuto
namespace VB
theorem gcd_step (a b : Int) : Int.gcd b (a.tmod b) = Int.gcd a b := by
  show Nat.gcd b.natAbs (a.tmod b).natAbs = Nat.gcd a.natAbs b.natAbs
  rw [Int.natAbs_tmod, Nat.gcd_comm b.natAbs, ← Nat.gcd_rec, Nat.gcd_comm]
theorem tmod_small {a b : Int} (hb : b ≠ 0) : (a.tmod b).natAbs < b.natAbs := by
  rw [Int.natAbs_tmod]; exact Nat.mod_lt _ (by omega)
/-- A vector without a common divisor. -/
noncomputable def redV (x y : Int) : Int × Int := open Classical in if Sm x y then (x.tdiv (Int.gcd x y), y.tdiv (Int.gcd x y)) else (0, 0)
theorem tdiv_bd {x g : Int} (h1 : -1073741824 ≤ x) (h2 : x ≤ 1073741824) : -1073741824 ≤ x.tdiv g ∧ x.tdiv g ≤ 1073741824 := by
  have h : (x.tdiv g).natAbs ≤ x.natAbs := by rw [Int.natAbs_tdiv]; exact Nat.div_le_self _ _
  omega
theorem gcd_pos {x y : Int} (h : x ≠ 0 ∨ y ≠ 0) : 0 < Int.gcd x y := by
  apply Nat.pos_of_ne_zero
  intro h0
  have := Int.gcd_eq_zero_iff.1 h0
  omega
end VB
namespace Go.Proofs.Ytejodcpigfbnpaa
open Go.RowKit PB VB
set_option maxHeartbeats 1000000 in
theorem divisor_any (x y : Int) (w : World) (h : Sm x y) : Calls Try.prog 41 #[.int .i64 x, .int .i64 y] w fun e w' => e = .returned (.int .i64 (Int.gcd x y : Int)) ∧ Below w.heap.size w w' := by
  have h1 := h.a; have h2 := h.b; have h3 := h.c; have h4 := h.d
  go_enter Try.func41, Try.ntmps41
  go_wp2_with fail
  go_loopw [0, 1] (fun u v wr => ∃ a b : Int, -1073741824 ≤ a ∧ a ≤ 1073741824 ∧ -1073741824 ≤ b ∧ b ≤ 1073741824 ∧ u = .int .i64 a ∧ v = .int .i64 b ∧ Hid (Int.gcd a b = Int.gcd x y) ∧ Hid (Below w.heap.size w wr)) (fun _ v _ => (intOf v).natAbs)
  case atStart => exact ⟨x, y, h1, h2, h3, h4, rfl, rfl, Lib.hid rfl, Lib.hid (Below.refl _ _)⟩
  case round =>
    obtain ⟨a, b, a1, a2, b1, b2, rfl, rfl, hg, hb⟩ := hrel
    by_cases hz : b = 0
    · subst hz
      have e := hg.out
      rw [Int.gcd_zero_right] at e
      have E := Lib.hid e
      clear e
      go_wp2_with fail
      all_goals (go_ret; exact iret (by have := E.out; omega) hb.out)
    · have hk : (b != 0) = true := by simpa using hz
      have hm := tmod_small (a := a) hz
      have HG := Lib.hid ((gcd_step a b).trans hg.out)
      have hm1 : -1073741824 ≤ a.tmod b := by omega
      have hm2 : a.tmod b ≤ 1073741824 := by omega
      have HM := Lib.hid hm
      clear hm
      go_wp2_with fail
      go_quiet (fail)
      go_wp2_with fail
      go_roundw
      case rel => exact ⟨b, a.tmod b, b1, b2, hm1, hm2, rfl, rfl, HG, Lib.hid (PB.below_drewN hb.out _)⟩
      case measure => simp [intOf]; have := HM.out; rw [Int.natAbs_tmod] at this; exact this
theorem vred_f (x y : Int) (w : World) (h : ¬ Sm x y) : Calls Try.prog 24 #[vec x y] w fun e w' => e = .returned (vec (redV x y).1 (redV x y).2) ∧ Below w.heap.size w w' := by
  have E := Lib.hid (show redV x y = (0, 0) from if_neg h)
  go_enter Try.func24, Try.ntmps24
  go_wp2_with fail
  refine (vsmall_f _ _ _ h).mono ?_
  rintro e w1 ⟨rfl, hw1⟩
  have V1 := blk_prev hw1
  have R1 := blk_last2 hw1
  have q1 := in2 hw1
  obtain ⟨a0, a1⟩ := Blk2 V1
  obtain ⟨r0, r1⟩ := Blk2 R1
  obtain ⟨f0, f1⟩ := Blk2f R1
  clear hw1
  go_wp2_with fail
  refine bodyPost_ret (blk_res rfl _ rfl (blk_set2 R1) Try.underlying23 rfl (by rfl)) rfl ⟨by rw [E.out], (q1.setCell (by dsimp only; omega) _).setCell (by dsimp only; omega) _⟩
theorem vred_zero (w : World) (h : Sm 0 0) : Calls Try.prog 24 #[vec 0 0] w fun e w' => e = .returned (vec (redV 0 0).1 (redV 0 0).2) ∧ Below w.heap.size w w' := by
  have E := Lib.hid (show redV 0 0 = (0, 0) from (if_pos h).trans rfl)
  go_enter Try.func24, Try.ntmps24
  go_wp2_with fail
  refine (vsmall_t _ _ _ h).mono ?_
  rintro e w1 ⟨rfl, hw1⟩
  have V1 := blk_prev hw1
  have R1 := blk_last2 hw1
  have q1 := in2 hw1
  obtain ⟨a0, a1⟩ := Blk2 V1
  obtain ⟨r0, r1⟩ := Blk2 R1
  obtain ⟨f0, f1⟩ := Blk2f R1
  clear hw1
  go_wp2_with fail
  refine bodyPost_ret (blk_res rfl _ rfl (blk_set2 R1) Try.underlying23 rfl (by rfl)) rfl ⟨by rw [E.out], (q1.setCell (by dsimp only; omega) _).setCell (by dsimp only; omega) _⟩
set_option maxHeartbeats 1000000 in
theorem vred_tx (x y : Int) (w : World) (h : Sm x y) (hz : x ≠ 0) : Calls Try.prog 24 #[vec x y] w fun e w' => e = .returned (vec (redV x y).1 (redV x y).2) ∧ Below w.heap.size w w' := by
  have E := Lib.hid (show redV x y = (Int.tdiv x (Int.gcd x y), y.tdiv (Int.gcd x y)) from if_pos h)
  have HD := Lib.hid (fun w => divisor_any x y w h)
  have hg := gcd_pos (x := x) (y := y) (Or.inl hz)
  obtain ⟨t1, t2⟩ := tdiv_bd (g := (Int.gcd x y : Int)) h.a h.b
  obtain ⟨t3, t4⟩ := tdiv_bd (g := (Int.gcd x y : Int)) h.c h.d
  generalize Int.gcd x y = g at *
  have hg1 : (0 : Int) < g := by omega
  have hg2 : ¬ (g : Int) = 0 := by omega
  go_enter Try.func24, Try.ntmps24
  go_wp2_with fail
  refine (vsmall_t _ _ _ h).mono ?_
  rintro e w1 ⟨rfl, hw1⟩
  have V1 := blk_prev hw1
  have R1 := blk_last2 hw1
  have q1 := in2 hw1
  obtain ⟨a0, a1⟩ := Blk2 V1
  clear hw1
  go_wp2_with fail
  refine (HD.out _).mono ?_
  rintro e w2 ⟨rfl, hw2⟩
  have V2 := V1.kept hw2
  have R2 := R1.kept hw2
  have q2 := next q1 hw2
  clear hw2 V1 R1 q1 a0 a1
  obtain ⟨a0, a1⟩ := Blk2 V2
  obtain ⟨r0, r1⟩ := Blk2 R2
  obtain ⟨f0, f1⟩ := Blk2f R2
  go_wp2_with fail
  go_region
  go_wp2_with fail
  refine bodyPost_ret (blk_res rfl _ rfl (blk_set2 R2).drew Try.underlying23 rfl (by rfl)) rfl ⟨by rw [E.out], PB.below_drewN ((q2.setCell (by dsimp only; omega) _).setCell (by dsimp only; omega) _) 1⟩
set_option maxHeartbeats 1000000 in
theorem vred_ty (y : Int) (w : World) (h : Sm 0 y) (hz : y ≠ 0) : Calls Try.prog 24 #[vec 0 y] w fun e w' => e = .returned (vec (redV 0 y).1 (redV 0 y).2) ∧ Below w.heap.size w w' := by
  have E := Lib.hid (show redV 0 y = (Int.tdiv 0 (Int.gcd 0 y), y.tdiv (Int.gcd 0 y)) from if_pos h)
  have HD := Lib.hid (fun w => divisor_any 0 y w h)
  have hg := gcd_pos (x := 0) (y := y) (Or.inr hz)
  obtain ⟨t1, t2⟩ := tdiv_bd (g := (Int.gcd 0 y : Int)) h.a h.b
  obtain ⟨t3, t4⟩ := tdiv_bd (g := (Int.gcd 0 y : Int)) h.c h.d
  generalize Int.gcd 0 y = g at *
  have hg1 : (0 : Int) < g := by omega
  have hg2 : ¬ (g : Int) = 0 := by omega
  go_enter Try.func24, Try.ntmps24
  go_wp2_with fail
  refine (vsmall_t _ _ _ h).mono ?_
  rintro e w1 ⟨rfl, hw1⟩
  have V1 := blk_prev hw1
  have R1 := blk_last2 hw1
  have q1 := in2 hw1
  obtain ⟨a0, a1⟩ := Blk2 V1
  clear hw1
  go_wp2_with fail
  refine (HD.out _).mono ?_
  rintro e w2 ⟨rfl, hw2⟩
  have V2 := V1.kept hw2
  have R2 := R1.kept hw2
  have q2 := next q1 hw2
  clear hw2 V1 R1 q1 a0 a1
  obtain ⟨a0, a1⟩ := Blk2 V2
  obtain ⟨r0, r1⟩ := Blk2 R2
  obtain ⟨f0, f1⟩ := Blk2f R2
  go_wp2_with fail
  go_region
  go_wp2_with fail
  refine bodyPost_ret (blk_res rfl _ rfl (blk_set2 R2).drew Try.underlying23 rfl (by rfl)) rfl ⟨by rw [E.out, Int.zero_tdiv], PB.below_drewN ((q2.setCell (by dsimp only; omega) _).setCell (by dsimp only; omega) _) 1⟩
theorem vred_any (x y : Int) (w : World) : Calls Try.prog 24 #[vec x y] w fun e w' => e = .returned (vec (redV x y).1 (redV x y).2) ∧ Below w.heap.size w w' := by
  by_cases h : Sm x y
  · by_cases hx : x = 0
    · subst hx
      by_cases hy : y = 0
      · subst hy; exact vred_zero w h
      · exact vred_ty y w h hy
    · exact vred_tx x y w h hx
  · exact vred_f x y w h
end Go.Proofs.Ytejodcpigfbnpaa

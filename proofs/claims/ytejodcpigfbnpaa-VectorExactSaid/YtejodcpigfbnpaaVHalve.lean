/-
  Halve of both sides.
-/
import Derived.Test.YtejodcpigfbnpaaVRef
import Derived.Deep.DeepCutAuto
import Derived.RegionTactic
import Derived.ChangeAlike
namespace VB
open Go Go.RowKit PB
/-- A component is too great. -/
def Gt (x y : Int) : Prop := 2097152 < x ∨ 2097152 < -x ∨ 2097152 < y ∨ 2097152 < -y
instance (x y : Int) : Decidable (Gt x y) := by unfold Gt; exact inferInstance
inductive Hv : Int → Int → Int → Int → Prop
  | done {x y : Int} : ¬ Gt x y → Hv x y x y
  | step {x y rx ry : Int} : Gt x y → Hv (x.tdiv 2) (y.tdiv 2) rx ry → Hv x y rx ry
theorem half_abs (x : Int) : (x.tdiv 2).natAbs = x.natAbs / 2 := Int.natAbs_tdiv ..
theorem hv_exists : ∀ (n : Nat) (x y : Int), x.natAbs + y.natAbs ≤ n → ∃ rx ry, Hv x y rx ry
  | 0, x, y, h => ⟨x, y, .done (by unfold Gt; omega)⟩
  | n + 1, x, y, h => by
    by_cases hg : Gt x y
    · have h1 := half_abs x
      have h2 := half_abs y
      obtain ⟨rx, ry, hr⟩ := hv_exists n (x.tdiv 2) (y.tdiv 2) (by unfold Gt at hg; omega)
      exact ⟨rx, ry, .step hg hr⟩
    · exact ⟨x, y, .done hg⟩
theorem hv_done {x y rx ry : Int} (h : Hv x y rx ry) (hg : ¬ Gt x y) : rx = x ∧ ry = y := by
  cases h with
  | done _ => exact ⟨rfl, rfl⟩
  | step k _ => exact absurd k hg
theorem hv_step {x y rx ry : Int} (h : Hv x y rx ry) (hg : Gt x y) : Hv (x.tdiv 2) (y.tdiv 2) rx ry := by
  cases h with
  | done k => exact absurd hg k
  | step _ k => exact k
theorem half_sm2 {x y : Int} (h : Sm x y) : Sm (x.tdiv 2) (y.tdiv 2) := by
  have h1 := half_abs x
  have h2 := half_abs y
  obtain ⟨a, b, c, d⟩ := h
  exact ⟨by omega, by omega, by omega, by omega⟩
/-- How great the vector of a block is. -/
def meas (w : World) (g : Nat) : Nat := match w.cell? ⟨g, 0, none⟩, w.cell? ⟨g, 1, none⟩ with
  | some (.int _ a), some (.int _ b) => a.natAbs + b.natAbs
  | _, _ => 0
theorem meas_of {w : World} {g : Nat} {a b : Int} (h : Blk w g #[.int .i64 a, .int .i64 b]) : meas w g = a.natAbs + b.natAbs := by
  unfold meas
  rw [(Blk2 h).1, (Blk2 h).2]
/-- The greatest of four. -/
def mx4 (x y z u : Int) : Int := if u > (if z > (if y > x then y else x) then z else (if y > x then y else x)) then u else (if z > (if y > x then y else x) then z else (if y > x then y else x))
theorem mx4_gt {a b : Int} : 2097152 < mx4 a (-a) b (-b) ↔ Gt a b := by
  unfold mx4 Gt
  split <;> split <;> split <;> omega
end VB
namespace Go.Proofs.Ytejodcpigfbnpaa
open Go.RowKit PB VB
theorem run_max4 (ts : Array TypeId) (t : TypeId) (x y z u : Int) (w : World) : (Builtin.max_ ts t #[.int .i64 x, .int .i64 y, .int .i64 z, .int .i64 u]).run Try.prog w = .ok (.int .i64 (mx4 x y z u)) w := by
  unfold mx4
  simp [Builtin.max_, Builtin.max2]
theorem vhalve_f (x y : Int) (w : World) (h : ¬ Sm x y) : Calls Try.prog 26 #[vec x y] w fun e w' => e = .returned (vec 0 0) ∧ Below w.heap.size w w' := by
  go_enter Try.func26, Try.ntmps26
  go_wp2_with fail
  refine (vsmall_f _ _ _ h).mono ?_
  rintro e w1 ⟨rfl, hw1⟩
  have V1 := blk_prev hw1
  have R1 := blk_last2 hw1
  have q1 := in2 hw1
  obtain ⟨a0, a1⟩ := Blk2 V1
  obtain ⟨r0, r1⟩ := Blk2 R1
  obtain ⟨f0, f1⟩ := Blk2f R1
  clear hw1
  go_wp2_with fail
  refine bodyPost_ret (blk_res rfl _ rfl (blk_set2 R1) Try.underlying23 rfl (by rfl)) rfl ⟨rfl, (q1.setCell (by dsimp only; omega) _).setCell (by dsimp only; omega) _⟩
set_option maxHeartbeats 4000000 in
theorem vhalve_t (x y rx ry : Int) (w : World) (h : Sm x y) (hh : Hv x y rx ry) : Calls Try.prog 26 #[vec x y] w fun e w' => e = .returned (vec rx ry) ∧ Below w.heap.size w w' := by
  have HH := Lib.hid hh
  have HS := Lib.hid h
  clear hh
  go_enter Try.func26, Try.ntmps26
  go_wp2_with fail
  refine (vsmall_t _ _ _ h).mono ?_
  rintro e w1 ⟨rfl, hw1⟩
  have V1 := Lib.hid (blk_prev hw1)
  have R1 := Lib.hid (blk_last2 hw1)
  have q1 := Lib.hid (in2 hw1)
  clear hw1
  go_wp2_with fail
  go_loopw [] (fun wr => Hid (∃ a b : Int, Sm a b ∧ Hv a b rx ry ∧ Blk wr w.heap.size #[.int .i64 a, .int .i64 b] ∧ Blk wr (w.heap.size + 1) #[.int .i64 0, .int .i64 0] ∧ Below w.heap.size w wr)) (fun wr => meas wr w.heap.size)
  case atStart => exact Lib.hid ⟨x, y, HS.out, HH.out, V1.out, R1.out, q1.out⟩
  case round =>
    obtain ⟨a, b, hs, hv, hB, hR, hq⟩ := hrel.out
    obtain ⟨a0, a1⟩ := Blk2 hB
    obtain ⟨f0, f1⟩ := Blk2f hB
    have k1 := hs.a; have k2 := hs.b; have k3 := hs.c; have k4 := hs.d
    have HME := Lib.hid (meas_of hB)
    have HSM := Lib.hid hs; have HVV := Lib.hid hv; have HBB := Lib.hid hB; have HRR := Lib.hid hR; have HQQ := Lib.hid hq
    clear hrel hs hv hB hR hq
    have hm1 : Hid (Gt a b → (a.tdiv 2).natAbs + (b.tdiv 2).natAbs < a.natAbs + b.natAbs) := Lib.hid (fun g => by have := half_abs a; have := half_abs b; unfold Gt at g; omega)
    have hmax := run_max4
    by_cases hg : Gt a b
    · have HG := Lib.hid hg
      have ht : decide (2097152 < mx4 a (-a) b (-b)) = true := decide_eq_true (mx4_gt.2 hg)
      clear hg
      go_wp2_with fail
      go_roundw
      case rel => exact Lib.hid ⟨a.tdiv 2, b.tdiv 2, half_sm2 HSM.out, hv_step HVV.out HG.out, blk_set2 HBB.out, blk_oth2 HRR.out (by omega), (HQQ.out.setCell (by dsimp only; omega) _).setCell (by dsimp only; omega) _⟩
      case measure => rw [HME.out, meas_of (blk_set2 HBB.out)]; exact hm1.out HG.out
    · have HG := Lib.hid hg
      have ht : decide (2097152 < mx4 a (-a) b (-b)) = false := decide_eq_false (fun k => hg (mx4_gt.1 k))
      clear hg
      obtain ⟨r0, r1⟩ := Blk2 HRR.out
      obtain ⟨e0, e1⟩ := Blk2f HRR.out
      go_wp2_with fail
      refine bodyPost_ret (blk_res rfl _ rfl (blk_set2 HRR.out) Try.underlying23 rfl (by rfl)) rfl ⟨by rw [(hv_done HVV.out HG.out).1, (hv_done HVV.out HG.out).2], (HQQ.out.setCell (by dsimp only; omega) _).setCell (by dsimp only; omega) _⟩
theorem rhalve_f (x y : Int) (w : World) (h : ¬ Sm x y) : Calls Try.prog 27 #[vec x y] w fun e w' => e = .returned (vec 0 0) ∧ Below w.heap.size w w' := by
  go_enter Try.func27, Try.ntmps27
  go_wp2_with fail
  refine (rsmall_f _ _ _ h).mono ?_
  rintro e w1 ⟨rfl, hw1⟩
  have V1 := blk_prev hw1
  have R1 := blk_last2 hw1
  have q1 := in2 hw1
  obtain ⟨a0, a1⟩ := Blk2 V1
  obtain ⟨r0, r1⟩ := Blk2 R1
  obtain ⟨f0, f1⟩ := Blk2f R1
  clear hw1
  go_wp2_with fail
  refine bodyPost_ret (blk_res rfl _ rfl (blk_set2 R1) Try.underlying23 rfl (by rfl)) rfl ⟨rfl, (q1.setCell (by dsimp only; omega) _).setCell (by dsimp only; omega) _⟩
set_option maxHeartbeats 4000000 in
theorem rhalve_t (x y rx ry : Int) (w : World) (h : Sm x y) (hh : Hv x y rx ry) : Calls Try.prog 27 #[vec x y] w fun e w' => e = .returned (vec rx ry) ∧ Below w.heap.size w w' := by
  have HH := Lib.hid hh
  have HS := Lib.hid h
  clear hh
  go_enter Try.func27, Try.ntmps27
  go_wp2_with fail
  refine (rsmall_t _ _ _ h).mono ?_
  rintro e w1 ⟨rfl, hw1⟩
  have V1 := Lib.hid (blk_prev hw1)
  have R1 := Lib.hid (blk_last2 hw1)
  have q1 := Lib.hid (in2 hw1)
  clear hw1
  go_wp2_with fail
  go_loopw [] (fun wr => Hid (∃ a b : Int, Sm a b ∧ Hv a b rx ry ∧ Blk wr w.heap.size #[.int .i64 a, .int .i64 b] ∧ Blk wr (w.heap.size + 1) #[.int .i64 0, .int .i64 0] ∧ Below w.heap.size w wr)) (fun wr => meas wr w.heap.size)
  case atStart => exact Lib.hid ⟨x, y, HS.out, HH.out, V1.out, R1.out, q1.out⟩
  case round =>
    obtain ⟨a, b, hs, hv, hB, hR, hq⟩ := hrel.out
    obtain ⟨a0, a1⟩ := Blk2 hB
    obtain ⟨f0, f1⟩ := Blk2f hB
    have k1 := hs.a; have k2 := hs.b; have k3 := hs.c; have k4 := hs.d
    have HME := Lib.hid (meas_of hB)
    have HSM := Lib.hid hs; have HVV := Lib.hid hv; have HBB := Lib.hid hB; have HRR := Lib.hid hR; have HQQ := Lib.hid hq
    clear hrel hs hv hB hR hq
    have hm1 : Hid (Gt a b → (a.tdiv 2).natAbs + (b.tdiv 2).natAbs < a.natAbs + b.natAbs) := Lib.hid (fun g => by have := half_abs a; have := half_abs b; unfold Gt at g; omega)
    by_cases hg : Gt a b
    · have HG := Lib.hid hg
      go_upto_region 3 with fail
      go_cut [22] from 7 to 22 (fun s22 wx => s22 = .bool true ∧ wx = wr)
      case first =>
        by_cases p1 : 2097152 < a
        · go_wp2_with fail
          all_goals (go_meet; exact ⟨rfl, rfl⟩)
        · by_cases p2 : 2097152 < -a
          · go_wp2_with fail
            all_goals (go_meet; exact ⟨rfl, rfl⟩)
          · by_cases p3 : 2097152 < b
            · go_wp2_with fail
              all_goals (go_meet; exact ⟨rfl, rfl⟩)
            · have p4 : 2097152 < -b := by unfold Gt at hg; omega
              go_wp2_with fail
              all_goals (go_meet; exact ⟨rfl, rfl⟩)
      case rest =>
      obtain ⟨rfl, rfl⟩ := hcut
      clear hg
      go_wp2_with fail
      go_roundw
      case rel => exact Lib.hid ⟨a.tdiv 2, b.tdiv 2, half_sm2 HSM.out, hv_step HVV.out HG.out, blk_set2 HBB.out, blk_oth2 HRR.out (by omega), (HQQ.out.setCell (by dsimp only; omega) _).setCell (by dsimp only; omega) _⟩
      case measure => rw [HME.out, meas_of (blk_set2 HBB.out)]; exact hm1.out HG.out
    · have HG := Lib.hid hg
      have g1 : a ≤ 2097152 := by unfold Gt at hg; omega
      have g2 : -a ≤ 2097152 := by unfold Gt at hg; omega
      have g3 : b ≤ 2097152 := by unfold Gt at hg; omega
      have g4 : -b ≤ 2097152 := by unfold Gt at hg; omega
      clear hg
      obtain ⟨r0, r1⟩ := Blk2 HRR.out
      obtain ⟨e0, e1⟩ := Blk2f HRR.out
      go_wp2_with fail
      all_goals refine bodyPost_ret (blk_res rfl _ rfl (blk_set2 HRR.out) Try.underlying23 rfl (by rfl)) rfl ⟨by rw [(hv_done HVV.out HG.out).1, (hv_done HVV.out HG.out).2], (HQQ.out.setCell (by dsimp only; omega) _).setCell (by dsimp only; omega) _⟩
end Go.Proofs.Ytejodcpigfbnpaa

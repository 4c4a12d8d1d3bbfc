/-
  The walk of IntegerShifts where an input is not taken (written by wip/genshift.py).
-/
import Derived.Test.YteggfjahjanabaaShiftZ
namespace Go.Proofs.Yteggfjahjanabaa
open Go.RowKit PB

set_option maxHeartbeats 3200000 in
set_option maxRecDepth 100000 in
theorem shf_a (sa : Bool) (qa : Option Addr) (na ca : Nat) (k l : Int) (w : World) (la : ¬ na ≤ 40) :
    Calls Try.prog 7 #[.agg #[.bool sa, .slice qa na ca], .int .i64 k, .int .i64 l] w fun e w' => e = .returned (.bool true) ∧ Below w.heap.size w w' := by
  go_enter Try.func7, Try.ntmps7
  go_wp2_with fail
  generalize hW : World.alloc _ _ = W
  obtain ⟨N, hN⟩ : ∃ N, w.heap.size = N := ⟨_, rfl⟩
  have HB0 : Hid (Below w.heap.size w W) := Lib.hid (by rw [← hW]; exact below_one (Below.refl _ _) (Nat.le_refl _) _)
  have BL0 : Blk W w.heap.size #[.bool sa, .slice qa na ca] := by rw [← hW]; exact blk_new rfl
  rw [hN]
  have HBL := Lib.hid (show Blk W N #[.bool sa, .slice qa na ca] from hN ▸ BL0)
  clear hW BL0
  refine (awake_any W).mono ?_
  rintro e u0 ⟨rfl, hb1⟩
  have HB1 : Hid (Below w.heap.size w u0) := Lib.hid (HB0.out.trans (hb1.mono HB0.out.size))
  obtain ⟨a0, a1⟩ := Blk2 (HBL.out.kept hb1)
  clear hb1 HB0 HBL
  have F1 := Lib.hid (fun W => few_any sa qa na ca W)
  rw [decide_eq_false la] at F1
  clear la
  go_wp2_with fail
  refine (F1.out u0).mono ?_
  rintro e u1 ⟨rfl, hx⟩
  have HB := Lib.hid (HB1.out.trans (hx.mono HB1.out.size))
  clear hx HB1 F1 a0 a1
  go_wp2_with fail
  refine (awake_any u1).mono ?_
  rintro e u9 ⟨rfl, hx⟩
  have HB2 : Below w.heap.size w u9 := HB.out.trans (hx.mono HB.out.size)
  clear hx HB
  go_wp2_with fail
  go_ret
  exact ⟨rfl, HB2⟩

set_option maxHeartbeats 3200000 in
set_option maxRecDepth 100000 in
theorem shf_b (sa : Bool) (qa : Option Addr) (na ca : Nat) (k l : Int) (w : World) (la : na ≤ 40) (l1 : k < 0) :
    Calls Try.prog 7 #[.agg #[.bool sa, .slice qa na ca], .int .i64 k, .int .i64 l] w fun e w' => e = .returned (.bool true) ∧ Below w.heap.size w w' := by
  have i0 : decide (k < 0) = true := decide_eq_true (by omega)
  clear l1
  go_enter Try.func7, Try.ntmps7
  go_wp2_with fail
  generalize hW : World.alloc _ _ = W
  obtain ⟨N, hN⟩ : ∃ N, w.heap.size = N := ⟨_, rfl⟩
  have HB0 : Hid (Below w.heap.size w W) := Lib.hid (by rw [← hW]; exact below_one (Below.refl _ _) (Nat.le_refl _) _)
  have BL0 : Blk W w.heap.size #[.bool sa, .slice qa na ca] := by rw [← hW]; exact blk_new rfl
  rw [hN]
  have HBL := Lib.hid (show Blk W N #[.bool sa, .slice qa na ca] from hN ▸ BL0)
  clear hW BL0
  refine (awake_any W).mono ?_
  rintro e u0 ⟨rfl, hb1⟩
  have HB1 : Hid (Below w.heap.size w u0) := Lib.hid (HB0.out.trans (hb1.mono HB0.out.size))
  obtain ⟨a0, a1⟩ := Blk2 (HBL.out.kept hb1)
  clear hb1 HB0 HBL
  have F1 := Lib.hid (fun W => few_any sa qa na ca W)
  rw [decide_eq_true la] at F1
  clear la
  go_wp2_with fail
  refine (F1.out u0).mono ?_
  rintro e u1 ⟨rfl, hx⟩
  have HB := Lib.hid (HB1.out.trans (hx.mono HB1.out.size))
  clear hx HB1 F1 a0 a1
  go_wp2_with fail
  refine (awake_any u1).mono ?_
  rintro e u9 ⟨rfl, hx⟩
  have HB2 : Below w.heap.size w u9 := HB.out.trans (hx.mono HB.out.size)
  clear hx HB
  go_wp2_with fail
  go_ret
  exact ⟨rfl, HB2⟩

set_option maxHeartbeats 3200000 in
set_option maxRecDepth 100000 in
theorem shf_c (sa : Bool) (qa : Option Addr) (na ca : Nat) (k l : Int) (w : World) (la : na ≤ 40) (l1 : 600 < k) :
    Calls Try.prog 7 #[.agg #[.bool sa, .slice qa na ca], .int .i64 k, .int .i64 l] w fun e w' => e = .returned (.bool true) ∧ Below w.heap.size w w' := by
  have i0 : decide (k < 0) = false := decide_eq_false (by omega)
  have i1 : decide (600 < k) = true := decide_eq_true (by omega)
  clear l1
  go_enter Try.func7, Try.ntmps7
  go_wp2_with fail
  generalize hW : World.alloc _ _ = W
  obtain ⟨N, hN⟩ : ∃ N, w.heap.size = N := ⟨_, rfl⟩
  have HB0 : Hid (Below w.heap.size w W) := Lib.hid (by rw [← hW]; exact below_one (Below.refl _ _) (Nat.le_refl _) _)
  have BL0 : Blk W w.heap.size #[.bool sa, .slice qa na ca] := by rw [← hW]; exact blk_new rfl
  rw [hN]
  have HBL := Lib.hid (show Blk W N #[.bool sa, .slice qa na ca] from hN ▸ BL0)
  clear hW BL0
  refine (awake_any W).mono ?_
  rintro e u0 ⟨rfl, hb1⟩
  have HB1 : Hid (Below w.heap.size w u0) := Lib.hid (HB0.out.trans (hb1.mono HB0.out.size))
  obtain ⟨a0, a1⟩ := Blk2 (HBL.out.kept hb1)
  clear hb1 HB0 HBL
  have F1 := Lib.hid (fun W => few_any sa qa na ca W)
  rw [decide_eq_true la] at F1
  clear la
  go_wp2_with fail
  refine (F1.out u0).mono ?_
  rintro e u1 ⟨rfl, hx⟩
  have HB := Lib.hid (HB1.out.trans (hx.mono HB1.out.size))
  clear hx HB1 F1 a0 a1
  go_wp2_with fail
  refine (awake_any u1).mono ?_
  rintro e u9 ⟨rfl, hx⟩
  have HB2 : Below w.heap.size w u9 := HB.out.trans (hx.mono HB.out.size)
  clear hx HB
  go_wp2_with fail
  go_ret
  exact ⟨rfl, HB2⟩

set_option maxHeartbeats 3200000 in
set_option maxRecDepth 100000 in
theorem shf_d (sa : Bool) (qa : Option Addr) (na ca : Nat) (k l : Int) (w : World) (la : na ≤ 40) (l0 : 0 ≤ k) (l1 : k ≤ 600) (l2 : l < 0) :
    Calls Try.prog 7 #[.agg #[.bool sa, .slice qa na ca], .int .i64 k, .int .i64 l] w fun e w' => e = .returned (.bool true) ∧ Below w.heap.size w w' := by
  have i0 : decide (k < 0) = false := decide_eq_false (by omega)
  have i1 : decide (600 < k) = false := decide_eq_false (by omega)
  have i2 : decide (l < 0) = true := decide_eq_true (by omega)
  clear l0 l1 l2
  go_enter Try.func7, Try.ntmps7
  go_wp2_with fail
  generalize hW : World.alloc _ _ = W
  obtain ⟨N, hN⟩ : ∃ N, w.heap.size = N := ⟨_, rfl⟩
  have HB0 : Hid (Below w.heap.size w W) := Lib.hid (by rw [← hW]; exact below_one (Below.refl _ _) (Nat.le_refl _) _)
  have BL0 : Blk W w.heap.size #[.bool sa, .slice qa na ca] := by rw [← hW]; exact blk_new rfl
  rw [hN]
  have HBL := Lib.hid (show Blk W N #[.bool sa, .slice qa na ca] from hN ▸ BL0)
  clear hW BL0
  refine (awake_any W).mono ?_
  rintro e u0 ⟨rfl, hb1⟩
  have HB1 : Hid (Below w.heap.size w u0) := Lib.hid (HB0.out.trans (hb1.mono HB0.out.size))
  obtain ⟨a0, a1⟩ := Blk2 (HBL.out.kept hb1)
  clear hb1 HB0 HBL
  have F1 := Lib.hid (fun W => few_any sa qa na ca W)
  rw [decide_eq_true la] at F1
  clear la
  go_wp2_with fail
  refine (F1.out u0).mono ?_
  rintro e u1 ⟨rfl, hx⟩
  have HB := Lib.hid (HB1.out.trans (hx.mono HB1.out.size))
  clear hx HB1 F1 a0 a1
  go_wp2_with fail
  refine (awake_any u1).mono ?_
  rintro e u9 ⟨rfl, hx⟩
  have HB2 : Below w.heap.size w u9 := HB.out.trans (hx.mono HB.out.size)
  clear hx HB
  go_wp2_with fail
  go_ret
  exact ⟨rfl, HB2⟩

set_option maxHeartbeats 3200000 in
set_option maxRecDepth 100000 in
theorem shf_e (sa : Bool) (qa : Option Addr) (na ca : Nat) (k l : Int) (w : World) (la : na ≤ 40) (l0 : 0 ≤ k) (l1 : k ≤ 600) (l2 : 600 < l) :
    Calls Try.prog 7 #[.agg #[.bool sa, .slice qa na ca], .int .i64 k, .int .i64 l] w fun e w' => e = .returned (.bool true) ∧ Below w.heap.size w w' := by
  have i0 : decide (k < 0) = false := decide_eq_false (by omega)
  have i1 : decide (600 < k) = false := decide_eq_false (by omega)
  have i2 : decide (l < 0) = false := decide_eq_false (by omega)
  have i3 : decide (600 < l) = true := decide_eq_true (by omega)
  clear l0 l1 l2
  go_enter Try.func7, Try.ntmps7
  go_wp2_with fail
  generalize hW : World.alloc _ _ = W
  obtain ⟨N, hN⟩ : ∃ N, w.heap.size = N := ⟨_, rfl⟩
  have HB0 : Hid (Below w.heap.size w W) := Lib.hid (by rw [← hW]; exact below_one (Below.refl _ _) (Nat.le_refl _) _)
  have BL0 : Blk W w.heap.size #[.bool sa, .slice qa na ca] := by rw [← hW]; exact blk_new rfl
  rw [hN]
  have HBL := Lib.hid (show Blk W N #[.bool sa, .slice qa na ca] from hN ▸ BL0)
  clear hW BL0
  refine (awake_any W).mono ?_
  rintro e u0 ⟨rfl, hb1⟩
  have HB1 : Hid (Below w.heap.size w u0) := Lib.hid (HB0.out.trans (hb1.mono HB0.out.size))
  obtain ⟨a0, a1⟩ := Blk2 (HBL.out.kept hb1)
  clear hb1 HB0 HBL
  have F1 := Lib.hid (fun W => few_any sa qa na ca W)
  rw [decide_eq_true la] at F1
  clear la
  go_wp2_with fail
  refine (F1.out u0).mono ?_
  rintro e u1 ⟨rfl, hx⟩
  have HB := Lib.hid (HB1.out.trans (hx.mono HB1.out.size))
  clear hx HB1 F1 a0 a1
  go_wp2_with fail
  refine (awake_any u1).mono ?_
  rintro e u9 ⟨rfl, hx⟩
  have HB2 : Below w.heap.size w u9 := HB.out.trans (hx.mono HB.out.size)
  clear hx HB
  go_wp2_with fail
  go_ret
  exact ⟨rfl, HB2⟩
end Go.Proofs.Yteggfjahjanabaa

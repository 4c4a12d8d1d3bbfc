/-
  integer.Shift of 0 and of a large number; on small numbers.
-/
import Derived.Test.YteggfjahjanabaaShiftU
import Derived.Test.YteggfjahjanabaaLawA
namespace PB
open Go Go.RowKit
theorem sm_shift {j m k : Nat} {z : Int} (h : sm j z) (hk : k ≤ 32 * m) : sm (j+m) (z * 2^k) := by
  unfold sm at *
  have e : (z * 2^k).natAbs = z.natAbs * 2^k := by
    rw [Int.natAbs_mul, Int.natAbs_pow]; rfl
  rw [e, pow_add]
  have h1 : 2^k ≤ B^m := by
    have e2 : B = 2^32 := rfl
    rw [e2, ← Nat.pow_mul]
    exact Nat.pow_le_pow_right (by decide) hk
  exact Nat.lt_of_lt_of_le (Nat.mul_lt_mul_of_pos_right h (Nat.pow_pos (by decide))) (Nat.mul_le_mul_left _ h1)
end PB
namespace Go.Proofs.Yteggfjahjanabaa
open Go.RowKit PB

set_option maxHeartbeats 1600000 in
set_option maxRecDepth 100000 in
theorem shift_zero (s : Bool) (base : Option Addr) (b off n c : Nat) (k : Int) (w : World) (hb : n ≠ 0 → base = some ⟨b, off, none⟩) (hX : Num w b off n 0) (hn : n ≤ c) (hl : n ≤ 1000000000) :
    Calls Try.prog 17 #[.agg #[.bool s, .slice base n c], .int .i64 k] w (RetIntE w 0 0) := by
  have hs : ¬ 256 < nl 0 := by rw [nl_zero]; omega
  have HB := Lib.hid hb
  clear hb
  go_enter Try.func17, Try.ntmps17
  go_wp2_with fail
  generalize hW : World.alloc _ _ = W
  have B0 : Blk W w.heap.size #[.bool s, .slice base n c] := by rw [← hW]; exact (blk_new rfl).alloc _
  have B1 : Blk W (w.heap.size + 1) #[.bool false, .slice none 0 0] := by rw [← hW]; exact blk_new (by simp)
  have hbW : Below w.heap.size w W := by rw [← hW]; exact ((Below.refl _ _).alloc (Nat.le_refl _) _).alloc (by simp) _
  have HS := Lib.hid (show W.heap.size = w.heap.size + 2 by rw [← hW]; simp)
  clear hW
  obtain ⟨a0, a1⟩ := Blk2 B0
  have hXW := hX.kept hbW
  have cut0 := cut_any base b off n c 0 W HB.out hXW hn (by omega)
  rw [nl_zero] at cut0
  go_wp2_with (go_at_call 51; refine cut0.mono ?_; rintro e w' ⟨rfl, rfl⟩)
  generalize hV : World.alloc _ _ = V
  have hbV : Below W.heap.size W V := by rw [← hV]; exact (Below.refl _ _).alloc (Nat.le_refl _) _
  have B2 : Blk V W.heap.size #[.bool s, .slice base n c] := by rw [← hV]; exact blk_new rfl
  clear hV cut0
  have call := large_one W.heap.size s base b off n c 0 V (B2.cell 0 _ rfl) (B2.cell 1 _ rfl) HB.out (hXW.kept hbV) hn (by omega)
  rw [decide_eq_false hs] at call
  refine call.mono ?_
  clear call
  rintro e w1 ⟨rfl, hb1⟩
  have hbw1 : Below w.heap.size w w1 := hbW.trans ((hbV.trans (hb1.mono hbV.size)).mono (by have := HS.out; omega))
  obtain ⟨c0, c1⟩ := Blk2 ((B1.kept hbV).kept hb1)
  obtain ⟨f0, f1⟩ := Blk2f ((B1.kept hbV).kept hb1)
  clear B0 B1 B2 hb1 hbV hbW hXW a0 a1
  go_wp2_with fail
  refine bodyPost_ret (v := .tuple #[.agg #[.bool false, .slice none 0 0], .int .i64 0]) (by simp [results, Try.results17, go_sem, c0, c1]) rfl ⟨_, rfl, can_zero _ _, ?_⟩
  exact (hbw1.setCell (by show w.heap.size ≤ w.heap.size + 1; omega) _).setCell (by show w.heap.size ≤ w.heap.size + 1; omega) _

/-- Shift to the left of a small number. -/
theorem shift_up_sm {v : Value} {z : Int} {j m k : Nat} (w : World) (h : IsInt w v z) (hz : sm j z) (hk : k ≤ 32 * m) (hjm : j + m ≤ 256) (hk2 : k ≤ 8192) :
    Calls Try.prog 17 #[v, .int .i64 k] w (RetIntE w (z * 2^k) 0) := by
  obtain ⟨s, base, b, off, n, c, X, rfl, hb, hX, hn, hl, rfl⟩ := h
  have hs : ¬ 256 < nl X := by rw [← big_sg s]; exact not_big hz (by omega)
  have hs2 : ¬ 256 < nl (X * 2^k) := by rw [← big_sg s, sg_pow]; exact not_big (sm_shift hz hk) hjm
  by_cases h0 : X = 0
  · subst h0
    rw [show sg s 0 = 0 from sg_zero.2 rfl, Int.zero_mul]
    exact shift_zero s base b off n c k w hb hX hn hl
  · rw [← sg_pow]
    exact shift_up s base b off n c X k w hb hX hn hl hs h0 hk2 0 _ (Or.inr ⟨hs2, rfl, rfl⟩)
/-- Shift to the right of a small number. -/
theorem shift_down_sm {v : Value} {z : Int} {j k : Nat} (w : World) (h : IsInt w v z) (hz : sm j z) (hj : j ≤ 256) (hk2 : k ≤ 8192) :
    Calls Try.prog 17 #[v, .int .i64 (-(k : Int))] w (RetIntE w (z / (2^k : Nat)) 0) := by
  by_cases hk : k = 0
  · subst hk
    have := shift_up_sm (k := 0) (m := 0) w h hz (by omega) (by omega) (by omega)
    simpa using this
  · obtain ⟨s, base, b, off, n, c, X, rfl, hb, hX, hn, hl, rfl⟩ := h
    have hs : ¬ 256 < nl X := by rw [← big_sg s]; exact not_big hz hj
    by_cases h0 : X = 0
    · subst h0
      rw [show sg s 0 = 0 from sg_zero.2 rfl, Int.zero_ediv]
      exact shift_zero s base b off n c _ w hb hX hn hl
    · exact shift_down s base b off n c X k w hb hX hn hl hs h0 (by omega) hk2
end Go.Proofs.Yteggfjahjanabaa

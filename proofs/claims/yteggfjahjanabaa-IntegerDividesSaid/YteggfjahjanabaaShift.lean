/-
  integer.Shift.
-/
import Derived.Test.YteggfjahjanabaaLower
import Derived.Test.YteggfjahjanabaaAdd
namespace PB
theorem floor_sg (neg : Bool) (X s : Nat) : sg neg (X / 2^s + if neg && decide (X % 2^s ≠ 0) then 1 else 0) = (sg neg X) / (2^s : Nat) := by
  have hpos : (0 : Nat) < 2^s := Nat.pow_pos (by decide)
  have h := Nat.div_add_mod X (2^s)
  have hm := Nat.mod_lt X hpos
  generalize 2^s = P at *
  cases neg
  · simp only [Bool.false_and, Bool.false_eq_true, if_false, Nat.add_zero]
    show ((X / P : Nat) : Int) = (X : Int) / (P : Int)
    exact Int.natCast_ediv X P
  · show -(((X / P + if (true && decide (X % P ≠ 0)) = true then 1 else 0 : Nat) : Nat) : Int) = (-(X : Int)) / (P : Int)
    symm
    by_cases hz : X % P = 0
    · rw [if_neg (by simp [hz]), Nat.add_zero]
      apply Int.ediv_eq_of_eq_mul_left (by omega)
      have : X = X / P * P := by rw [Nat.mul_comm]; omega
      rw [Int.neg_mul, ← Int.natCast_mul, ← this]
    · rw [if_pos (by simp [hz])]
      have e : -(X : Int) = ((P : Int) - (X % P : Nat)) + P * (-((X / P + 1 : Nat) : Int)) := by
        have h2 : (X : Int) = (P : Int) * (X / P : Nat) + (X % P : Nat) := by
          have h3 : ((P * (X / P) + X % P : Nat) : Int) = X := by rw [h]
          rw [← h3]; simp
        rw [Int.natCast_add, Int.mul_neg, Int.mul_add]
        omega
      rw [e, Int.add_mul_ediv_left _ _ (by omega), Int.ediv_eq_zero_of_lt (by omega) (by omega), Int.zero_add]
end PB
namespace Go.Proofs.Yteggfjahjanabaa
open Go.RowKit PB

set_option maxHeartbeats 3200000 in
set_option maxRecDepth 100000 in
/-- Shift to the right, of a number that is not large and not 0. -/
theorem shift_down (s : Bool) (base : Option Addr) (b off n c X : Nat) (k : Nat) (w : World) (hb : n ≠ 0 → base = some ⟨b, off, none⟩) (hX : Num w b off n X) (hn : n ≤ c) (hl : n ≤ 1000000000)
    (hs : ¬ 256 < nl X) (h0 : X ≠ 0) (hk : 0 < k) (hk2 : k ≤ 8192) :
    Calls Try.prog 17 #[.agg #[.bool s, .slice base n c], .int .i64 (-(k : Int))] w (RetIntE w (sg s X / (2^k : Nat)) 0) := by
  have hnX := nl_le hX.lt
  have hz : ((nl X : Int) == 0) = false := by have := mt nl_eq_zero.1 h0; simp; omega
  have HB := Lib.hid hb
  rw [← floor_sg]
  have HH : ∃ v, v = sg s (X / 2^k + if s && decide (X % 2^k ≠ 0) then 1 else 0) := ⟨_, rfl⟩
  obtain ⟨z, hzz⟩ := HH
  have FL := Lib.hid (fun W (hw : Below w.heap.size w W) => floor_any s base b off X (nl X) k W (fun h => hb (by omega)) ((hX.fewer hnX (lt_nl X)).kept hw) (Nat.le_refl _) (by omega) (by omega))
  rw [← hzz] at FL ⊢
  clear hzz hb h0
  have i1 : ¬ (8192 < -(k : Int)) := by omega
  have i2 : ¬ (0 ≤ -(k : Int)) := by omega
  go_enter Try.func17, Try.ntmps17
  go_wp2_with fail
  generalize hW : World.alloc _ _ = W
  have B0 : Blk W w.heap.size #[.bool s, .slice base n c] := by rw [← hW]; exact (blk_new rfl).alloc _
  have B1 : Blk W (w.heap.size + 1) #[.bool false, .slice none 0 0] := by rw [← hW]; exact blk_new (by simp)
  have hbW : Below w.heap.size w W := by rw [← hW]; exact ((Below.refl _ _).alloc (Nat.le_refl _) _).alloc (by simp) _
  have HS := Lib.hid (show W.heap.size = w.heap.size + 2 by rw [← hW]; simp)
  clear hW
  obtain ⟨a0, a1⟩ := Blk2 B0
  have hXW := hX.kept hbW
  go_wp2_with (go_at_call 51; refine (cut_any base b off n c X _ HB.out (by exact hXW) hn (by omega)).mono ?_; rintro e w' ⟨rfl, rfl⟩)
  generalize hV : World.alloc _ _ = V
  have hbV : Below W.heap.size W V := by rw [← hV]; exact (Below.refl _ _).alloc (Nat.le_refl _) _
  have B2 : Blk V W.heap.size #[.bool s, .slice base n c] := by rw [← hV]; exact blk_new rfl
  clear hV
  have call := large_one W.heap.size s base b off n c X V (B2.cell 0 _ rfl) (B2.cell 1 _ rfl) HB.out (hXW.kept hbV) hn (by omega)
  rw [decide_eq_false hs] at call
  refine call.mono ?_
  clear call
  rintro e w1 ⟨rfl, hb1⟩
  have hbw1 : Below w.heap.size w w1 := hbW.trans ((hbV.trans (hb1.mono hbV.size)).mono (by have := HS.out; omega))
  obtain ⟨a0, a1⟩ := Blk2 ((B0.kept hbV).kept hb1)
  have B1' := (B1.kept hbV).kept hb1
  have HS' := Lib.hid (show w.heap.size + 2 ≤ w1.heap.size by have := HS.out; have := hbV.size; have := hb1.size; omega)
  clear B0 B1 B2 hb1 hbV hbW hXW
  go_wp2_with fail
  rw [show min (k : Int) 8192 = k by omega]
  refine (FL.out w1 hbw1).mono ?_
  rintro e w3 ⟨v, rfl, hcan, hb3⟩
  obtain ⟨r, q, g, o, Z, m, rfl, hq, hZ, hm, hml, hzz, hsz, hgN⟩ := hcan
  have hbw3 : Below w.heap.size w w3 := hbw1.trans (hb3.mono (by have := HS'.out; omega))
  obtain ⟨c0, c1⟩ := Blk2 (B1'.kept hb3)
  obtain ⟨f0, f1⟩ := Blk2f (B1'.kept hb3)
  have HZ := Lib.hid hzz
  clear hzz B1' a0 a1
  go_wp2_with fail
  have hsize := HS'.out
  refine bodyPost_ret (v := .tuple #[.agg #[.bool r, .slice q (nl Z) m], .int .i64 0]) (by simp [results, Try.results17, go_sem, c0, c1]) rfl ?_
  have hcan : IsCan w1.heap.size w3 (.agg #[.bool r, .slice q (nl Z) m]) z := ⟨r, q, g, o, Z, m, rfl, hq, hZ, hm, hml, HZ.out, hsz, hgN⟩
  exact ⟨_, rfl, ((hcan.set (by show w.heap.size + 1 < _; omega) _).set (by show w.heap.size + 1 < _; omega) _).mono (by omega), (hbw3.setCell (by show w.heap.size ≤ w.heap.size + 1; omega) _).setCell (by show w.heap.size ≤ w.heap.size + 1; omega) _⟩
end Go.Proofs.Yteggfjahjanabaa

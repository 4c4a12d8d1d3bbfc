/-
  Shift to the right by more than 8192 bits; Shift of the program and of the verifier at any number of at most 40 limbs.
-/
import Derived.Test.YtmfimkndonlheaaM19
import Derived.Test.YtmfimkndonlheaaM38
namespace PB
open Go Go.RowKit
/-- The number of a shift. -/
def shv (z k : Int) : Int := if 0 ≤ k then z * (2^k.toNat : Nat) else z / (2^(-k).toNat : Nat)
theorem deep_div {z : Int} {m k : Nat} (h : z.natAbs < 2^m) (hk : m ≤ k) : z / (2^k : Nat) = if z < 0 then -1 else 0 := by
  have h1 : z.natAbs < 2^k := Nat.lt_of_lt_of_le h (Nat.pow_le_pow_right (by decide) hk)
  generalize 2^k = b at h1
  by_cases hz : z < 0
  · rw [if_pos hz]
    exact ((Int.ediv_emod_unique (a := z) (b := (b : Int)) (r := z + b) (q := -1) (by omega)).2 ⟨by omega, by omega, by omega⟩).1
  · rw [if_neg hz]
    exact Int.ediv_eq_zero_of_lt (by omega) (by omega)
theorem deep_eq {z : Int} {m j k : Nat} (h : z.natAbs < 2^m) (hj : m ≤ j) (hk : m ≤ k) : z / (2^j : Nat) = z / (2^k : Nat) := by
  rw [deep_div h hj, deep_div h hk]
theorem sm_bits {j m : Nat} {z : Int} (h : sm j z) (hm : 32 * j ≤ m) : z.natAbs < 2^m := by
  unfold sm at h
  refine Nat.lt_of_lt_of_le h ?_
  have e2 : B = 2^32 := rfl
  rw [e2, ← Nat.pow_mul]
  exact Nat.pow_le_pow_right (by decide) hm
end PB
namespace Go.Proofs.Ytmfimkndonlheaa
open Go.RowKit PB

set_option maxHeartbeats 1600000 in
set_option maxRecDepth 100000 in
theorem shift_deep (s : Bool) (base : Option Addr) (b off n c X : Nat) (k : Int) (m : Nat) (hm : m = 8192) (w : World) (hb : n ≠ 0 → base = some ⟨b, off, none⟩) (hX : Num w b off n X) (hn : n ≤ c) (hl : n ≤ 1000000000)
    (hs : ¬ 256 < nl X) (h0 : X ≠ 0) (hk : k < -8192) :
    Calls Try.prog 17 #[.agg #[.bool s, .slice base n c], .int .i64 k] w (RetIntE w (sg s X / (2^m : Nat)) 0) := by
  have hnX := nl_le hX.lt
  have hz : ((nl X : Int) == 0) = false := by have := mt nl_eq_zero.1 h0; simp; omega
  have HB := Lib.hid hb
  rw [← floor_sg]
  have HH : ∃ v, v = sg s (X / 2^m + if s && decide (X % 2^m ≠ 0) then 1 else 0) := ⟨_, rfl⟩
  obtain ⟨z, hzz⟩ := HH
  have FL := Lib.hid (fun W (hw : Below w.heap.size w W) => floor_any s base b off X (nl X) m W (fun h => hb (by omega)) ((hX.fewer hnX (lt_nl X)).kept hw) (Nat.le_refl _) (by omega) (by omega))
  rw [← hzz] at FL ⊢
  rw [show ((m : Nat) : Int) = 8192 by omega] at FL
  clear hzz hb h0 hm
  have i1 : ¬ (8192 < k) := by omega
  have i2 : ¬ (0 ≤ k) := by omega
  go_enter Try.func17, Try.ntmps17
  go_wp2_with fail
  generalize hW : World.alloc _ _ = W
  have B0 : Blk W w.heap.size #[.bool s, .slice base n c] := by rw [← hW]; exact (blk_new rfl).alloc _
  have B1 : Blk W (w.heap.size + 1) #[.bool false, .slice none 0 0] := by rw [← hW]; exact blk_new (by simp)
  have hbW : Below w.heap.size w W := by rw [← hW]; exact ((Below.refl _ _).alloc (Nat.le_refl _) _).alloc (by simp) _
  have HS := Lib.hid (show W.heap.size = w.heap.size + 2 by rw [← hW]; simp)
  clear hW
  obtain ⟨a0, a1⟩ := Blk2 B0
  have hXW := hX.kept hbW
  go_wp2_with (go_at_call 51; refine (cut_any base b off n c X _ HB.out (by exact hXW) hn (by omega)).mono ?_; rintro e w' ⟨rfl, rfl⟩)
  generalize hV : World.alloc _ _ = V
  have hbV : Below W.heap.size W V := by rw [← hV]; exact (Below.refl _ _).alloc (Nat.le_refl _) _
  have B2 : Blk V W.heap.size #[.bool s, .slice base n c] := by rw [← hV]; exact blk_new rfl
  clear hV
  have call := large_one W.heap.size s base b off n c X V (B2.cell 0 _ rfl) (B2.cell 1 _ rfl) HB.out (hXW.kept hbV) hn (by omega)
  rw [decide_eq_false hs] at call
  refine call.mono ?_
  clear call
  rintro e w1 ⟨rfl, hb1⟩
  have hbw1 : Below w.heap.size w w1 := hbW.trans ((hbV.trans (hb1.mono hbV.size)).mono (by have := HS.out; omega))
  obtain ⟨a0, a1⟩ := Blk2 ((B0.kept hbV).kept hb1)
  have B1' := (B1.kept hbV).kept hb1
  have HS' := Lib.hid (show w.heap.size + 2 ≤ w1.heap.size by have := HS.out; have := hbV.size; have := hb1.size; omega)
  clear B0 B1 B2 hb1 hbV hbW hXW
  go_wp2_with fail
  try rw [show -(max k (-8192)) = 8192 by omega]
  refine (FL.out w1 hbw1).mono ?_
  rintro e w3 ⟨v, rfl, hcan, hb3⟩
  obtain ⟨r, q, g, o, Z, m, rfl, hq, hZ, hm, hml, hzz, hsz, hgN⟩ := hcan
  have hbw3 : Below w.heap.size w w3 := hbw1.trans (hb3.mono (by have := HS'.out; omega))
  obtain ⟨c0, c1⟩ := Blk2 (B1'.kept hb3)
  obtain ⟨f0, f1⟩ := Blk2f (B1'.kept hb3)
  have HZ := Lib.hid hzz
  clear hzz B1' a0 a1
  go_wp2_with fail
  have hsize := HS'.out
  refine bodyPost_ret (v := .tuple #[.agg #[.bool r, .slice q (nl Z) m], .int .i64 0]) (by simp [results, Try.results17, go_sem, c0, c1]) rfl ?_
  have hcan : IsCan w1.heap.size w3 (.agg #[.bool r, .slice q (nl Z) m]) z := ⟨r, q, g, o, Z, m, rfl, hq, hZ, hm, hml, HZ.out, hsz, hgN⟩
  exact ⟨_, rfl, ((hcan.set (by show w.heap.size + 1 < _; omega) _).set (by show w.heap.size + 1 < _; omega) _).mono (by omega), (hbw3.setCell (by show w.heap.size ≤ w.heap.size + 1; omega) _).setCell (by show w.heap.size ≤ w.heap.size + 1; omega) _⟩

theorem shv_zero (k : Int) : shv 0 k = 0 := by
  unfold shv
  by_cases h : 0 ≤ k
  · rw [if_pos h, Int.zero_mul]
  · rw [if_neg h, Int.zero_ediv]
/-- Shift of the program, at a number of at most 40 limbs. -/
theorem shift_int {v : Value} {z : Int} (k : Int) (w : World) (h : IsInt w v z) (hz : sm 40 z) (hk : k ≤ 4000) :
    Calls Try.prog 17 #[v, .int .i64 k] w (RetIntE w (shv z k) 0) := by
  by_cases h1 : 0 ≤ k
  · obtain ⟨j, rfl⟩ := Int.eq_ofNat_of_zero_le h1
    have := shift_up_sm (k := j) (m := 125) w h hz (by omega) (by omega) (by omega)
    unfold shv
    rw [if_pos h1, Int.toNat_natCast]
    simpa using this
  · by_cases h2 : -8192 ≤ k
    · obtain ⟨j, hj⟩ := Int.eq_ofNat_of_zero_le (show 0 ≤ -k by omega)
      obtain rfl : k = -(j : Int) := by omega
      have := shift_down_sm (k := j) w h hz (by omega) (by omega)
      unfold shv
      rw [if_neg h1, show (-(-(j : Int))).toNat = j by omega]
      exact this
    · by_cases h0 : z = 0
      · subst h0
        rw [shv_zero]
        obtain ⟨s, base, b, off, n, c, X, rfl, hb, hX, hn, hl, hzz⟩ := h
        obtain rfl : X = 0 := sg_zero.1 hzz.symm
        exact shift_zero s base b off n c k w hb hX hn hl
      · obtain ⟨m, hm⟩ : ∃ m : Nat, m = 8192 := ⟨_, rfl⟩
        unfold shv
        rw [if_neg h1, deep_eq (sm_bits (m := 1280) hz (by omega)) (show 1280 ≤ (-k).toNat by omega) (show 1280 ≤ m by omega)]
        obtain ⟨s, base, b, off, n, c, X, rfl, hb, hX, hn, hl, rfl⟩ := h
        exact shift_deep s base b off n c X k m hm w hb hX hn hl (by rw [← big_sg s]; exact not_big hz (by omega)) (fun e => h0 (sg_zero.2 e)) (by omega)
/-- Shift of the verifier, at a number of at most 40 limbs. -/
theorem shift_rf {v : Value} {z : Int} (k : Int) (w : World) (h : IsInt w v z) (hz : sm 40 z) (hk : k ≤ 4000) :
    Calls Try.prog 23 #[v, .int .i64 k] w (RetIntE w (shv z k) 0) := by
  have hnb : ¬ 256 < nl z.natAbs := not_big hz (by omega)
  by_cases h0 : z = 0
  · rw [h0, shv_zero]
    exact shiftr_zero v z k w h hnb h0
  · by_cases h1 : 0 ≤ k
    · obtain ⟨j, rfl⟩ := Int.eq_ofNat_of_zero_le h1
      unfold shv
      rw [if_pos h1, Int.toNat_natCast]
      refine shiftr_up v z j w h hnb h0 (by omega) ?_
      have e : z * ((2^j : Nat) : Int) = z * 2^j := by simp
      rw [e]
      exact not_big (sm_shift (m := 125) hz (by omega)) (by omega)
    · by_cases h2 : -8256 ≤ k
      · obtain ⟨j, hj⟩ := Int.eq_ofNat_of_zero_le (show 0 ≤ -k by omega)
        obtain rfl : k = -(j : Int) := by omega
        unfold shv
        rw [if_neg h1, show (-(-(j : Int))).toNat = j by omega]
        exact shiftr_down v z j (by omega) (by omega) w h hnb h0
      · obtain ⟨m, hm⟩ : ∃ m : Nat, m = 8256 := ⟨_, rfl⟩
        unfold shv
        rw [if_neg h1, deep_eq (sm_bits (m := 1280) hz (by omega)) (show 1280 ≤ (-k).toNat by omega) (show 1280 ≤ m by omega)]
        exact shiftr_deep v z k m hm (by omega) w h hnb h0
end Go.Proofs.Ytmfimkndonlheaa

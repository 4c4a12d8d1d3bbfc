/-
  integer.Shift.
  integer.Shift to the left; of 0; of a large number.
  integer.Gcd, where one of the numbers has at most one limb.
-/
import Derived.Test.YtdgfmkideghhaaaM19
import Derived.Test.YtdgfmkideghhaaaM20
import Derived.Test.YtdgfmkideghhaaaM21
import Derived.Test.YtdgfmkideghhaaaM23
namespace PB
theorem floor_sg (neg : Bool) (X s : Nat) : sg neg (X / 2^s + if neg && decide (X % 2^s ≠ 0) then 1 else 0) = (sg neg X) / (2^s : Nat) := by
  have hpos : (0 : Nat) < 2^s := Nat.pow_pos (by decide)
  have h := Nat.div_add_mod X (2^s)
  have hm := Nat.mod_lt X hpos
  generalize 2^s = P at *
  cases neg
  · simp only [Bool.false_and, Bool.false_eq_true, if_false, Nat.add_zero]
    show ((X / P : Nat) : Int) = (X : Int) / (P : Int)
    exact Int.natCast_ediv X P
  · show -(((X / P + if (true && decide (X % P ≠ 0)) = true then 1 else 0 : Nat) : Nat) : Int) = (-(X : Int)) / (P : Int)
    symm
    by_cases hz : X % P = 0
    · rw [if_neg (by simp [hz]), Nat.add_zero]
      apply Int.ediv_eq_of_eq_mul_left (by omega)
      have : X = X / P * P := by rw [Nat.mul_comm]; omega
      rw [Int.neg_mul, ← Int.natCast_mul, ← this]
    · rw [if_pos (by simp [hz])]
      have e : -(X : Int) = ((P : Int) - (X % P : Nat)) + P * (-((X / P + 1 : Nat) : Int)) := by
        have h2 : (X : Int) = (P : Int) * (X / P : Nat) + (X % P : Nat) := by
          have h3 : ((P * (X / P) + X % P : Nat) : Int) = X := by rw [h]
          rw [← h3]; simp
        rw [Int.natCast_add, Int.mul_neg, Int.mul_add]
        omega
      rw [e, Int.add_mul_ediv_left _ _ (by omega), Int.ediv_eq_zero_of_lt (by omega) (by omega), Int.zero_add]
end PB
namespace Go.Proofs.Ytdgfmkideghhaaa
open Go.RowKit PB

set_option maxHeartbeats 3200000 in
set_option maxRecDepth 100000 in
/-- Shift to the right, of a number that is not large and not 0. -/
theorem shift_down (s : Bool) (base : Option Addr) (b off n c X : Nat) (k : Nat) (w : World) (hb : n ≠ 0 → base = some ⟨b, off, none⟩) (hX : Num w b off n X) (hn : n ≤ c) (hl : n ≤ 1000000000)
    (hs : ¬ 256 < nl X) (h0 : X ≠ 0) (hk : 0 < k) (hk2 : k ≤ 8192) :
    Calls Try.prog 17 #[.agg #[.bool s, .slice base n c], .int .i64 (-(k : Int))] w (RetIntE w (sg s X / (2^k : Nat)) 0) := by
  have hnX := nl_le hX.lt
  have hz : ((nl X : Int) == 0) = false := by have := mt nl_eq_zero.1 h0; simp; omega
  have HB := Lib.hid hb
  rw [← floor_sg]
  have HH : ∃ v, v = sg s (X / 2^k + if s && decide (X % 2^k ≠ 0) then 1 else 0) := ⟨_, rfl⟩
  obtain ⟨z, hzz⟩ := HH
  have FL := Lib.hid (fun W (hw : Below w.heap.size w W) => floor_any s base b off X (nl X) k W (fun h => hb (by omega)) ((hX.fewer hnX (lt_nl X)).kept hw) (Nat.le_refl _) (by omega) (by omega))
  rw [← hzz] at FL ⊢
  clear hzz hb h0
  have i1 : ¬ (8192 < -(k : Int)) := by omega
  have i2 : ¬ (0 ≤ -(k : Int)) := by omega
  go_enter Try.func17, Try.ntmps17
  go_wp2_with fail
  generalize hW : World.alloc _ _ = W
  have B0 : Blk W w.heap.size #[.bool s, .slice base n c] := by rw [← hW]; exact (blk_new rfl).alloc _
  have B1 : Blk W (w.heap.size + 1) #[.bool false, .slice none 0 0] := by rw [← hW]; exact blk_new (by simp)
  have hbW : Below w.heap.size w W := by rw [← hW]; exact ((Below.refl _ _).alloc (Nat.le_refl _) _).alloc (by simp) _
  have HS := Lib.hid (show W.heap.size = w.heap.size + 2 by rw [← hW]; simp)
  clear hW
  obtain ⟨a0, a1⟩ := Blk2 B0
  have hXW := hX.kept hbW
  go_wp2_with (go_at_call 75; refine (cut_any base b off n c X _ HB.out (by exact hXW) hn (by omega)).mono ?_; rintro e w' ⟨rfl, rfl⟩)
  generalize hV : World.alloc _ _ = V
  have hbV : Below W.heap.size W V := by rw [← hV]; exact (Below.refl _ _).alloc (Nat.le_refl _) _
  have B2 : Blk V W.heap.size #[.bool s, .slice base n c] := by rw [← hV]; exact blk_new rfl
  clear hV
  have call := large_one W.heap.size s base b off n c X V (B2.cell 0 _ rfl) (B2.cell 1 _ rfl) HB.out (hXW.kept hbV) hn (by omega)
  rw [decide_eq_false hs] at call
  refine call.mono ?_
  clear call
  rintro e w1 ⟨rfl, hb1⟩
  have hbw1 : Below w.heap.size w w1 := hbW.trans ((hbV.trans (hb1.mono hbV.size)).mono (by have := HS.out; omega))
  obtain ⟨a0, a1⟩ := Blk2 ((B0.kept hbV).kept hb1)
  have B1' := (B1.kept hbV).kept hb1
  have HS' := Lib.hid (show w.heap.size + 2 ≤ w1.heap.size by have := HS.out; have := hbV.size; have := hb1.size; omega)
  clear B0 B1 B2 hb1 hbV hbW hXW
  go_wp2_with fail
  rw [show min (k : Int) 8192 = k by omega]
  refine (FL.out w1 hbw1).mono ?_
  rintro e w3 ⟨v, rfl, hcan, hb3⟩
  obtain ⟨r, q, g, o, Z, m, rfl, hq, hZ, hm, hml, hzz, hsz, hgN⟩ := hcan
  have hbw3 : Below w.heap.size w w3 := hbw1.trans (hb3.mono (by have := HS'.out; omega))
  obtain ⟨c0, c1⟩ := Blk2 (B1'.kept hb3)
  obtain ⟨f0, f1⟩ := Blk2f (B1'.kept hb3)
  have HZ := Lib.hid hzz
  clear hzz B1' a0 a1
  go_wp2_with fail
  have hsize := HS'.out
  refine bodyPost_ret (v := .tuple #[.agg #[.bool r, .slice q (nl Z) m], .int .i64 0]) (by simp [results, Try.results17, go_sem, c0, c1]) rfl ?_
  have hcan : IsCan w1.heap.size w3 (.agg #[.bool r, .slice q (nl Z) m]) z := ⟨r, q, g, o, Z, m, rfl, hq, hZ, hm, hml, HZ.out, hsz, hgN⟩
  exact ⟨_, rfl, ((hcan.set (by show w.heap.size + 1 < _; omega) _).set (by show w.heap.size + 1 < _; omega) _).mono (by omega), (hbw3.setCell (by show w.heap.size ≤ w.heap.size + 1; omega) _).setCell (by show w.heap.size ≤ w.heap.size + 1; omega) _⟩
end Go.Proofs.Ytdgfmkideghhaaa

namespace PB
theorem sg_pow (s : Bool) (X k : Nat) : sg s (X * 2^k) = sg s X * 2^k := by
  unfold sg
  cases s <;> simp [Int.neg_mul]
end PB
namespace Go.Proofs.Ytdgfmkideghhaaa
open Go.RowKit PB

set_option maxHeartbeats 3200000 in
set_option maxRecDepth 100000 in
theorem shift_up (s : Bool) (base : Option Addr) (b off n c X : Nat) (k : Nat) (w : World) (hb : n ≠ 0 → base = some ⟨b, off, none⟩) (hX : Num w b off n X) (hn : n ≤ c) (hl : n ≤ 1000000000)
    (hs : ¬ 256 < nl X) (h0 : X ≠ 0) (hk2 : k ≤ 8192) (er : Int) (z : Int)
    (hbz : (256 < nl (X * 2^k) ∧ er = 2 ∧ z = 0) ∨ (¬ 256 < nl (X * 2^k) ∧ er = 0 ∧ z = sg s (X * 2^k))) :
    Calls Try.prog 17 #[.agg #[.bool s, .slice base n c], .int .i64 k] w (RetIntE w z er) := by
  have hnX := nl_le hX.lt
  have hz : ((nl X : Int) == 0) = false := by have := mt nl_eq_zero.1 h0; simp; omega
  have HB := Lib.hid hb
  have HZ := Lib.hid hbz
  clear hbz hb h0
  have i1 : ¬ ((8192 : Int) < k) := by omega
  have i2 : (0 : Int) ≤ k := by omega
  go_enter Try.func17, Try.ntmps17
  go_wp2_with fail
  generalize hW : World.alloc _ _ = W
  have B0 : Blk W w.heap.size #[.bool s, .slice base n c] := by rw [← hW]; exact (blk_new rfl).alloc _
  have B1 : Blk W (w.heap.size + 1) #[.bool false, .slice none 0 0] := by rw [← hW]; exact blk_new (by simp)
  have hbW : Below w.heap.size w W := by rw [← hW]; exact ((Below.refl _ _).alloc (Nat.le_refl _) _).alloc (by simp) _
  have HS := Lib.hid (show W.heap.size = w.heap.size + 2 by rw [← hW]; simp)
  clear hW
  obtain ⟨a0, a1⟩ := Blk2 B0
  have hXW := hX.kept hbW
  go_wp2_with (go_at_call 75; refine (cut_any base b off n c X _ HB.out (by exact hXW) hn (by omega)).mono ?_; rintro e w' ⟨rfl, rfl⟩)
  generalize hV : World.alloc _ _ = V
  have hbV : Below W.heap.size W V := by rw [← hV]; exact (Below.refl _ _).alloc (Nat.le_refl _) _
  have B2 : Blk V W.heap.size #[.bool s, .slice base n c] := by rw [← hV]; exact blk_new rfl
  clear hV
  have call := large_one W.heap.size s base b off n c X V (B2.cell 0 _ rfl) (B2.cell 1 _ rfl) HB.out (hXW.kept hbV) hn (by omega)
  rw [decide_eq_false hs] at call
  refine call.mono ?_
  clear call
  rintro e w1 ⟨rfl, hb1⟩
  have hbw1 : Below w.heap.size w w1 := hbW.trans ((hbV.trans (hb1.mono hbV.size)).mono (by have := HS.out; omega))
  have B0' := (B0.kept hbV).kept hb1
  have B1' := (B1.kept hbV).kept hb1
  have HS' := Lib.hid (show w.heap.size + 2 ≤ w1.heap.size by have := HS.out; have := hbV.size; have := hb1.size; omega)
  have HK := Lib.hid (show ∀ w2, Below w1.heap.size w1 w2 → w2.cell? ⟨w.heap.size, 0, none⟩ = some (.bool s) ∧ w2.cell? ⟨w.heap.size, 1, none⟩ = some (.slice base n c) from fun w2 h => Blk2 (B0'.kept h))
  have HL := Lib.hid (show ∀ w2, Below w1.heap.size w1 w2 → Blk w2 (w.heap.size + 1) #[.bool false, .slice none 0 0] from fun w2 h => B1'.kept h)
  have HST := Lib.hid (show ∀ (w4 : World) (u0 u1 : Value), (w4.cell? ⟨w.heap.size, 0, none⟩ = some (.bool s) ∧ w4.cell? ⟨w.heap.size, 1, none⟩ = some (.slice base n c)) →
      (((w4.setCell ⟨w.heap.size + 1, 0, none⟩ u0).setCell ⟨w.heap.size + 1, 1, none⟩ u1).cell? ⟨w.heap.size, 0, none⟩ = some (.bool s) ∧ ((w4.setCell ⟨w.heap.size + 1, 0, none⟩ u0).setCell ⟨w.heap.size + 1, 1, none⟩ u1).cell? ⟨w.heap.size, 1, none⟩ = some (.slice base n c)) from
    fun w4 u0 u1 h => ⟨cell_other (cell_other h.1 (show w.heap.size ≠ w.heap.size + 1 by omega)) (show w.heap.size ≠ w.heap.size + 1 by omega), cell_other (cell_other h.2 (show w.heap.size ≠ w.heap.size + 1 by omega)) (show w.heap.size ≠ w.heap.size + 1 by omega)⟩)
  have hX1 := (hX.kept hbw1).fewer hnX (lt_nl X)
  clear B0 B1 B2 B0' B1' hb1 hbV hbW hXW HS a0 a1
  obtain ⟨a0, a1⟩ := HK.out _ (Below.refl _ _)
  obtain ⟨q, hq⟩ : ∃ q, q = k / 32 := ⟨_, rfl⟩
  obtain ⟨p, hp⟩ : ∃ p, p = k % 32 := ⟨_, rfl⟩
  have hkqp : Hid (k = 32 * q + p ∧ p < 32 ∧ q ≤ 256) := Lib.hid (by omega)
  clear hq hp
  go_wp2_with fail
  go_region_held3 (fun w' => w'.cell? ⟨w.heap.size, 0, none⟩ = some (.bool s) ∧ w'.cell? ⟨w.heap.size, 1, none⟩ = some (.slice base n c))
    (first | exact ⟨a0, a1⟩ | exact HK.out _ hq3 | exact HK.out _ hq2 | exact HK.out _ hq1 | exact HST.out _ _ _ (HK.out _ hq3))
    (first
      | (go_at_call 79; refine (raise_any base b off (nl X) (nl X) X k q p _ (fun h => HB.out (by omega)) (by exact hX1) (by omega) hkqp.out.1 hkqp.out.2.1 (by omega)).mono ?_; rintro e w2 ⟨rfl, hF⟩; have hq1 : Below w1.heap.size w1 w2 := (by first | exact hF.below | exact below_undrew hF.below); have hnum0 : Num w2 w1.heap.size 0 (q + nl X + 1) (X * 2^k) := (by exact hF.num))
      | (go_at_call 73; refine (number_any s _ _ 0 _ _ (X * 2^k) _ (fun _ => rfl) (by exact hnum0) (Nat.le_refl _) (by have := hkqp.out; omega)).mono ?_; rintro e w3 ⟨rfl, hb3⟩
         have hq2 : Below w1.heap.size w1 w3 := hq1.trans (hb3.mono hq1.size)
         have hnum := hnum0.kept hb3
         have hcan : IsCan w1.heap.size w3 (intv s (some ⟨w1.heap.size, 0, none⟩) (X * 2^k)) (sg s (X * 2^k)) := can_intv (n := q + nl X + 1) (fun _ => rfl) hnum (by have := nl_le hnum.lt; have := hkqp.out; omega) (fun _ => by omega)
         obtain ⟨s', q', g, o, Z, m, hv, hq, hZ, hm, hml, hzz, hsz, hgN⟩ := hcan
         rw [hv]
         have HV := Lib.hid hv
         have HZZ := Lib.hid hzz
         clear hv hzz)
      | (go_at_call 71; refine (bounded_any s' q' g o (nl Z) m Z _ hq (by exact hZ) hm (by omega)).mono ?_; rintro e w4 ⟨rfl, hb4⟩
         have hq3 : Below w1.heap.size w1 w4 := hq2.trans (hb4.mono hq2.size)
         obtain ⟨c0, c1⟩ := Blk2 (HL.out _ hq3)
         obtain ⟨f0, f1⟩ := Blk2f (HL.out _ hq3)
         obtain ⟨r', p', k', l', er', hbn⟩ := bnd_form s' q' (nl Z) m Z
         rw [hbn]
         have HBN := Lib.hid hbn
         clear hbn))
  go_wp2_with fail
  have hsize := HS'.out
  have hZX : X * 2^k = Z := by have h := congrArg Int.natAbs HZZ.out; rwa [sg_natAbs, sg_natAbs] at h
  have hbw4 : Below w.heap.size w w4 := hbw1.trans (hq3.mono (by omega))
  refine bodyPost_ret (v := .tuple #[.agg #[.bool r', .slice p' k' l'], .int .i64 er']) (by simp [results, Try.results17, go_sem, c0, c1]) rfl ?_
  rcases HZ.out with ⟨h1, h2, h3⟩ | ⟨h1, h2, h3⟩
  · have h4 := HBN.out
    rw [bnd_big _ (by rw [← hZX]; exact h1)] at h4
    simp only [Value.tuple.injEq, Array.mk.injEq, List.cons.injEq, Value.int.injEq, true_and, and_true] at h4
    rw [← h4.1, ← h4.2, h2, h3]
    exact ⟨_, rfl, can_zero _ _, (hbw4.setCell (by show w.heap.size ≤ w.heap.size + 1; omega) _).setCell (by show w.heap.size ≤ w.heap.size + 1; omega) _⟩
  · have h4 := HBN.out
    rw [bnd_ok _ (by rw [← hZX]; exact h1)] at h4
    simp only [Value.tuple.injEq, Array.mk.injEq, List.cons.injEq, Value.int.injEq, true_and, and_true] at h4
    rw [← h4.1, ← h4.2, h2, h3, HZZ.out]
    have hcan : IsCan w1.heap.size w4 (.agg #[.bool s', .slice q' (nl Z) m]) (sg s' Z) := ⟨s', q', g, o, Z, m, rfl, hq, hZ.kept hb4, hm, hml, rfl, hsz, hgN⟩
    exact ⟨_, rfl, ((hcan.set (by show w.heap.size + 1 < _; omega) _).set (by show w.heap.size + 1 < _; omega) _).mono (by omega), (hbw4.setCell (by show w.heap.size ≤ w.heap.size + 1; omega) _).setCell (by show w.heap.size ≤ w.heap.size + 1; omega) _⟩
end Go.Proofs.Ytdgfmkideghhaaa

namespace PB
theorem dg0_small {X : Nat} (h : nl X ≤ 1) : dg X 0 = X := by
  have := lt_nl X
  have h2 : X < B := Nat.lt_of_lt_of_le this (by have := pow_le h; rwa [Nat.pow_one] at this)
  unfold dg; rw [Nat.pow_zero, Nat.div_one, Nat.mod_eq_of_lt h2]
theorem small_lt {X : Nat} (h : nl X ≤ 1) : X < B := by
  have := pow_le h; rw [Nat.pow_one] at this
  exact Nat.lt_of_lt_of_le (lt_nl X) this
open Go Go.RowKit in
/-- What common returns. -/
def RetCom (w : World) (G lim : Nat) (e : Ending) (w' : World) : Prop :=
  ∃ v, e = .returned v ∧ SlN w.heap.size w' v G lim ∧ Below w.heap.size w w'
end PB
namespace Go.Proofs.Ytdgfmkideghhaaa
open Go.RowKit PB

set_option maxHeartbeats 1600000 in
set_option maxRecDepth 100000 in
theorem head_small (base : Option Addr) (b off X c : Nat) (w : World) (hb : nl X ≠ 0 → base = some ⟨b, off, none⟩) (hX : Num w b off (nl X) X) (hs : nl X ≤ 1) :
    Calls Try.prog 124 #[.slice base (nl X) c, .int .i64 0] w fun e w' => e = .returned (.int .u64 X) ∧ w = w' := by
  have hB := small_lt hs
  unfold B at hB
  by_cases h0 : nl X = 0
  · have hx := nl_eq_zero.1 h0
    subst hx
    rw [nl_zero]
    go_enter Try.func124, Try.ntmps124
    go_wp2
    go_ret
    exact ⟨rfl, rfl⟩
  · have h1 : nl X = 1 := by omega
    obtain rfl := hb h0
    have c1 := hX.cell (i := 0) (by omega)
    rw [dg0_small hs, Nat.add_zero] at c1
    rw [h1]
    clear hX hb h0 h1 hs
    go_enter Try.func124, Try.ntmps124
    go_wp2_with fail
    go_loop [7, 8] (fun h i => h = .int .u64 X ∧ i = .int .i64 1) (fun _ _ => 0)
    case atStart => exact ⟨rfl, rfl⟩
    case round =>
      obtain ⟨rfl, rfl⟩ := hrel
      go_wp2
      go_ret
      exact ⟨rfl, rfl⟩

set_option maxHeartbeats 3200000 in
set_option maxRecDepth 100000 in
theorem common_ge (basex basey : Option Addr) (bx ox X cx by_ oy Y cy : Nat) (w : World) (hbx : nl X ≠ 0 → basex = some ⟨bx, ox, none⟩) (hby : nl Y ≠ 0 → basey = some ⟨by_, oy, none⟩)
    (hX : Num w bx ox (nl X) X) (hY : Num w by_ oy (nl Y) Y) (hc : nl X ≤ 1000000000) (hcx : nl X ≤ cx) (hY1 : nl Y ≤ 1) (hle : Y ≤ X) :
    Calls Try.prog 77 #[.slice basex (nl X) cx, .slice basey (nl Y) cy] w (fun e w' => ∃ base c b off n, e = .returned (.slice base n c) ∧ (n ≠ 0 → base = some ⟨b, off, none⟩) ∧ Num w' b off n (Nat.gcd X Y) ∧ n ≤ c ∧ n ≤ 1000000000 ∧ (n ≠ 0 → b = bx ∨ w.heap.size ≤ b) ∧ Below w.heap.size w w') := by
  have hcm : ¬ cmpi (X : Int) Y < 0 := by unfold cmpi; rw [if_neg (by omega)]; split <;> decide
  have i1 : ¬ (2 : Int) < nl Y := by omega
  have HBX := Lib.hid hbx
  have HBY := Lib.hid hby
  by_cases h0 : nl Y = 0
  · have hy := nl_eq_zero.1 h0
    have hG : Nat.gcd X Y = X := by rw [hy]; exact Nat.gcd_zero_right _
    rw [hG]
    have h0' : ((nl Y : Int) == 0) = true := by rw [h0]; rfl
    clear hy hG hbx hby h0 hle
    go_enter Try.func77, Try.ntmps77
    go_wp2_with (go_at_call 93; refine (order_any basex basey bx ox X _ by_ oy Y _ _ HBX.out HBY.out hX hY (by omega) (by omega)).mono ?_; rintro e w' ⟨rfl, n1, rfl⟩)
    go_loopw [0, 1] (fun a b wr => a = .slice basex (nl X) cx ∧ b = .slice basey (nl Y) cy ∧ wr = w.drewN n1) (fun _ _ _ => 0)
    case atStart => exact ⟨rfl, rfl, rfl⟩
    case round =>
      obtain ⟨rfl, rfl, rfl⟩ := hrel
      go_wp2_with fail
      go_ret
      exact ⟨basex, cx, bx, ox, nl X, rfl, HBX.out, hX, hcx, hc, fun _ => Or.inl rfl, below_drewN (Below.refl _ _) _⟩
  · have hY1' : nl Y = 1 := by omega
    obtain rfl := hby h0
    have h0' : ((nl Y : Int) == 0) = false := by simp; omega
    have hYB := small_lt hY1
    have hY0 : 0 < Y := by
      apply Nat.pos_of_ne_zero
      rintro rfl
      rw [nl_zero] at hY1'; omega
    have HD := Lib.hid (fun n1 => divide_one basex bx ox X cx by_ oy Y cy (w.drewN n1) hbx hX.drewN hY.drewN hc hY1' hle)
    have HH := Lib.hid (fun W (h : Below w.heap.size w W) c => head_small (some ⟨by_, oy, none⟩) by_ oy Y c W (fun _ => rfl) (hY.kept h) hY1)
    have hmod : X % Y < Y := Nat.mod_lt _ hY0
    have hR1 : nl (X % Y) ≤ 1 := nl_le (by rw [Nat.pow_one]; omega)
    clear hbx hby h0 hY1'
    go_enter Try.func77, Try.ntmps77
    go_wp2_with (go_at_call 93; refine (order_any basex _ bx ox X _ by_ oy Y _ _ HBX.out HBY.out hX hY (by omega) (by omega)).mono ?_; rintro e w' ⟨rfl, n1, rfl⟩)
    go_loopw [0, 1] (fun a b wr => a = .slice basex (nl X) cx ∧ b = .slice (some ⟨by_, oy, none⟩) (nl Y) cy ∧ wr = w.drewN n1) (fun _ _ _ => 0)
    case atStart => exact ⟨rfl, rfl, rfl⟩
    case round =>
      obtain ⟨rfl, rfl, rfl⟩ := hrel
      go_wp2_with fail
      refine (HD.out n1).mono ?_
      rintro e w1 ⟨vq, vr, rfl, ⟨qb, qg, qo, qn, qc, rfl, hq1, hq2, hq3, hq4, hq5⟩, ⟨rb, rg, ro, rn, rc, rfl, hr1, hr2, hr3, hr4, hr5, _⟩, hb1⟩
      have hb1' : Below w.heap.size w w1 := below_undrewN hb1
      have HR1 := Lib.hid hr1
      have hRle := nl_le hr2.lt
      clear hq1 hq2 hq3 hq4 hq5 hr1 hr5
      go_wp2_with (first
        | (go_at_call 75; refine (cut_any rb rg ro rn rc (X % Y) _ HR1.out (by exact hr2) hr3 (by omega)).mono ?_; rintro e w' ⟨rfl, rfl⟩)
        | (go_at_call_of 124 (Value.slice (some ⟨by_, oy, none⟩) (nl Y) cy); refine (HH.out _ (by exact hb1') _).mono ?_; rintro e w' ⟨rfl, rfl⟩)
        | (go_at_call 124; refine (head_small rb rg ro (X % Y) _ _ (fun h => HR1.out (by omega)) (by exact hr2.fewer hRle (lt_nl _)) hR1).mono ?_; rintro e w' ⟨rfl, rfl⟩))
      clear hr2 hRle HR1 hr3 hr4
      go_loopw [10, 11] (fun a b wr => ∃ m n k : Nat, m < 4294967296 ∧ n < 4294967296 ∧ a = .int .u64 m ∧ b = .int .u64 n ∧ Hid (Nat.gcd m n = Nat.gcd X Y) ∧ wr = w1.drewN k) (fun _ b _ => (intOf b).toNat)
      case atStart => exact ⟨Y, X % Y, 0, hYB, Nat.lt_trans hmod hYB, rfl, rfl, Lib.hid (by rw [Nat.gcd_comm X Y, Nat.gcd_rec Y X, Nat.gcd_comm]), rfl⟩
      case round =>
        obtain ⟨m, n, k, hm, hn, rfl, rfl, hG, rfl⟩ := hrel
        by_cases hn0 : n = 0
        · have hm2 : m = Nat.gcd X Y := by have := hG.out; rwa [hn0, Nat.gcd_zero_right] at this
          have ht : ((n : Int) != 0) = false := by simp [hn0]
          clear hn0
          have e1 : (m : Int) % 4294967296 = m := by omega
          have e2 : (m : Int) / 4294967296 = 0 := by omega
          have HM := Lib.hid hm2
          clear hm2 hG
          go_wp2_with fail
          go_ret
          refine ⟨_, 2, w1.heap.size, 0, 2, rfl, fun _ => rfl, ?_, Nat.le_refl _, by omega, fun _ => Or.inr hb1'.size, ?_⟩
          · rw [← HM.out]
            refine ⟨by have : m < 18446744073709551616 := (by omega); exact this, fun i hi => ?_⟩
            have : i = 0 ∨ i = 1 := by omega
            rcases this with rfl | rfl
            · rw [show dg m 0 = m by unfold dg B; rw [Nat.pow_zero, Nat.div_one, Nat.mod_eq_of_lt hm]]
              exact cell_new _ _ _ _ _ _ rfl rfl
            · rw [show dg m 1 = 0 by unfold dg B; rw [Nat.pow_one, Nat.div_eq_of_lt hm]]
              exact cell_new _ _ _ _ _ _ rfl rfl
          · exact below_drewN (hb1'.alloc hb1'.size _) _
        · have ht : ((n : Int) != 0) = true := by simp; omega
          have hnp : (0 : Int) < n := by omega
          have hlt := Nat.mod_lt m (show 0 < n by omega)
          have hG2 := Lib.hid (show Nat.gcd n (m % n) = Nat.gcd X Y by rw [← hG.out, Nat.gcd_comm m n, Nat.gcd_rec n m, Nat.gcd_comm])
          go_wp2_with fail
          go_quiet (fail)
          go_wp2_with fail
          go_roundw
          case rel => exact ⟨n, m % n, _, hn, by omega, rfl, rfl, hG2, by rw [World.drewN_drewN]⟩
          case measure => simp [intOf]; omega
set_option maxHeartbeats 3200000 in
set_option maxRecDepth 100000 in
theorem common_lt (basex basey : Option Addr) (bx ox X cx by_ oy Y cy : Nat) (w : World) (hbx : nl X ≠ 0 → basex = some ⟨bx, ox, none⟩) (hby : nl Y ≠ 0 → basey = some ⟨by_, oy, none⟩)
    (hX : Num w bx ox (nl X) X) (hY : Num w by_ oy (nl Y) Y) (hc : nl X ≤ 1000000000) (hcx : nl X ≤ cx) (hY1 : nl Y ≤ 1) (hlt : Y < X) :
    Calls Try.prog 77 #[.slice basey (nl Y) cy, .slice basex (nl X) cx] w (fun e w' => ∃ base c b off n, e = .returned (.slice base n c) ∧ (n ≠ 0 → base = some ⟨b, off, none⟩) ∧ Num w' b off n (Nat.gcd X Y) ∧ n ≤ c ∧ n ≤ 1000000000 ∧ (n ≠ 0 → b = bx ∨ w.heap.size ≤ b) ∧ Below w.heap.size w w') := by
  have hle : Y ≤ X := Nat.le_of_lt hlt
  have hcm : cmpi (Y : Int) X < 0 := by unfold cmpi; rw [if_pos (by omega)]; decide
  have i1 : ¬ (2 : Int) < nl Y := by omega
  have HBX := Lib.hid hbx
  have HBY := Lib.hid hby
  by_cases h0 : nl Y = 0
  · have hy := nl_eq_zero.1 h0
    have hG : Nat.gcd X Y = X := by rw [hy]; exact Nat.gcd_zero_right _
    rw [hG]
    have h0' : ((nl Y : Int) == 0) = true := by rw [h0]; rfl
    clear hy hG hbx hby h0 hle
    go_enter Try.func77, Try.ntmps77
    go_wp2_with (go_at_call 93; refine (order_any basey basex by_ oy Y _ bx ox X _ _ HBY.out HBX.out hY hX (by omega) (by omega)).mono ?_; rintro e w' ⟨rfl, n1, rfl⟩)
    go_loopw [0, 1] (fun a b wr => a = .slice basex (nl X) cx ∧ b = .slice basey (nl Y) cy ∧ wr = w.drewN n1) (fun _ _ _ => 0)
    case atStart => exact ⟨rfl, rfl, rfl⟩
    case round =>
      obtain ⟨rfl, rfl, rfl⟩ := hrel
      go_wp2_with fail
      go_ret
      exact ⟨basex, cx, bx, ox, nl X, rfl, HBX.out, hX, hcx, hc, fun _ => Or.inl rfl, below_drewN (Below.refl _ _) _⟩
  · have hY1' : nl Y = 1 := by omega
    obtain rfl := hby h0
    have h0' : ((nl Y : Int) == 0) = false := by simp; omega
    have hYB := small_lt hY1
    have hY0 : 0 < Y := by
      apply Nat.pos_of_ne_zero
      rintro rfl
      rw [nl_zero] at hY1'; omega
    have HD := Lib.hid (fun n1 => divide_one basex bx ox X cx by_ oy Y cy (w.drewN n1) hbx hX.drewN hY.drewN hc hY1' hle)
    have HH := Lib.hid (fun W (h : Below w.heap.size w W) c => head_small (some ⟨by_, oy, none⟩) by_ oy Y c W (fun _ => rfl) (hY.kept h) hY1)
    have hmod : X % Y < Y := Nat.mod_lt _ hY0
    have hR1 : nl (X % Y) ≤ 1 := nl_le (by rw [Nat.pow_one]; omega)
    clear hbx hby h0 hY1' hlt
    go_enter Try.func77, Try.ntmps77
    go_wp2_with (go_at_call 93; refine (order_any _ basex by_ oy Y _ bx ox X _ _ HBY.out HBX.out hY hX (by omega) (by omega)).mono ?_; rintro e w' ⟨rfl, n1, rfl⟩)
    go_loopw [0, 1] (fun a b wr => a = .slice basex (nl X) cx ∧ b = .slice (some ⟨by_, oy, none⟩) (nl Y) cy ∧ wr = w.drewN n1) (fun _ _ _ => 0)
    case atStart => exact ⟨rfl, rfl, rfl⟩
    case round =>
      obtain ⟨rfl, rfl, rfl⟩ := hrel
      go_wp2_with fail
      refine (HD.out n1).mono ?_
      rintro e w1 ⟨vq, vr, rfl, ⟨qb, qg, qo, qn, qc, rfl, hq1, hq2, hq3, hq4, hq5⟩, ⟨rb, rg, ro, rn, rc, rfl, hr1, hr2, hr3, hr4, hr5, _⟩, hb1⟩
      have hb1' : Below w.heap.size w w1 := below_undrewN hb1
      have HR1 := Lib.hid hr1
      have hRle := nl_le hr2.lt
      clear hq1 hq2 hq3 hq4 hq5 hr1 hr5
      go_wp2_with (first
        | (go_at_call 75; refine (cut_any rb rg ro rn rc (X % Y) _ HR1.out (by exact hr2) hr3 (by omega)).mono ?_; rintro e w' ⟨rfl, rfl⟩)
        | (go_at_call_of 124 (Value.slice (some ⟨by_, oy, none⟩) (nl Y) cy); refine (HH.out _ (by exact hb1') _).mono ?_; rintro e w' ⟨rfl, rfl⟩)
        | (go_at_call 124; refine (head_small rb rg ro (X % Y) _ _ (fun h => HR1.out (by omega)) (by exact hr2.fewer hRle (lt_nl _)) hR1).mono ?_; rintro e w' ⟨rfl, rfl⟩))
      clear hr2 hRle HR1 hr3 hr4
      go_loopw [10, 11] (fun a b wr => ∃ m n k : Nat, m < 4294967296 ∧ n < 4294967296 ∧ a = .int .u64 m ∧ b = .int .u64 n ∧ Hid (Nat.gcd m n = Nat.gcd X Y) ∧ wr = w1.drewN k) (fun _ b _ => (intOf b).toNat)
      case atStart => exact ⟨Y, X % Y, 0, hYB, Nat.lt_trans hmod hYB, rfl, rfl, Lib.hid (by rw [Nat.gcd_comm X Y, Nat.gcd_rec Y X, Nat.gcd_comm]), rfl⟩
      case round =>
        obtain ⟨m, n, k, hm, hn, rfl, rfl, hG, rfl⟩ := hrel
        by_cases hn0 : n = 0
        · have hm2 : m = Nat.gcd X Y := by have := hG.out; rwa [hn0, Nat.gcd_zero_right] at this
          have ht : ((n : Int) != 0) = false := by simp [hn0]
          clear hn0
          have e1 : (m : Int) % 4294967296 = m := by omega
          have e2 : (m : Int) / 4294967296 = 0 := by omega
          have HM := Lib.hid hm2
          clear hm2 hG
          go_wp2_with fail
          go_ret
          refine ⟨_, 2, w1.heap.size, 0, 2, rfl, fun _ => rfl, ?_, Nat.le_refl _, by omega, fun _ => Or.inr hb1'.size, ?_⟩
          · rw [← HM.out]
            refine ⟨by have : m < 18446744073709551616 := (by omega); exact this, fun i hi => ?_⟩
            have : i = 0 ∨ i = 1 := by omega
            rcases this with rfl | rfl
            · rw [show dg m 0 = m by unfold dg B; rw [Nat.pow_zero, Nat.div_one, Nat.mod_eq_of_lt hm]]
              exact cell_new _ _ _ _ _ _ rfl rfl
            · rw [show dg m 1 = 0 by unfold dg B; rw [Nat.pow_one, Nat.div_eq_of_lt hm]]
              exact cell_new _ _ _ _ _ _ rfl rfl
          · exact below_drewN (hb1'.alloc hb1'.size _) _
        · have ht : ((n : Int) != 0) = true := by simp; omega
          have hnp : (0 : Int) < n := by omega
          have hlt := Nat.mod_lt m (show 0 < n by omega)
          have hG2 := Lib.hid (show Nat.gcd n (m % n) = Nat.gcd X Y by rw [← hG.out, Nat.gcd_comm m n, Nat.gcd_rec n m, Nat.gcd_comm])
          go_wp2_with fail
          go_quiet (fail)
          go_wp2_with fail
          go_roundw
          case rel => exact ⟨n, m % n, _, hn, by omega, rfl, rfl, hG2, by rw [World.drewN_drewN]⟩
          case measure => simp [intOf]; omega
end Go.Proofs.Ytdgfmkideghhaaa

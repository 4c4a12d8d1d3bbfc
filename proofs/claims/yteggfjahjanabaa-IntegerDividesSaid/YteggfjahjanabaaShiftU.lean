/-
  integer.Shift to the left; of 0; of a large number.
-/
import Derived.Test.YteggfjahjanabaaRaise
import Derived.Test.YteggfjahjanabaaShift
import Derived.Test.YteggfjahjanabaaMul
namespace PB
theorem sg_pow (s : Bool) (X k : Nat) : sg s (X * 2^k) = sg s X * 2^k := by
  unfold sg
  cases s <;> simp [Int.neg_mul]
end PB
namespace Go.Proofs.Yteggfjahjanabaa
open Go.RowKit PB

set_option maxHeartbeats 3200000 in
set_option maxRecDepth 100000 in
theorem shift_up (s : Bool) (base : Option Addr) (b off n c X : Nat) (k : Nat) (w : World) (hb : n ≠ 0 → base = some ⟨b, off, none⟩) (hX : Num w b off n X) (hn : n ≤ c) (hl : n ≤ 1000000000)
    (hs : ¬ 256 < nl X) (h0 : X ≠ 0) (hk2 : k ≤ 8192) (er : Int) (z : Int)
    (hbz : (256 < nl (X * 2^k) ∧ er = 2 ∧ z = 0) ∨ (¬ 256 < nl (X * 2^k) ∧ er = 0 ∧ z = sg s (X * 2^k))) :
    Calls Try.prog 17 #[.agg #[.bool s, .slice base n c], .int .i64 k] w (RetIntE w z er) := by
  have hnX := nl_le hX.lt
  have hz : ((nl X : Int) == 0) = false := by have := mt nl_eq_zero.1 h0; simp; omega
  have HB := Lib.hid hb
  have HZ := Lib.hid hbz
  clear hbz hb h0
  have i1 : ¬ ((8192 : Int) < k) := by omega
  have i2 : (0 : Int) ≤ k := by omega
  go_enter Try.func17, Try.ntmps17
  go_wp2_with fail
  generalize hW : World.alloc _ _ = W
  have B0 : Blk W w.heap.size #[.bool s, .slice base n c] := by rw [← hW]; exact (blk_new rfl).alloc _
  have B1 : Blk W (w.heap.size + 1) #[.bool false, .slice none 0 0] := by rw [← hW]; exact blk_new (by simp)
  have hbW : Below w.heap.size w W := by rw [← hW]; exact ((Below.refl _ _).alloc (Nat.le_refl _) _).alloc (by simp) _
  have HS := Lib.hid (show W.heap.size = w.heap.size + 2 by rw [← hW]; simp)
  clear hW
  obtain ⟨a0, a1⟩ := Blk2 B0
  have hXW := hX.kept hbW
  go_wp2_with (go_at_call 51; refine (cut_any base b off n c X _ HB.out (by exact hXW) hn (by omega)).mono ?_; rintro e w' ⟨rfl, rfl⟩)
  generalize hV : World.alloc _ _ = V
  have hbV : Below W.heap.size W V := by rw [← hV]; exact (Below.refl _ _).alloc (Nat.le_refl _) _
  have B2 : Blk V W.heap.size #[.bool s, .slice base n c] := by rw [← hV]; exact blk_new rfl
  clear hV
  have call := large_one W.heap.size s base b off n c X V (B2.cell 0 _ rfl) (B2.cell 1 _ rfl) HB.out (hXW.kept hbV) hn (by omega)
  rw [decide_eq_false hs] at call
  refine call.mono ?_
  clear call
  rintro e w1 ⟨rfl, hb1⟩
  have hbw1 : Below w.heap.size w w1 := hbW.trans ((hbV.trans (hb1.mono hbV.size)).mono (by have := HS.out; omega))
  have B0' := (B0.kept hbV).kept hb1
  have B1' := (B1.kept hbV).kept hb1
  have HS' := Lib.hid (show w.heap.size + 2 ≤ w1.heap.size by have := HS.out; have := hbV.size; have := hb1.size; omega)
  have HK := Lib.hid (show ∀ w2, Below w1.heap.size w1 w2 → w2.cell? ⟨w.heap.size, 0, none⟩ = some (.bool s) ∧ w2.cell? ⟨w.heap.size, 1, none⟩ = some (.slice base n c) from fun w2 h => Blk2 (B0'.kept h))
  have HL := Lib.hid (show ∀ w2, Below w1.heap.size w1 w2 → Blk w2 (w.heap.size + 1) #[.bool false, .slice none 0 0] from fun w2 h => B1'.kept h)
  have HST := Lib.hid (show ∀ (w4 : World) (u0 u1 : Value), (w4.cell? ⟨w.heap.size, 0, none⟩ = some (.bool s) ∧ w4.cell? ⟨w.heap.size, 1, none⟩ = some (.slice base n c)) →
      (((w4.setCell ⟨w.heap.size + 1, 0, none⟩ u0).setCell ⟨w.heap.size + 1, 1, none⟩ u1).cell? ⟨w.heap.size, 0, none⟩ = some (.bool s) ∧ ((w4.setCell ⟨w.heap.size + 1, 0, none⟩ u0).setCell ⟨w.heap.size + 1, 1, none⟩ u1).cell? ⟨w.heap.size, 1, none⟩ = some (.slice base n c)) from
    fun w4 u0 u1 h => ⟨cell_other (cell_other h.1 (show w.heap.size ≠ w.heap.size + 1 by omega)) (show w.heap.size ≠ w.heap.size + 1 by omega), cell_other (cell_other h.2 (show w.heap.size ≠ w.heap.size + 1 by omega)) (show w.heap.size ≠ w.heap.size + 1 by omega)⟩)
  have hX1 := (hX.kept hbw1).fewer hnX (lt_nl X)
  clear B0 B1 B2 B0' B1' hb1 hbV hbW hXW HS a0 a1
  obtain ⟨a0, a1⟩ := HK.out _ (Below.refl _ _)
  obtain ⟨q, hq⟩ : ∃ q, q = k / 32 := ⟨_, rfl⟩
  obtain ⟨p, hp⟩ : ∃ p, p = k % 32 := ⟨_, rfl⟩
  have hkqp : Hid (k = 32 * q + p ∧ p < 32 ∧ q ≤ 256) := Lib.hid (by omega)
  clear hq hp
  go_wp2_with fail
  go_region_held3 (fun w' => w'.cell? ⟨w.heap.size, 0, none⟩ = some (.bool s) ∧ w'.cell? ⟨w.heap.size, 1, none⟩ = some (.slice base n c))
    (first | exact ⟨a0, a1⟩ | exact HK.out _ hq3 | exact HK.out _ hq2 | exact HK.out _ hq1 | exact HST.out _ _ _ (HK.out _ hq3))
    (first
      | (go_at_call 55; refine (raise_any base b off (nl X) (nl X) X k q p _ (fun h => HB.out (by omega)) (by exact hX1) (by omega) hkqp.out.1 hkqp.out.2.1 (by omega)).mono ?_; rintro e w2 ⟨rfl, hF⟩; have hq1 : Below w1.heap.size w1 w2 := (by first | exact hF.below | exact below_undrew hF.below); have hnum0 : Num w2 w1.heap.size 0 (q + nl X + 1) (X * 2^k) := (by exact hF.num))
      | (go_at_call 49; refine (number_any s _ _ 0 _ _ (X * 2^k) _ (fun _ => rfl) (by exact hnum0) (Nat.le_refl _) (by have := hkqp.out; omega)).mono ?_; rintro e w3 ⟨rfl, hb3⟩
         have hq2 : Below w1.heap.size w1 w3 := hq1.trans (hb3.mono hq1.size)
         have hnum := hnum0.kept hb3
         have hcan : IsCan w1.heap.size w3 (intv s (some ⟨w1.heap.size, 0, none⟩) (X * 2^k)) (sg s (X * 2^k)) := can_intv (n := q + nl X + 1) (fun _ => rfl) hnum (by have := nl_le hnum.lt; have := hkqp.out; omega) (fun _ => by omega)
         obtain ⟨s', q', g, o, Z, m, hv, hq, hZ, hm, hml, hzz, hsz, hgN⟩ := hcan
         rw [hv]
         have HV := Lib.hid hv
         have HZZ := Lib.hid hzz
         clear hv hzz)
      | (go_at_call 47; refine (bounded_any s' q' g o (nl Z) m Z _ hq (by exact hZ) hm (by omega)).mono ?_; rintro e w4 ⟨rfl, hb4⟩
         have hq3 : Below w1.heap.size w1 w4 := hq2.trans (hb4.mono hq2.size)
         obtain ⟨c0, c1⟩ := Blk2 (HL.out _ hq3)
         obtain ⟨f0, f1⟩ := Blk2f (HL.out _ hq3)
         obtain ⟨r', p', k', l', er', hbn⟩ := bnd_form s' q' (nl Z) m Z
         rw [hbn]
         have HBN := Lib.hid hbn
         clear hbn))
  go_wp2_with fail
  have hsize := HS'.out
  have hZX : X * 2^k = Z := by have h := congrArg Int.natAbs HZZ.out; rwa [sg_natAbs, sg_natAbs] at h
  have hbw4 : Below w.heap.size w w4 := hbw1.trans (hq3.mono (by omega))
  refine bodyPost_ret (v := .tuple #[.agg #[.bool r', .slice p' k' l'], .int .i64 er']) (by simp [results, Try.results17, go_sem, c0, c1]) rfl ?_
  rcases HZ.out with ⟨h1, h2, h3⟩ | ⟨h1, h2, h3⟩
  · have h4 := HBN.out
    rw [bnd_big _ (by rw [← hZX]; exact h1)] at h4
    simp only [Value.tuple.injEq, Array.mk.injEq, List.cons.injEq, Value.int.injEq, true_and, and_true] at h4
    rw [← h4.1, ← h4.2, h2, h3]
    exact ⟨_, rfl, can_zero _ _, (hbw4.setCell (by show w.heap.size ≤ w.heap.size + 1; omega) _).setCell (by show w.heap.size ≤ w.heap.size + 1; omega) _⟩
  · have h4 := HBN.out
    rw [bnd_ok _ (by rw [← hZX]; exact h1)] at h4
    simp only [Value.tuple.injEq, Array.mk.injEq, List.cons.injEq, Value.int.injEq, true_and, and_true] at h4
    rw [← h4.1, ← h4.2, h2, h3, HZZ.out]
    have hcan : IsCan w1.heap.size w4 (.agg #[.bool s', .slice q' (nl Z) m]) (sg s' Z) := ⟨s', q', g, o, Z, m, rfl, hq, hZ.kept hb4, hm, hml, rfl, hsz, hgN⟩
    exact ⟨_, rfl, ((hcan.set (by show w.heap.size + 1 < _; omega) _).set (by show w.heap.size + 1 < _; omega) _).mono (by omega), (hbw4.setCell (by show w.heap.size ≤ w.heap.size + 1; omega) _).setCell (by show w.heap.size ≤ w.heap.size + 1; omega) _⟩
end Go.Proofs.Yteggfjahjanabaa

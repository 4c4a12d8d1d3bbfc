/-
  The verifier's Shift (written by wip/genrefbd.py).
-/
import Derived.Test.YtmfimkndonlheaaM31
import Derived.Test.YtmfimkndonlheaaM37
namespace Go.Proofs.Ytmfimkndonlheaa
open Go.RowKit PB

set_option maxHeartbeats 3200000 in
set_option maxRecDepth 100000 in
theorem shiftr_zero (v : Value) (z : Int) (k : Int) (w : World) (h1 : IsInt w v z) (g1 : ¬ 256 < nl z.natAbs) (h0 : z = 0) :
    Calls Try.prog 23 #[v, .int .i64 k] w (RetIntE w 0 0) := by
  obtain ⟨s, base, n, c, rfl, h1⟩ := int_form h1
  have L1 : Hid (∀ W, Below w.heap.size w W → Calls Try.prog 60 #[.agg #[.bool s, .slice base n c]] W (fun e w' => e = .returned (.bool false) ∧ Below W.heap.size W w')) := Lib.hid (fun W h => by
    have := large_ref _ z W (h1.kept h)
    rwa [decide_eq_false g1] at this)
  have L3 := Lib.hid (fun W (h : Below w.heap.size w W) => sign_ref _ z W (h1.kept h))
  have hz : (z.sign == 0) = true := by
    rw [h0]; rfl
  clear h0 h1 g1
  go_enter Try.func23, Try.ntmps23
  go_wp2_with fail
  generalize hW : World.alloc _ _ = W
  have B0 : Blk W w.heap.size #[.bool s, .slice base n c] := by rw [← hW]; exact (blk_new rfl).alloc _
  have B2 : Blk W (w.heap.size + 1) #[.bool false, .slice none 0 0] := by rw [← hW]; exact blk_new (by simp)
  have hbW : Below w.heap.size w W := by rw [← hW]; exact ((Below.refl _ _).alloc (Nat.le_refl _) _).alloc (by simp) _
  have HS := Lib.hid (show w.heap.size + 2 ≤ W.heap.size by rw [← hW]; simp)
  clear hW
  obtain ⟨a0, a1⟩ := Blk2 B0
  go_wp2_with fail
  refine (L1.out W hbW).mono ?_
  rintro e w1 ⟨rfl, hb1⟩
  have Bel1 : Below w.heap.size w w1 := bs_trans hbW hb1
  replace HS := Lib.hid (Nat.le_trans HS.out hb1.size)
  replace B0 := B0.kept hb1
  replace B2 := B2.kept hb1
  obtain ⟨a0, a1⟩ := Blk2 B0
  obtain ⟨r0, r1⟩ := Blk2 B2
  obtain ⟨f0, f1⟩ := Blk2f B2
  clear hb1
  go_wp2_with fail
  refine (L3.out w1 Bel1).mono ?_
  rintro e w2 ⟨rfl, hb2⟩
  have Bel2 : Below w.heap.size w w2 := bs_trans Bel1 hb2
  replace HS := Lib.hid (Nat.le_trans HS.out hb2.size)
  replace B0 := B0.kept hb2
  replace B2 := B2.kept hb2
  obtain ⟨a0, a1⟩ := Blk2 B0
  obtain ⟨r0, r1⟩ := Blk2 B2
  obtain ⟨f0, f1⟩ := Blk2f B2
  clear hb2
  go_wp2_with fail
  exact bodyPost_ret (v := .tuple #[.agg #[.bool false, .slice none 0 0], .int .i64 0]) (by simp [results, Try.results23, go_sem, r0, r1]) rfl
    ⟨_, rfl, can_zero _ _, bs_set (bs_set Bel2 (by show w.heap.size ≤ w.heap.size + 1; omega) _) (by show w.heap.size ≤ w.heap.size + 1; omega) _⟩

set_option maxHeartbeats 3200000 in
set_option maxRecDepth 100000 in
theorem shiftr_down (v : Value) (z : Int) (k : Nat) (hk : 0 < k) (hk2 : k ≤ 8256) (w : World) (h1 : IsInt w v z) (g1 : ¬ 256 < nl z.natAbs) (h0 : z ≠ 0) :
    Calls Try.prog 23 #[v, .int .i64 (-(k : Int))] w (RetIntE w (z / (2^k : Nat)) 0) := by
  obtain ⟨s, base, n, c, rfl, h1⟩ := int_form h1
  have L1 : Hid (∀ W, Below w.heap.size w W → Calls Try.prog 60 #[.agg #[.bool s, .slice base n c]] W (fun e w' => e = .returned (.bool false) ∧ Below W.heap.size W w')) := Lib.hid (fun W h => by
    have := large_ref _ z W (h1.kept h)
    rwa [decide_eq_false g1] at this)
  have L3 := Lib.hid (fun W (h : Below w.heap.size w W) => sign_ref _ z W (h1.kept h))
  have hz : (z.sign == 0) = false := by
    have : z.sign ≠ 0 := fun h => h0 (Int.sign_eq_zero_iff_zero.1 h); simpa using this
  have HD := Lib.hid (fun W (h : Below w.heap.size w W) => down_ref _ z k W (h1.kept h) (by omega) (by omega))
  obtain ⟨Z, hZ⟩ : ∃ Z, z / (2^k : Nat) = Z := ⟨_, rfl⟩
  rw [hZ] at HD ⊢
  have j1 : ¬ (8192 < -(k : Int)) := by omega
  have j2 : ¬ (0 ≤ -(k : Int)) := by omega
  have j3 : ¬ (-(k : Int) < -8256) := by omega
  clear hk
  clear h0 h1 g1 hZ
  go_enter Try.func23, Try.ntmps23
  go_wp2_with fail
  generalize hW : World.alloc _ _ = W
  have B0 : Blk W w.heap.size #[.bool s, .slice base n c] := by rw [← hW]; exact (blk_new rfl).alloc _
  have B2 : Blk W (w.heap.size + 1) #[.bool false, .slice none 0 0] := by rw [← hW]; exact blk_new (by simp)
  have hbW : Below w.heap.size w W := by rw [← hW]; exact ((Below.refl _ _).alloc (Nat.le_refl _) _).alloc (by simp) _
  have HS := Lib.hid (show w.heap.size + 2 ≤ W.heap.size by rw [← hW]; simp)
  clear hW
  obtain ⟨a0, a1⟩ := Blk2 B0
  go_wp2_with fail
  refine (L1.out W hbW).mono ?_
  rintro e w1 ⟨rfl, hb1⟩
  have Bel1 : Below w.heap.size w w1 := bs_trans hbW hb1
  replace HS := Lib.hid (Nat.le_trans HS.out hb1.size)
  replace B0 := B0.kept hb1
  replace B2 := B2.kept hb1
  obtain ⟨a0, a1⟩ := Blk2 B0
  obtain ⟨r0, r1⟩ := Blk2 B2
  obtain ⟨f0, f1⟩ := Blk2f B2
  clear hb1
  go_wp2_with fail
  refine (L3.out w1 Bel1).mono ?_
  rintro e w2 ⟨rfl, hb2⟩
  have Bel2 : Below w.heap.size w w2 := bs_trans Bel1 hb2
  replace HS := Lib.hid (Nat.le_trans HS.out hb2.size)
  replace B0 := B0.kept hb2
  replace B2 := B2.kept hb2
  obtain ⟨a0, a1⟩ := Blk2 B0
  obtain ⟨r0, r1⟩ := Blk2 B2
  obtain ⟨f0, f1⟩ := Blk2f B2
  clear hb2
  have HS2 := HS
  go_wp2_with fail
  refine (HD.out w2 Bel2).mono ?_
  rintro e w3 ⟨u, rfl, hc, hb3⟩
  have Bel3 : Below w.heap.size w w3 := bs_trans Bel2 hb3
  replace HS := Lib.hid (Nat.le_trans HS.out hb3.size)
  replace B0 := B0.kept hb3
  replace B2 := B2.kept hb3
  obtain ⟨a0, a1⟩ := Blk2 B0
  obtain ⟨r0, r1⟩ := Blk2 B2
  obtain ⟨f0, f1⟩ := Blk2f B2
  obtain ⟨s1, q1, c1, rfl⟩ := can_agg hc
  have HC := Lib.hid hc
  clear hc
  clear hb3
  go_wp2_with fail
  have hle := HS2.out
  exact bodyPost_ret (v := .tuple #[.agg #[.bool s1, .slice q1 (nl Z.natAbs) c1], .int .i64 0]) (by simp [results, Try.results23, go_sem, r0, r1]) rfl
    ⟨_, rfl, ((HC.out.set (by show w.heap.size + 1 < w2.heap.size; omega) _).set (by show w.heap.size + 1 < w2.heap.size; omega) _).mono (by omega), bs_set (bs_set Bel3 (by show w.heap.size ≤ w.heap.size + 1; omega) _) (by show w.heap.size ≤ w.heap.size + 1; omega) _⟩

set_option maxHeartbeats 3200000 in
set_option maxRecDepth 100000 in
theorem shiftr_deep (v : Value) (z : Int) (k : Int) (m : Nat) (hm : m = 8256) (hk : k < -8256) (w : World) (h1 : IsInt w v z) (g1 : ¬ 256 < nl z.natAbs) (h0 : z ≠ 0) :
    Calls Try.prog 23 #[v, .int .i64 k] w (RetIntE w (z / (2^m : Nat)) 0) := by
  obtain ⟨s, base, n, c, rfl, h1⟩ := int_form h1
  have L1 : Hid (∀ W, Below w.heap.size w W → Calls Try.prog 60 #[.agg #[.bool s, .slice base n c]] W (fun e w' => e = .returned (.bool false) ∧ Below W.heap.size W w')) := Lib.hid (fun W h => by
    have := large_ref _ z W (h1.kept h)
    rwa [decide_eq_false g1] at this)
  have L3 := Lib.hid (fun W (h : Below w.heap.size w W) => sign_ref _ z W (h1.kept h))
  have hz : (z.sign == 0) = false := by
    have : z.sign ≠ 0 := fun h => h0 (Int.sign_eq_zero_iff_zero.1 h); simpa using this
  have HD := Lib.hid (fun W (h : Below w.heap.size w W) => down_ref _ z m W (h1.kept h) (by omega) (by omega))
  obtain ⟨Z, hZ⟩ : ∃ Z, z / (2^m : Nat) = Z := ⟨_, rfl⟩
  rw [hZ] at HD ⊢
  rw [show ((m : Nat) : Int) = 8256 by omega] at HD
  have j1 : ¬ (8192 < k) := by omega
  have j2 : ¬ (0 ≤ k) := by omega
  clear hm
  clear h0 h1 g1 hZ
  go_enter Try.func23, Try.ntmps23
  go_wp2_with fail
  generalize hW : World.alloc _ _ = W
  have B0 : Blk W w.heap.size #[.bool s, .slice base n c] := by rw [← hW]; exact (blk_new rfl).alloc _
  have B2 : Blk W (w.heap.size + 1) #[.bool false, .slice none 0 0] := by rw [← hW]; exact blk_new (by simp)
  have hbW : Below w.heap.size w W := by rw [← hW]; exact ((Below.refl _ _).alloc (Nat.le_refl _) _).alloc (by simp) _
  have HS := Lib.hid (show w.heap.size + 2 ≤ W.heap.size by rw [← hW]; simp)
  clear hW
  obtain ⟨a0, a1⟩ := Blk2 B0
  go_wp2_with fail
  refine (L1.out W hbW).mono ?_
  rintro e w1 ⟨rfl, hb1⟩
  have Bel1 : Below w.heap.size w w1 := bs_trans hbW hb1
  replace HS := Lib.hid (Nat.le_trans HS.out hb1.size)
  replace B0 := B0.kept hb1
  replace B2 := B2.kept hb1
  obtain ⟨a0, a1⟩ := Blk2 B0
  obtain ⟨r0, r1⟩ := Blk2 B2
  obtain ⟨f0, f1⟩ := Blk2f B2
  clear hb1
  go_wp2_with fail
  refine (L3.out w1 Bel1).mono ?_
  rintro e w2 ⟨rfl, hb2⟩
  have Bel2 : Below w.heap.size w w2 := bs_trans Bel1 hb2
  replace HS := Lib.hid (Nat.le_trans HS.out hb2.size)
  replace B0 := B0.kept hb2
  replace B2 := B2.kept hb2
  obtain ⟨a0, a1⟩ := Blk2 B0
  obtain ⟨r0, r1⟩ := Blk2 B2
  obtain ⟨f0, f1⟩ := Blk2f B2
  clear hb2
  have HS2 := HS
  go_wp2_with fail
  refine (HD.out w2 Bel2).mono ?_
  rintro e w3 ⟨u, rfl, hc, hb3⟩
  have Bel3 : Below w.heap.size w w3 := bs_trans Bel2 hb3
  replace HS := Lib.hid (Nat.le_trans HS.out hb3.size)
  replace B0 := B0.kept hb3
  replace B2 := B2.kept hb3
  obtain ⟨a0, a1⟩ := Blk2 B0
  obtain ⟨r0, r1⟩ := Blk2 B2
  obtain ⟨f0, f1⟩ := Blk2f B2
  obtain ⟨s1, q1, c1, rfl⟩ := can_agg hc
  have HC := Lib.hid hc
  clear hc
  clear hb3
  go_wp2_with fail
  have hle := HS2.out
  exact bodyPost_ret (v := .tuple #[.agg #[.bool s1, .slice q1 (nl Z.natAbs) c1], .int .i64 0]) (by simp [results, Try.results23, go_sem, r0, r1]) rfl
    ⟨_, rfl, ((HC.out.set (by show w.heap.size + 1 < w2.heap.size; omega) _).set (by show w.heap.size + 1 < w2.heap.size; omega) _).mono (by omega), bs_set (bs_set Bel3 (by show w.heap.size ≤ w.heap.size + 1; omega) _) (by show w.heap.size ≤ w.heap.size + 1; omega) _⟩

set_option maxHeartbeats 3200000 in
set_option maxRecDepth 100000 in
theorem shiftr_up (v : Value) (z : Int) (k : Nat) (w : World) (h1 : IsInt w v z) (g1 : ¬ 256 < nl z.natAbs) (h0 : z ≠ 0) (hk : k ≤ 8192) (g2 : ¬ big (z * (2^k : Nat))) :
    Calls Try.prog 23 #[v, .int .i64 k] w (RetIntE w (z * (2^k : Nat)) 0) := by
  have HZ := Lib.hid (fun N va vr W (ha : IsInt W va z) (hc : IsCan N W vr (z * (2^k : Nat))) => sized_ref N va va vr z z (z * (2^k : Nat)) W ha ha hc)
  rw [if_neg (show ¬ (big z ∨ big z ∨ big (z * (2^k : Nat))) from fun h => h.elim g1 (fun h => h.elim g1 g2)), if_neg (show ¬ (big z ∨ big z ∨ big (z * (2^k : Nat))) from fun h => h.elim g1 (fun h => h.elim g1 g2))] at HZ
  obtain ⟨s, base, n, c, rfl, h1⟩ := int_form h1
  have L1 : Hid (∀ W, Below w.heap.size w W → Calls Try.prog 60 #[.agg #[.bool s, .slice base n c]] W (fun e w' => e = .returned (.bool false) ∧ Below W.heap.size W w')) := Lib.hid (fun W h => by
    have := large_ref _ z W (h1.kept h)
    rwa [decide_eq_false g1] at this)
  have L3 := Lib.hid (fun W (h : Below w.heap.size w W) => sign_ref _ z W (h1.kept h))
  have hz : (z.sign == 0) = false := by
    have : z.sign ≠ 0 := fun h => h0 (Int.sign_eq_zero_iff_zero.1 h); simpa using this
  have HA := Lib.hid (fun W (h : Below w.heap.size w W) => h1.kept h)
  have HP := Lib.hid (fun W (h : Below w.heap.size w W) => up_ref _ z k W (h1.kept h) (by omega) (by omega))
  obtain ⟨Z, hZ⟩ : ∃ Z, z * (2^k : Nat) = Z := ⟨_, rfl⟩
  rw [hZ] at HP HZ ⊢
  have j1 : ¬ (8192 < (k : Int)) := by omega
  have j2 : (0 : Int) ≤ k := by omega
  clear h0 h1 g1 g2 hZ hk
  go_enter Try.func23, Try.ntmps23
  go_wp2_with fail
  generalize hW : World.alloc _ _ = W
  have B0 : Blk W w.heap.size #[.bool s, .slice base n c] := by rw [← hW]; exact (blk_new rfl).alloc _
  have B2 : Blk W (w.heap.size + 1) #[.bool false, .slice none 0 0] := by rw [← hW]; exact blk_new (by simp)
  have hbW : Below w.heap.size w W := by rw [← hW]; exact ((Below.refl _ _).alloc (Nat.le_refl _) _).alloc (by simp) _
  have HS := Lib.hid (show w.heap.size + 2 ≤ W.heap.size by rw [← hW]; simp)
  clear hW
  obtain ⟨a0, a1⟩ := Blk2 B0
  go_wp2_with fail
  refine (L1.out W hbW).mono ?_
  rintro e w1 ⟨rfl, hb1⟩
  have Bel1 : Below w.heap.size w w1 := bs_trans hbW hb1
  replace HS := Lib.hid (Nat.le_trans HS.out hb1.size)
  replace B0 := B0.kept hb1
  replace B2 := B2.kept hb1
  obtain ⟨a0, a1⟩ := Blk2 B0
  obtain ⟨r0, r1⟩ := Blk2 B2
  obtain ⟨f0, f1⟩ := Blk2f B2
  clear hb1
  go_wp2_with fail
  refine (L3.out w1 Bel1).mono ?_
  rintro e w2 ⟨rfl, hb2⟩
  have Bel2 : Below w.heap.size w w2 := bs_trans Bel1 hb2
  replace HS := Lib.hid (Nat.le_trans HS.out hb2.size)
  replace B0 := B0.kept hb2
  replace B2 := B2.kept hb2
  obtain ⟨a0, a1⟩ := Blk2 B0
  obtain ⟨r0, r1⟩ := Blk2 B2
  obtain ⟨f0, f1⟩ := Blk2f B2
  clear hb2
  go_wp2_with fail
  clear a0 a1 r0 r1 f0 f1
  have HK := Lib.hid (show ∀ w3, Below w2.heap.size w2 w3 → (w3.cell? ⟨w.heap.size, 0, none⟩ = some (.bool s) ∧ w3.cell? ⟨w.heap.size, 1, none⟩ = some (.slice base n c)) from fun w3 h => Blk2 (B0.kept h))
  have HL := Lib.hid (show ∀ w3, Below w2.heap.size w2 w3 → Blk w3 (w.heap.size + 1) #[.bool false, .slice none 0 0] from fun w3 h => B2.kept h)
  have HK4 := Lib.hid (show ∀ (w4 : World) (u0 u1 : Value), (w4.cell? ⟨w.heap.size, 0, none⟩ = some (.bool s) ∧ w4.cell? ⟨w.heap.size, 1, none⟩ = some (.slice base n c)) → (((w4.setCell ⟨w.heap.size + 1, 0, none⟩ u0).setCell ⟨w.heap.size + 1, 1, none⟩ u1).cell? ⟨w.heap.size, 0, none⟩ = some (.bool s) ∧ ((w4.setCell ⟨w.heap.size + 1, 0, none⟩ u0).setCell ⟨w.heap.size + 1, 1, none⟩ u1).cell? ⟨w.heap.size, 1, none⟩ = some (.slice base n c)) from fun w4 u0 u1 h =>
    ⟨cell_other (cell_other h.1 (show w.heap.size ≠ w.heap.size + 1 by omega)) (show w.heap.size ≠ w.heap.size + 1 by omega), cell_other (cell_other h.2 (show w.heap.size ≠ w.heap.size + 1 by omega)) (show w.heap.size ≠ w.heap.size + 1 by omega)⟩)
  obtain ⟨a0, a1⟩ := HK.out _ (Below.refl _ _)
  have HBW := Lib.hid Bel2
  clear B0 B2 Bel2 Bel1 hbW L1 L3
  go_region_held3 (fun w' => (w'.cell? ⟨w.heap.size, 0, none⟩ = some (.bool s) ∧ w'.cell? ⟨w.heap.size, 1, none⟩ = some (.slice base n c)))
    (first | exact ⟨a0, a1⟩ | exact HK.out _ hq2 | exact HK.out _ hq1 | exact HK4.out _ _ _ (HK.out _ hq2))
    (first
      | (go_at_call 64; refine (HP.out _ (by first | exact HBW.out | exact HBW.out.drew)).mono ?_; rintro e w3 ⟨u1, rfl, hcan1, hb1⟩
         have hq1 : Below w2.heap.size w2 w3 := (by first | exact hb1 | exact below_undrew hb1)
         have HU := Lib.hid (show IsCan w2.heap.size w3 u1 Z from hcan1)
         clear hcan1)
      | (go_at_call 57; refine (HZ.out w2.heap.size _ _ _ (HA.out _ (by exact bs_trans HBW.out hq1)) (by exact HU.out)).mono ?_; rintro e w4 ⟨u2, rfl, hcan2, hb2⟩
         have hq2 : Below w2.heap.size w2 w4 := hq1.trans (hb2.mono hq1.size)
         obtain ⟨s2, q2, m2, c2, rfl, hform⟩ := can_form hcan2
         obtain ⟨r0, r1⟩ := Blk2 (HL.out _ hq2)
         obtain ⟨f0, f1⟩ := Blk2f (HL.out _ hq2)
         have HC := Lib.hid hcan2
         clear hcan2 hform)
      | fail "no arm")
  go_wp2_with fail
  have h1 := HS.out
  exact bodyPost_ret (v := .tuple #[.agg #[.bool s2, .slice q2 m2 c2], .int .i64 0]) (by simp [results, Try.results23, go_sem, r0, r1]) rfl
    ⟨_, rfl, ((HC.out.set (by show w.heap.size + 1 < w2.heap.size; omega) _).set (by show w.heap.size + 1 < w2.heap.size; omega) _).mono (by omega), bs_set (bs_set (bs_trans HBW.out hq2) (by show w.heap.size ≤ w.heap.size + 1; omega) _) (by show w.heap.size ≤ w.heap.size + 1; omega) _⟩
end Go.Proofs.Ytmfimkndonlheaa

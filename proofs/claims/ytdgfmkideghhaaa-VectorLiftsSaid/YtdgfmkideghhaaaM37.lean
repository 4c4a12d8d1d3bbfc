/-
  The verifier's Add, Sub (written by wip/genrefj.py).
  The verifier's Mul (written by wip/genrefk.py).
-/
import Derived.Test.YtdgfmkideghhaaaM30
import Derived.Test.YtdgfmkideghhaaaM36
namespace Go.Proofs.Ytdgfmkideghhaaa
open Go.RowKit PB

set_option maxHeartbeats 3200000 in
set_option maxRecDepth 100000 in
theorem add_ref (v1 v2 : Value) (z1 z2 : Int) (w : World) (h1 : IsInt w v1 z1) (h2 : IsInt w v2 z2) (hs : nl z1.natAbs ≤ 100000) (hs' : nl z2.natAbs ≤ 100000) :
    Calls Try.prog 18 #[v1, v2] w (RetIntE w (if big z1 ∨ big z2 ∨ big (z1 + z2) then 0 else z1 + z2) (if big z1 ∨ big z2 ∨ big (z1 + z2) then 2 else 0)) := by
  obtain ⟨zz, hzz⟩ : ∃ zz, (if big z1 ∨ big z2 ∨ big (z1 + z2) then 0 else z1 + z2) = zz := ⟨_, rfl⟩
  obtain ⟨er, her⟩ : ∃ er : Int, (if big z1 ∨ big z2 ∨ big (z1 + z2) then 2 else 0) = er := ⟨_, rfl⟩
  have HZ := Lib.hid (fun N va vb vr W (ha : IsInt W va z1) (hb : IsInt W vb z2) (hc : IsCan N W vr (z1 + z2)) => sized_ref N va vb vr z1 z2 (z1 + z2) W ha hb hc)
  rw [hzz, her] at HZ
  rw [hzz, her]
  clear hzz her
  obtain ⟨s, base, n, c, rfl, h1⟩ := int_form h1
  obtain ⟨t, base', n', c', rfl, h2⟩ := int_form h2
  have HA := Lib.hid (fun W (h : Below w.heap.size w W) => h1.kept h)
  have HB := Lib.hid (fun W (h : Below w.heap.size w W) => h2.kept h)
  have HP := Lib.hid (fun W (h : Below w.heap.size w W) => plus_ref _ _ z1 z2 W (h1.kept h) (h2.kept h) hs hs')
  clear h1 h2 hs hs'
  obtain ⟨z12, hz12⟩ : ∃ z12, z1 + z2 = z12 := ⟨_, rfl⟩
  rw [hz12] at HP HZ
  clear hz12
  go_enter Try.func18, Try.ntmps18
  go_wp2_with fail
  generalize hW : World.alloc _ _ = W
  have B0 : Blk W w.heap.size #[.bool s, .slice base n c] := by rw [← hW]; exact ((blk_new rfl).alloc _).alloc _
  have B1 : Blk W (w.heap.size + 1) #[.bool t, .slice base' n' c'] := by rw [← hW]; exact (blk_new (by simp)).alloc _
  have B2 : Blk W (w.heap.size + 1 + 1) #[.bool false, .slice none 0 0] := by rw [← hW]; exact blk_new (by simp)
  have hbW : Below w.heap.size w W := by rw [← hW]; exact (((Below.refl _ _).alloc (Nat.le_refl _) _).alloc (by simp) _).alloc (by simp; omega) _
  have HS := Lib.hid (show W.heap.size = w.heap.size + 3 by rw [← hW]; simp)
  clear hW
  have HK := Lib.hid (show ∀ w1, Below W.heap.size W w1 → (w1.cell? ⟨w.heap.size, 0, none⟩ = some (.bool s) ∧ w1.cell? ⟨w.heap.size, 1, none⟩ = some (.slice base n c)) ∧ (w1.cell? ⟨w.heap.size + 1, 0, none⟩ = some (.bool t) ∧ w1.cell? ⟨w.heap.size + 1, 1, none⟩ = some (.slice base' n' c')) from
    fun w1 h => ⟨Blk2 (B0.kept h), Blk2 (B1.kept h)⟩)
  have HL := Lib.hid (show ∀ w3, Below W.heap.size W w3 → Blk w3 (w.heap.size + 1 + 1) #[.bool false, .slice none 0 0] from fun w3 h => B2.kept h)
  have HK4 := Lib.hid (show ∀ (w4 : World) (u0 u1 : Value), ((w4.cell? ⟨w.heap.size, 0, none⟩ = some (.bool s) ∧ w4.cell? ⟨w.heap.size, 1, none⟩ = some (.slice base n c)) ∧ (w4.cell? ⟨w.heap.size + 1, 0, none⟩ = some (.bool t) ∧ w4.cell? ⟨w.heap.size + 1, 1, none⟩ = some (.slice base' n' c'))) → ((((w4.setCell ⟨w.heap.size + 1 + 1, 0, none⟩ u0).setCell ⟨w.heap.size + 1 + 1, 1, none⟩ u1).cell? ⟨w.heap.size, 0, none⟩ = some (.bool s) ∧ ((w4.setCell ⟨w.heap.size + 1 + 1, 0, none⟩ u0).setCell ⟨w.heap.size + 1 + 1, 1, none⟩ u1).cell? ⟨w.heap.size, 1, none⟩ = some (.slice base n c)) ∧ (((w4.setCell ⟨w.heap.size + 1 + 1, 0, none⟩ u0).setCell ⟨w.heap.size + 1 + 1, 1, none⟩ u1).cell? ⟨w.heap.size + 1, 0, none⟩ = some (.bool t) ∧ ((w4.setCell ⟨w.heap.size + 1 + 1, 0, none⟩ u0).setCell ⟨w.heap.size + 1 + 1, 1, none⟩ u1).cell? ⟨w.heap.size + 1, 1, none⟩ = some (.slice base' n' c'))) from fun w4 u0 u1 h =>
    ⟨⟨cell_other (cell_other h.1.1 (show w.heap.size ≠ w.heap.size + 1 + 1 by omega)) (show w.heap.size ≠ w.heap.size + 1 + 1 by omega), cell_other (cell_other h.1.2 (show w.heap.size ≠ w.heap.size + 1 + 1 by omega)) (show w.heap.size ≠ w.heap.size + 1 + 1 by omega)⟩,
      cell_other (cell_other h.2.1 (show w.heap.size + 1 ≠ w.heap.size + 1 + 1 by omega)) (show w.heap.size + 1 ≠ w.heap.size + 1 + 1 by omega), cell_other (cell_other h.2.2 (show w.heap.size + 1 ≠ w.heap.size + 1 + 1 by omega)) (show w.heap.size + 1 ≠ w.heap.size + 1 + 1 by omega)⟩)
  obtain ⟨⟨a0, a1⟩, b0, b1⟩ := HK.out _ (Below.refl _ _)
  have HBW := Lib.hid hbW
  clear B0 B1 B2 hbW
  go_region_held3 (fun w' => (w'.cell? ⟨w.heap.size, 0, none⟩ = some (.bool s) ∧ w'.cell? ⟨w.heap.size, 1, none⟩ = some (.slice base n c)) ∧ (w'.cell? ⟨w.heap.size + 1, 0, none⟩ = some (.bool t) ∧ w'.cell? ⟨w.heap.size + 1, 1, none⟩ = some (.slice base' n' c')))
    (first | exact ⟨⟨a0, a1⟩, b0, b1⟩ | exact HK.out _ hq2 | exact HK.out _ hq1 | exact HK4.out _ _ _ (HK.out _ hq2))
    (first
      | (go_at_call 82; refine (HP.out _ (by first | exact HBW.out | exact HBW.out.drew)).mono ?_; rintro e w1 ⟨u1, rfl, hcan1, hb1⟩
         have hq1 : Below W.heap.size W w1 := (by first | exact hb1 | exact below_undrew hb1)
         have HU := Lib.hid (show IsCan W.heap.size w1 u1 z12 from hcan1)
         clear hcan1)
      | (go_at_call 81; refine (HZ.out W.heap.size _ _ _ _ (HA.out _ (by exact HBW.out.trans (hq1.mono (by have := HS.out; omega)))) (HB.out _ (by exact HBW.out.trans (hq1.mono (by have := HS.out; omega)))) (by exact HU.out)).mono ?_; rintro e w2 ⟨u2, rfl, hcan2, hb2⟩
         have hq2 : Below W.heap.size W w2 := hq1.trans (hb2.mono hq1.size)
         obtain ⟨s2, q2, m2, c2, rfl, hform⟩ := can_form hcan2
         obtain ⟨r0, r1⟩ := Blk2 (HL.out _ hq2)
         obtain ⟨f0, f1⟩ := Blk2f (HL.out _ hq2)
         have HC := Lib.hid hcan2
         clear hcan2 hform))
  go_wp2_with fail
  have h1 := HS.out
  exact bodyPost_ret (v := .tuple #[.agg #[.bool s2, .slice q2 m2 c2], .int .i64 er]) (by simp [results, Try.results18, go_sem, r0, r1]) rfl
    ⟨_, rfl, ((HC.out.set (by show w.heap.size + 1 + 1 < W.heap.size; omega) _).set (by show w.heap.size + 1 + 1 < W.heap.size; omega) _).mono (by omega), ((HBW.out.trans (hq2.mono (by omega))).setCell (by show w.heap.size ≤ w.heap.size + 1 + 1; omega) _).setCell (by show w.heap.size ≤ w.heap.size + 1 + 1; omega) _⟩

set_option maxHeartbeats 3200000 in
set_option maxRecDepth 100000 in
theorem sub_ref (v1 v2 : Value) (z1 z2 : Int) (w : World) (h1 : IsInt w v1 z1) (h2 : IsInt w v2 z2) (hs : nl z1.natAbs ≤ 100000) (hs' : nl z2.natAbs ≤ 100000) :
    Calls Try.prog 19 #[v1, v2] w (RetIntE w (if big z1 ∨ big z2 ∨ big (z1 - z2) then 0 else z1 - z2) (if big z1 ∨ big z2 ∨ big (z1 - z2) then 2 else 0)) := by
  obtain ⟨zz, hzz⟩ : ∃ zz, (if big z1 ∨ big z2 ∨ big (z1 - z2) then 0 else z1 - z2) = zz := ⟨_, rfl⟩
  obtain ⟨er, her⟩ : ∃ er : Int, (if big z1 ∨ big z2 ∨ big (z1 - z2) then 2 else 0) = er := ⟨_, rfl⟩
  have HZ := Lib.hid (fun N va vb vr W (ha : IsInt W va z1) (hb : IsInt W vb z2) (hc : IsCan N W vr (z1 - z2)) => sized_ref N va vb vr z1 z2 (z1 - z2) W ha hb hc)
  rw [hzz, her] at HZ
  rw [hzz, her]
  clear hzz her
  obtain ⟨s, base, n, c, rfl, h1⟩ := int_form h1
  obtain ⟨t, base', n', c', rfl, h2⟩ := int_form h2
  have HA := Lib.hid (fun W (h : Below w.heap.size w W) => h1.kept h)
  have HB := Lib.hid (fun W (h : Below w.heap.size w W) => h2.kept h)
  have HP := Lib.hid (fun W (h : Below w.heap.size w W) => minus_ref _ _ z1 z2 W (h1.kept h) (h2.kept h) hs hs')
  clear h1 h2 hs hs'
  obtain ⟨z12, hz12⟩ : ∃ z12, z1 - z2 = z12 := ⟨_, rfl⟩
  rw [hz12] at HP HZ
  clear hz12
  go_enter Try.func19, Try.ntmps19
  go_wp2_with fail
  generalize hW : World.alloc _ _ = W
  have B0 : Blk W w.heap.size #[.bool s, .slice base n c] := by rw [← hW]; exact ((blk_new rfl).alloc _).alloc _
  have B1 : Blk W (w.heap.size + 1) #[.bool t, .slice base' n' c'] := by rw [← hW]; exact (blk_new (by simp)).alloc _
  have B2 : Blk W (w.heap.size + 1 + 1) #[.bool false, .slice none 0 0] := by rw [← hW]; exact blk_new (by simp)
  have hbW : Below w.heap.size w W := by rw [← hW]; exact (((Below.refl _ _).alloc (Nat.le_refl _) _).alloc (by simp) _).alloc (by simp; omega) _
  have HS := Lib.hid (show W.heap.size = w.heap.size + 3 by rw [← hW]; simp)
  clear hW
  have HK := Lib.hid (show ∀ w1, Below W.heap.size W w1 → (w1.cell? ⟨w.heap.size, 0, none⟩ = some (.bool s) ∧ w1.cell? ⟨w.heap.size, 1, none⟩ = some (.slice base n c)) ∧ (w1.cell? ⟨w.heap.size + 1, 0, none⟩ = some (.bool t) ∧ w1.cell? ⟨w.heap.size + 1, 1, none⟩ = some (.slice base' n' c')) from
    fun w1 h => ⟨Blk2 (B0.kept h), Blk2 (B1.kept h)⟩)
  have HL := Lib.hid (show ∀ w3, Below W.heap.size W w3 → Blk w3 (w.heap.size + 1 + 1) #[.bool false, .slice none 0 0] from fun w3 h => B2.kept h)
  have HK4 := Lib.hid (show ∀ (w4 : World) (u0 u1 : Value), ((w4.cell? ⟨w.heap.size, 0, none⟩ = some (.bool s) ∧ w4.cell? ⟨w.heap.size, 1, none⟩ = some (.slice base n c)) ∧ (w4.cell? ⟨w.heap.size + 1, 0, none⟩ = some (.bool t) ∧ w4.cell? ⟨w.heap.size + 1, 1, none⟩ = some (.slice base' n' c'))) → ((((w4.setCell ⟨w.heap.size + 1 + 1, 0, none⟩ u0).setCell ⟨w.heap.size + 1 + 1, 1, none⟩ u1).cell? ⟨w.heap.size, 0, none⟩ = some (.bool s) ∧ ((w4.setCell ⟨w.heap.size + 1 + 1, 0, none⟩ u0).setCell ⟨w.heap.size + 1 + 1, 1, none⟩ u1).cell? ⟨w.heap.size, 1, none⟩ = some (.slice base n c)) ∧ (((w4.setCell ⟨w.heap.size + 1 + 1, 0, none⟩ u0).setCell ⟨w.heap.size + 1 + 1, 1, none⟩ u1).cell? ⟨w.heap.size + 1, 0, none⟩ = some (.bool t) ∧ ((w4.setCell ⟨w.heap.size + 1 + 1, 0, none⟩ u0).setCell ⟨w.heap.size + 1 + 1, 1, none⟩ u1).cell? ⟨w.heap.size + 1, 1, none⟩ = some (.slice base' n' c'))) from fun w4 u0 u1 h =>
    ⟨⟨cell_other (cell_other h.1.1 (show w.heap.size ≠ w.heap.size + 1 + 1 by omega)) (show w.heap.size ≠ w.heap.size + 1 + 1 by omega), cell_other (cell_other h.1.2 (show w.heap.size ≠ w.heap.size + 1 + 1 by omega)) (show w.heap.size ≠ w.heap.size + 1 + 1 by omega)⟩,
      cell_other (cell_other h.2.1 (show w.heap.size + 1 ≠ w.heap.size + 1 + 1 by omega)) (show w.heap.size + 1 ≠ w.heap.size + 1 + 1 by omega), cell_other (cell_other h.2.2 (show w.heap.size + 1 ≠ w.heap.size + 1 + 1 by omega)) (show w.heap.size + 1 ≠ w.heap.size + 1 + 1 by omega)⟩)
  obtain ⟨⟨a0, a1⟩, b0, b1⟩ := HK.out _ (Below.refl _ _)
  have HBW := Lib.hid hbW
  clear B0 B1 B2 hbW
  go_region_held3 (fun w' => (w'.cell? ⟨w.heap.size, 0, none⟩ = some (.bool s) ∧ w'.cell? ⟨w.heap.size, 1, none⟩ = some (.slice base n c)) ∧ (w'.cell? ⟨w.heap.size + 1, 0, none⟩ = some (.bool t) ∧ w'.cell? ⟨w.heap.size + 1, 1, none⟩ = some (.slice base' n' c')))
    (first | exact ⟨⟨a0, a1⟩, b0, b1⟩ | exact HK.out _ hq2 | exact HK.out _ hq1 | exact HK4.out _ _ _ (HK.out _ hq2))
    (first
      | (go_at_call 83; refine (HP.out _ (by first | exact HBW.out | exact HBW.out.drew)).mono ?_; rintro e w1 ⟨u1, rfl, hcan1, hb1⟩
         have hq1 : Below W.heap.size W w1 := (by first | exact hb1 | exact below_undrew hb1)
         have HU := Lib.hid (show IsCan W.heap.size w1 u1 z12 from hcan1)
         clear hcan1)
      | (go_at_call 81; refine (HZ.out W.heap.size _ _ _ _ (HA.out _ (by exact HBW.out.trans (hq1.mono (by have := HS.out; omega)))) (HB.out _ (by exact HBW.out.trans (hq1.mono (by have := HS.out; omega)))) (by exact HU.out)).mono ?_; rintro e w2 ⟨u2, rfl, hcan2, hb2⟩
         have hq2 : Below W.heap.size W w2 := hq1.trans (hb2.mono hq1.size)
         obtain ⟨s2, q2, m2, c2, rfl, hform⟩ := can_form hcan2
         obtain ⟨r0, r1⟩ := Blk2 (HL.out _ hq2)
         obtain ⟨f0, f1⟩ := Blk2f (HL.out _ hq2)
         have HC := Lib.hid hcan2
         clear hcan2 hform))
  go_wp2_with fail
  have h1 := HS.out
  exact bodyPost_ret (v := .tuple #[.agg #[.bool s2, .slice q2 m2 c2], .int .i64 er]) (by simp [results, Try.results19, go_sem, r0, r1]) rfl
    ⟨_, rfl, ((HC.out.set (by show w.heap.size + 1 + 1 < W.heap.size; omega) _).set (by show w.heap.size + 1 + 1 < W.heap.size; omega) _).mono (by omega), ((HBW.out.trans (hq2.mono (by omega))).setCell (by show w.heap.size ≤ w.heap.size + 1 + 1; omega) _).setCell (by show w.heap.size ≤ w.heap.size + 1 + 1; omega) _⟩
end Go.Proofs.Ytdgfmkideghhaaa

namespace Go.Proofs.Ytdgfmkideghhaaa
open Go.RowKit PB

set_option maxHeartbeats 3200000 in
set_option maxRecDepth 100000 in
theorem mulr_1 (v1 v2 : Value) (z1 z2 : Int) (w : World) (h1 : IsInt w v1 z1) (h2 : IsInt w v2 z2) (g1 : 256 < nl z1.natAbs) :
    Calls Try.prog 20 #[v1, v2] w (RetIntE w 0 2) := by
  obtain ⟨s, base, n, c, rfl, h1⟩ := int_form h1
  obtain ⟨t, base', n', c', rfl, h2⟩ := int_form h2
  have L1 : Hid (∀ W, Below w.heap.size w W → Calls Try.prog 84 #[.agg #[.bool s, .slice base n c]] W (fun e w' => e = .returned (.bool true) ∧ Below W.heap.size W w')) := Lib.hid (fun W h => by
    have := large_ref _ z1 W (h1.kept h)
    rwa [decide_eq_true g1] at this)
  clear h1 h2
  go_enter Try.func20, Try.ntmps20
  go_wp2_with fail
  generalize hW : World.alloc _ _ = W
  have B0 : Blk W w.heap.size #[.bool s, .slice base n c] := by rw [← hW]; exact ((blk_new rfl).alloc _).alloc _
  have B1 : Blk W (w.heap.size + 1) #[.bool t, .slice base' n' c'] := by rw [← hW]; exact (blk_new (by simp)).alloc _
  have B2 : Blk W (w.heap.size + 1 + 1) #[.bool false, .slice none 0 0] := by rw [← hW]; exact blk_new (by simp)
  have hbW : Below w.heap.size w W := by rw [← hW]; exact (((Below.refl _ _).alloc (Nat.le_refl _) _).alloc (by simp) _).alloc (by simp; omega) _
  have HS := Lib.hid (show W.heap.size = w.heap.size + 3 by rw [← hW]; simp)
  clear hW
  obtain ⟨a0, a1⟩ := Blk2 B0
  obtain ⟨b0, b1⟩ := Blk2 B1
  go_wp2_with fail
  refine (L1.out W hbW).mono ?_
  rintro e w1 ⟨rfl, hb1⟩
  have Bel1 : Below w.heap.size w w1 := bs_trans hbW hb1
  have HS1 := Lib.hid (show w.heap.size + 3 ≤ w1.heap.size by have := HS.out; have := hb1.size; omega)
  replace B0 := B0.kept hb1
  replace B1 := B1.kept hb1
  replace B2 := B2.kept hb1
  obtain ⟨a0, a1⟩ := Blk2 B0
  obtain ⟨b0, b1⟩ := Blk2 B1
  obtain ⟨r0, r1⟩ := Blk2 B2
  obtain ⟨f0, f1⟩ := Blk2f B2
  clear hb1
  go_wp2_with fail
  exact bodyPost_ret (v := .tuple #[.agg #[.bool false, .slice none 0 0], .int .i64 2]) (by simp [results, Try.results20, go_sem, r0, r1]) rfl
    ⟨_, rfl, can_zero _ _, (Bel1.setCell (by show w.heap.size ≤ w.heap.size + 1 + 1; omega) _).setCell (by show w.heap.size ≤ w.heap.size + 1 + 1; omega) _⟩

set_option maxHeartbeats 3200000 in
set_option maxRecDepth 100000 in
theorem mulr_2 (v1 v2 : Value) (z1 z2 : Int) (w : World) (h1 : IsInt w v1 z1) (h2 : IsInt w v2 z2) (g1 : ¬ 256 < nl z1.natAbs) (g2 : 256 < nl z2.natAbs) :
    Calls Try.prog 20 #[v1, v2] w (RetIntE w 0 2) := by
  obtain ⟨s, base, n, c, rfl, h1⟩ := int_form h1
  obtain ⟨t, base', n', c', rfl, h2⟩ := int_form h2
  have L1 : Hid (∀ W, Below w.heap.size w W → Calls Try.prog 84 #[.agg #[.bool s, .slice base n c]] W (fun e w' => e = .returned (.bool false) ∧ Below W.heap.size W w')) := Lib.hid (fun W h => by
    have := large_ref _ z1 W (h1.kept h)
    rwa [decide_eq_false g1] at this)
  have L2 : Hid (∀ W, Below w.heap.size w W → Calls Try.prog 84 #[.agg #[.bool t, .slice base' n' c']] W (fun e w' => e = .returned (.bool true) ∧ Below W.heap.size W w')) := Lib.hid (fun W h => by
    have := large_ref _ z2 W (h2.kept h)
    rwa [decide_eq_true g2] at this)
  clear h1 h2
  go_enter Try.func20, Try.ntmps20
  go_wp2_with fail
  generalize hW : World.alloc _ _ = W
  have B0 : Blk W w.heap.size #[.bool s, .slice base n c] := by rw [← hW]; exact ((blk_new rfl).alloc _).alloc _
  have B1 : Blk W (w.heap.size + 1) #[.bool t, .slice base' n' c'] := by rw [← hW]; exact (blk_new (by simp)).alloc _
  have B2 : Blk W (w.heap.size + 1 + 1) #[.bool false, .slice none 0 0] := by rw [← hW]; exact blk_new (by simp)
  have hbW : Below w.heap.size w W := by rw [← hW]; exact (((Below.refl _ _).alloc (Nat.le_refl _) _).alloc (by simp) _).alloc (by simp; omega) _
  have HS := Lib.hid (show W.heap.size = w.heap.size + 3 by rw [← hW]; simp)
  clear hW
  obtain ⟨a0, a1⟩ := Blk2 B0
  obtain ⟨b0, b1⟩ := Blk2 B1
  go_wp2_with fail
  refine (L1.out W hbW).mono ?_
  rintro e w1 ⟨rfl, hb1⟩
  have Bel1 : Below w.heap.size w w1 := bs_trans hbW hb1
  have HS1 := Lib.hid (show w.heap.size + 3 ≤ w1.heap.size by have := HS.out; have := hb1.size; omega)
  replace B0 := B0.kept hb1
  replace B1 := B1.kept hb1
  replace B2 := B2.kept hb1
  obtain ⟨a0, a1⟩ := Blk2 B0
  obtain ⟨b0, b1⟩ := Blk2 B1
  obtain ⟨r0, r1⟩ := Blk2 B2
  obtain ⟨f0, f1⟩ := Blk2f B2
  clear hb1
  go_wp2_with fail
  refine (L2.out w1 Bel1).mono ?_
  rintro e w2 ⟨rfl, hb2⟩
  have Bel2 : Below w.heap.size w w2 := bs_trans Bel1 hb2
  have HS2 := Lib.hid (show w.heap.size + 3 ≤ w2.heap.size by have := HS1.out; have := hb2.size; omega)
  replace B0 := B0.kept hb2
  replace B1 := B1.kept hb2
  replace B2 := B2.kept hb2
  obtain ⟨a0, a1⟩ := Blk2 B0
  obtain ⟨b0, b1⟩ := Blk2 B1
  obtain ⟨r0, r1⟩ := Blk2 B2
  obtain ⟨f0, f1⟩ := Blk2f B2
  clear hb2
  go_wp2_with fail
  exact bodyPost_ret (v := .tuple #[.agg #[.bool false, .slice none 0 0], .int .i64 2]) (by simp [results, Try.results20, go_sem, r0, r1]) rfl
    ⟨_, rfl, can_zero _ _, (Bel2.setCell (by show w.heap.size ≤ w.heap.size + 1 + 1; omega) _).setCell (by show w.heap.size ≤ w.heap.size + 1 + 1; omega) _⟩

set_option maxHeartbeats 3200000 in
set_option maxRecDepth 100000 in
theorem mulr_3 (v1 v2 : Value) (z1 z2 : Int) (w : World) (h1 : IsInt w v1 z1) (h2 : IsInt w v2 z2) (g1 : ¬ 256 < nl z1.natAbs) (g2 : ¬ 256 < nl z2.natAbs) :
    Calls Try.prog 20 #[v1, v2] w (RetIntE w (if big z1 ∨ big z2 ∨ big (z1 * z2) then 0 else z1 * z2) (if big z1 ∨ big z2 ∨ big (z1 * z2) then 2 else 0)) := by
  obtain ⟨zz, hzz⟩ : ∃ zz, (if big z1 ∨ big z2 ∨ big (z1 * z2) then 0 else z1 * z2) = zz := ⟨_, rfl⟩
  obtain ⟨er, her⟩ : ∃ er : Int, (if big z1 ∨ big z2 ∨ big (z1 * z2) then 2 else 0) = er := ⟨_, rfl⟩
  have HZ := Lib.hid (fun N va vb vr W (ha : IsInt W va z1) (hb : IsInt W vb z2) (hc : IsCan N W vr (z1 * z2)) => sized_ref N va vb vr z1 z2 (z1 * z2) W ha hb hc)
  rw [hzz, her] at HZ
  rw [hzz, her]
  clear hzz her
  obtain ⟨s, base, n, c, rfl, h1⟩ := int_form h1
  obtain ⟨t, base', n', c', rfl, h2⟩ := int_form h2
  have HA := Lib.hid (fun W (h : Below w.heap.size w W) => h1.kept h)
  have HB := Lib.hid (fun W (h : Below w.heap.size w W) => h2.kept h)
  have HP := Lib.hid (fun W (h : Below w.heap.size w W) => times_ref _ _ z1 z2 W (h1.kept h) (h2.kept h) (by omega) (by omega))
  have L1 : Hid (∀ W, Below w.heap.size w W → Calls Try.prog 84 #[.agg #[.bool s, .slice base n c]] W (fun e w' => e = .returned (.bool false) ∧ Below W.heap.size W w')) := Lib.hid (fun W h => by
    have := large_ref _ z1 W (h1.kept h)
    rwa [decide_eq_false g1] at this)
  have L2 : Hid (∀ W, Below w.heap.size w W → Calls Try.prog 84 #[.agg #[.bool t, .slice base' n' c']] W (fun e w' => e = .returned (.bool false) ∧ Below W.heap.size W w')) := Lib.hid (fun W h => by
    have := large_ref _ z2 W (h2.kept h)
    rwa [decide_eq_false g2] at this)
  clear h1 h2 g1 g2
  obtain ⟨z12, hz12⟩ : ∃ z12, z1 * z2 = z12 := ⟨_, rfl⟩
  rw [hz12] at HP HZ
  clear hz12
  go_enter Try.func20, Try.ntmps20
  go_wp2_with fail
  generalize hW : World.alloc _ _ = W
  have B0 : Blk W w.heap.size #[.bool s, .slice base n c] := by rw [← hW]; exact ((blk_new rfl).alloc _).alloc _
  have B1 : Blk W (w.heap.size + 1) #[.bool t, .slice base' n' c'] := by rw [← hW]; exact (blk_new (by simp)).alloc _
  have B2 : Blk W (w.heap.size + 1 + 1) #[.bool false, .slice none 0 0] := by rw [← hW]; exact blk_new (by simp)
  have hbW : Below w.heap.size w W := by rw [← hW]; exact (((Below.refl _ _).alloc (Nat.le_refl _) _).alloc (by simp) _).alloc (by simp; omega) _
  have HS := Lib.hid (show W.heap.size = w.heap.size + 3 by rw [← hW]; simp)
  clear hW
  obtain ⟨a0, a1⟩ := Blk2 B0
  obtain ⟨b0, b1⟩ := Blk2 B1
  go_wp2_with fail
  refine (L1.out W hbW).mono ?_
  rintro e w1 ⟨rfl, hb1⟩
  have Bel1 : Below w.heap.size w w1 := bs_trans hbW hb1
  have HS1 := Lib.hid (show w.heap.size + 3 ≤ w1.heap.size by have := HS.out; have := hb1.size; omega)
  replace B0 := B0.kept hb1
  replace B1 := B1.kept hb1
  replace B2 := B2.kept hb1
  obtain ⟨a0, a1⟩ := Blk2 B0
  obtain ⟨b0, b1⟩ := Blk2 B1
  obtain ⟨r0, r1⟩ := Blk2 B2
  obtain ⟨f0, f1⟩ := Blk2f B2
  clear hb1
  go_wp2_with fail
  refine (L2.out w1 Bel1).mono ?_
  rintro e w2 ⟨rfl, hb2⟩
  have Bel2 : Below w.heap.size w w2 := bs_trans Bel1 hb2
  have HS2 := Lib.hid (show w.heap.size + 3 ≤ w2.heap.size by have := HS1.out; have := hb2.size; omega)
  replace B0 := B0.kept hb2
  replace B1 := B1.kept hb2
  replace B2 := B2.kept hb2
  obtain ⟨a0, a1⟩ := Blk2 B0
  obtain ⟨b0, b1⟩ := Blk2 B1
  obtain ⟨r0, r1⟩ := Blk2 B2
  obtain ⟨f0, f1⟩ := Blk2f B2
  clear hb2
  go_wp2_with fail
  clear HS HS1 Bel1 hbW L1 L2
  have HS := HS2
  have hbW := Bel2
  clear HS2 Bel2 a0 a1 b0 b1 r0 r1 f0 f1
  generalize w2 = W at *
  have HK := Lib.hid (show ∀ w1, Below W.heap.size W w1 → (w1.cell? ⟨w.heap.size, 0, none⟩ = some (.bool s) ∧ w1.cell? ⟨w.heap.size, 1, none⟩ = some (.slice base n c)) ∧ (w1.cell? ⟨w.heap.size + 1, 0, none⟩ = some (.bool t) ∧ w1.cell? ⟨w.heap.size + 1, 1, none⟩ = some (.slice base' n' c')) from
    fun w1 h => ⟨Blk2 (B0.kept h), Blk2 (B1.kept h)⟩)
  have HL := Lib.hid (show ∀ w3, Below W.heap.size W w3 → Blk w3 (w.heap.size + 1 + 1) #[.bool false, .slice none 0 0] from fun w3 h => B2.kept h)
  have HK4 := Lib.hid (show ∀ (w4 : World) (u0 u1 : Value), ((w4.cell? ⟨w.heap.size, 0, none⟩ = some (.bool s) ∧ w4.cell? ⟨w.heap.size, 1, none⟩ = some (.slice base n c)) ∧ (w4.cell? ⟨w.heap.size + 1, 0, none⟩ = some (.bool t) ∧ w4.cell? ⟨w.heap.size + 1, 1, none⟩ = some (.slice base' n' c'))) → ((((w4.setCell ⟨w.heap.size + 1 + 1, 0, none⟩ u0).setCell ⟨w.heap.size + 1 + 1, 1, none⟩ u1).cell? ⟨w.heap.size, 0, none⟩ = some (.bool s) ∧ ((w4.setCell ⟨w.heap.size + 1 + 1, 0, none⟩ u0).setCell ⟨w.heap.size + 1 + 1, 1, none⟩ u1).cell? ⟨w.heap.size, 1, none⟩ = some (.slice base n c)) ∧ (((w4.setCell ⟨w.heap.size + 1 + 1, 0, none⟩ u0).setCell ⟨w.heap.size + 1 + 1, 1, none⟩ u1).cell? ⟨w.heap.size + 1, 0, none⟩ = some (.bool t) ∧ ((w4.setCell ⟨w.heap.size + 1 + 1, 0, none⟩ u0).setCell ⟨w.heap.size + 1 + 1, 1, none⟩ u1).cell? ⟨w.heap.size + 1, 1, none⟩ = some (.slice base' n' c'))) from fun w4 u0 u1 h =>
    ⟨⟨cell_other (cell_other h.1.1 (show w.heap.size ≠ w.heap.size + 1 + 1 by omega)) (show w.heap.size ≠ w.heap.size + 1 + 1 by omega), cell_other (cell_other h.1.2 (show w.heap.size ≠ w.heap.size + 1 + 1 by omega)) (show w.heap.size ≠ w.heap.size + 1 + 1 by omega)⟩,
      cell_other (cell_other h.2.1 (show w.heap.size + 1 ≠ w.heap.size + 1 + 1 by omega)) (show w.heap.size + 1 ≠ w.heap.size + 1 + 1 by omega), cell_other (cell_other h.2.2 (show w.heap.size + 1 ≠ w.heap.size + 1 + 1 by omega)) (show w.heap.size + 1 ≠ w.heap.size + 1 + 1 by omega)⟩)
  obtain ⟨⟨a0, a1⟩, b0, b1⟩ := HK.out _ (Below.refl _ _)
  have HBW := Lib.hid hbW
  clear B0 B1 B2 hbW
  go_region_held3 (fun w' => (w'.cell? ⟨w.heap.size, 0, none⟩ = some (.bool s) ∧ w'.cell? ⟨w.heap.size, 1, none⟩ = some (.slice base n c)) ∧ (w'.cell? ⟨w.heap.size + 1, 0, none⟩ = some (.bool t) ∧ w'.cell? ⟨w.heap.size + 1, 1, none⟩ = some (.slice base' n' c')))
    (first | exact ⟨⟨a0, a1⟩, b0, b1⟩ | exact HK.out _ hq2 | exact HK.out _ hq1 | exact HK4.out _ _ _ (HK.out _ hq2))
    (first
      | (go_at_call 85; refine (HP.out _ (by first | exact HBW.out | exact HBW.out.drew)).mono ?_; rintro e w3 ⟨u1, rfl, hcan1, hb1⟩
         have hq1 : Below W.heap.size W w3 := (by first | exact hb1 | exact below_undrew hb1)
         have HU := Lib.hid (show IsCan W.heap.size w3 u1 z12 from hcan1)
         clear hcan1)
      | (go_at_call 81; refine (HZ.out W.heap.size _ _ _ _ (HA.out _ (by exact HBW.out.trans (hq1.mono (by have := HS.out; omega)))) (HB.out _ (by exact HBW.out.trans (hq1.mono (by have := HS.out; omega)))) (by exact HU.out)).mono ?_; rintro e w4 ⟨u2, rfl, hcan2, hb2⟩
         have hq2 : Below W.heap.size W w4 := hq1.trans (hb2.mono hq1.size)
         obtain ⟨s2, q2, m2, c2, rfl, hform⟩ := can_form hcan2
         obtain ⟨r0, r1⟩ := Blk2 (HL.out _ hq2)
         obtain ⟨f0, f1⟩ := Blk2f (HL.out _ hq2)
         have HC := Lib.hid hcan2
         clear hcan2 hform))
  go_wp2_with fail
  have h1 := HS.out
  exact bodyPost_ret (v := .tuple #[.agg #[.bool s2, .slice q2 m2 c2], .int .i64 er]) (by simp [results, Try.results20, go_sem, r0, r1]) rfl
    ⟨_, rfl, ((HC.out.set (by show w.heap.size + 1 + 1 < W.heap.size; omega) _).set (by show w.heap.size + 1 + 1 < W.heap.size; omega) _).mono (by omega), ((HBW.out.trans (hq2.mono (by omega))).setCell (by show w.heap.size ≤ w.heap.size + 1 + 1; omega) _).setCell (by show w.heap.size ≤ w.heap.size + 1 + 1; omega) _⟩

theorem mul_ref (v1 v2 : Value) (z1 z2 : Int) (w : World) (h1 : IsInt w v1 z1) (h2 : IsInt w v2 z2) :
    Calls Try.prog 20 #[v1, v2] w (RetIntE w (if big z1 ∨ big z2 ∨ big (z1 * z2) then 0 else z1 * z2) (if big z1 ∨ big z2 ∨ big (z1 * z2) then 2 else 0)) := by
  by_cases g1 : 256 < nl z1.natAbs
  · have h : big z1 ∨ big z2 ∨ big (z1 * z2) := Or.inl g1
    rw [if_pos h, if_pos h]; exact mulr_1 v1 v2 z1 z2 w h1 h2 g1
  · by_cases g2 : 256 < nl z2.natAbs
    · have h : big z1 ∨ big z2 ∨ big (z1 * z2) := Or.inr (Or.inl g2)
      rw [if_pos h, if_pos h]; exact mulr_2 v1 v2 z1 z2 w h1 h2 g1 g2
    · exact mulr_3 v1 v2 z1 z2 w h1 h2 g1 g2
end Go.Proofs.Ytdgfmkideghhaaa

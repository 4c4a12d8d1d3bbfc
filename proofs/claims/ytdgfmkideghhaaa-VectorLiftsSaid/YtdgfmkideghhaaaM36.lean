/-
  The verifier's Times and sized (written by wip/genrefh.py).
  The verifier's sized (written by wip/genrefi.py).
-/
import Derived.Test.YtdgfmkideghhaaaM35
namespace Go.Proofs.Ytdgfmkideghhaaa
open Go.RowKit PB

set_option maxHeartbeats 3200000 in
set_option maxRecDepth 100000 in
theorem times_ref (v1 v2 : Value) (z1 z2 : Int) (w : World) (h1 : IsInt w v1 z1) (h2 : IsInt w v2 z2) (hs : nl z1.natAbs ≤ 100000) (hs' : nl z2.natAbs ≤ 100000) :
    Calls Try.prog 85 #[v1, v2] w (RetInt w (z1 * z2)) := by
  obtain ⟨s, base, b, off, n, c, X, rfl, hb, hX, hn, hl, rfl⟩ := h1
  obtain ⟨t, base', b', off', n', c', Y, rfl, hb', hY, hn', hl', rfl⟩ := h2
  rw [sg_natAbs] at hs hs'
  rw [show sg s X * sg t Y = sg (!(s == t)) (X * Y) from sg_mul _ _ _ _]
  obtain ⟨st, hst⟩ : ∃ st, (!(s == t)) = st := ⟨_, rfl⟩
  rw [hst]
  have HB := Lib.hid hb
  have HB' := Lib.hid hb'
  clear hb hb'
  go_enter Try.func85, Try.ntmps85
  go_wp2_with fail
  generalize hW : World.alloc _ _ = W
  have B0 : Blk W w.heap.size #[.bool s, .slice base n c] := by rw [← hW]; exact ((blk_new rfl).alloc _).alloc _
  have B1 : Blk W (w.heap.size + 1) #[.bool t, .slice base' n' c'] := by rw [← hW]; exact (blk_new (by simp)).alloc _
  have B2 : Blk W (w.heap.size + 1 + 1) #[.bool false, .slice none 0 0] := by rw [← hW]; exact blk_new (by simp)
  have hbW : Below w.heap.size w W := by rw [← hW]; exact (((Below.refl _ _).alloc (Nat.le_refl _) _).alloc (by simp) _).alloc (by simp; omega) _
  have HS := Lib.hid (show W.heap.size = w.heap.size + 3 by rw [← hW]; simp)
  clear hW
  have HK := Lib.hid (show ∀ w1, Below W.heap.size W w1 → (w1.cell? ⟨w.heap.size, 0, none⟩ = some (.bool s) ∧ w1.cell? ⟨w.heap.size, 1, none⟩ = some (.slice base n c)) ∧ (w1.cell? ⟨w.heap.size + 1, 0, none⟩ = some (.bool t) ∧ w1.cell? ⟨w.heap.size + 1, 1, none⟩ = some (.slice base' n' c')) from
    fun w1 h => ⟨Blk2 (B0.kept h), Blk2 (B1.kept h)⟩)
  have HL := Lib.hid (show ∀ w3, Below W.heap.size W w3 → Blk w3 (w.heap.size + 1 + 1) #[.bool false, .slice none 0 0] from fun w3 h => B2.kept h)
  have HK4 := Lib.hid (show ∀ (w4 : World) (u0 u1 : Value), ((w4.cell? ⟨w.heap.size, 0, none⟩ = some (.bool s) ∧ w4.cell? ⟨w.heap.size, 1, none⟩ = some (.slice base n c)) ∧ (w4.cell? ⟨w.heap.size + 1, 0, none⟩ = some (.bool t) ∧ w4.cell? ⟨w.heap.size + 1, 1, none⟩ = some (.slice base' n' c'))) → ((((w4.setCell ⟨w.heap.size + 1 + 1, 0, none⟩ u0).setCell ⟨w.heap.size + 1 + 1, 1, none⟩ u1).cell? ⟨w.heap.size, 0, none⟩ = some (.bool s) ∧ ((w4.setCell ⟨w.heap.size + 1 + 1, 0, none⟩ u0).setCell ⟨w.heap.size + 1 + 1, 1, none⟩ u1).cell? ⟨w.heap.size, 1, none⟩ = some (.slice base n c)) ∧ (((w4.setCell ⟨w.heap.size + 1 + 1, 0, none⟩ u0).setCell ⟨w.heap.size + 1 + 1, 1, none⟩ u1).cell? ⟨w.heap.size + 1, 0, none⟩ = some (.bool t) ∧ ((w4.setCell ⟨w.heap.size + 1 + 1, 0, none⟩ u0).setCell ⟨w.heap.size + 1 + 1, 1, none⟩ u1).cell? ⟨w.heap.size + 1, 1, none⟩ = some (.slice base' n' c'))) from fun w4 u0 u1 h =>
    ⟨⟨cell_other (cell_other h.1.1 (show w.heap.size ≠ w.heap.size + 1 + 1 by omega)) (show w.heap.size ≠ w.heap.size + 1 + 1 by omega), cell_other (cell_other h.1.2 (show w.heap.size ≠ w.heap.size + 1 + 1 by omega)) (show w.heap.size ≠ w.heap.size + 1 + 1 by omega)⟩,
      cell_other (cell_other h.2.1 (show w.heap.size + 1 ≠ w.heap.size + 1 + 1 by omega)) (show w.heap.size + 1 ≠ w.heap.size + 1 + 1 by omega), cell_other (cell_other h.2.2 (show w.heap.size + 1 ≠ w.heap.size + 1 + 1 by omega)) (show w.heap.size + 1 ≠ w.heap.size + 1 + 1 by omega)⟩)
  obtain ⟨⟨a0, a1⟩, b0, b1⟩ := HK.out _ (Below.refl _ _)
  have HXW := Lib.hid (fun W1 (h : Below W.heap.size W W1) => (hX.kept hbW).kept h)
  have HYW := Lib.hid (fun W1 (h : Below W.heap.size W W1) => (hY.kept hbW).kept h)
  have HBW := Lib.hid hbW
  clear B0 B1 B2 hbW
  go_region_held3 (fun w' => (w'.cell? ⟨w.heap.size, 0, none⟩ = some (.bool s) ∧ w'.cell? ⟨w.heap.size, 1, none⟩ = some (.slice base n c)) ∧ (w'.cell? ⟨w.heap.size + 1, 0, none⟩ = some (.bool t) ∧ w'.cell? ⟨w.heap.size + 1, 1, none⟩ = some (.slice base' n' c')))
    (first | exact ⟨⟨a0, a1⟩, b0, b1⟩ | exact HK.out _ hq4 | exact HK.out _ hq3 | exact HK.out _ hq2 | exact HK.out _ hq1 | exact HK4.out _ _ _ (HK.out _ hq4))
    (first
      | (go_at_call_of 91 (Value.slice base n c); refine (mag_any base b off n c X _ HB.out (HXW.out _ (by first | exact Below.refl _ _ | exact (Below.refl _ _).drew)) hn hl).mono ?_; rintro e w1 ⟨v1, rfl, hown1, hb1⟩
         have hq1 : Below W.heap.size W w1 := (by first | exact hb1 | exact below_undrew hb1)
         obtain ⟨m1, g1, d1, rfl, hm1, hd1, hN1, hF1, hG1⟩ := own_slice hown1
         clear hown1)
      | (go_at_call_of 91 (Value.slice base' n' c'); refine (mag_any base' b' off' n' c' Y _ HB'.out (HYW.out _ (by exact hq1)) hn' hl').mono ?_; rintro e w2 ⟨v2, rfl, hown2, hb2⟩
         have hq2 : Below W.heap.size W w2 := hq1.trans (hb2.mono hq1.size)
         have hN1' := hN1.kept hb2
         obtain ⟨m2, g2, d2, rfl, hm2, hd2, hN2, hF2, hG2⟩ := own_slice hown2
         clear hown2)
      | (go_at_call 128; refine (mulmag_any m1 m2 g1 0 (nl X) d1 X g2 0 (nl Y) d2 Y _ hm1 hm2 (by exact hN1') (by exact hN2) (by omega) (by omega)).mono ?_; rintro e w3 ⟨rfl, hF⟩
         have hb3 : Below w2.heap.size w2 w3 := (by first | exact hF.below | exact below_undrew hF.below)
         have hq3 : Below W.heap.size W w3 := hq2.trans (hb3.mono hq2.size)
         have hN3 : Num w3 w2.heap.size 0 (nl X + nl Y) (X * Y) := (by exact hF.num))
      | (go_at_call 90; refine (make1_any st _ w2.heap.size 0 _ _ (X * Y) _ (fun _ => rfl) (by exact hN3) (Nat.le_refl _) (by omega)).mono ?_; rintro e w4 ⟨u, rfl, hcan, hb4⟩
         have hq4 : Below W.heap.size W w4 := hq3.trans (hb4.mono hq3.size)
         obtain ⟨s1, q1, c1, rfl⟩ := can_agg hcan
         obtain ⟨r0, r1⟩ := Blk2 (HL.out _ hq4)
         obtain ⟨f0, f1⟩ := Blk2f (HL.out _ hq4)
         have HC := Lib.hid (hcan.mono (show W.heap.size ≤ _ from hq3.size))
         clear hcan))
  go_wp2_with fail
  have h1 := HS.out
  exact bodyPost_ret (v := .agg #[.bool s1, .slice q1 _ c1]) (by simp [results, Try.results85, go_sem, r0, r1]) rfl
    ⟨_, rfl, ((HC.out.set (by show w.heap.size + 1 + 1 < W.heap.size; omega) _).set (by show w.heap.size + 1 + 1 < W.heap.size; omega) _).mono (by omega), ((HBW.out.trans (hq4.mono (by omega))).setCell (by show w.heap.size ≤ w.heap.size + 1 + 1; omega) _).setCell (by show w.heap.size ≤ w.heap.size + 1 + 1; omega) _⟩
end Go.Proofs.Ytdgfmkideghhaaa

namespace PB
open Go Go.RowKit
/-- A number that is canonical from N on, and an error. -/
def RetCanE (N : Nat) (w : World) (z er : Int) (e : Ending) (w' : World) : Prop := ∃ u, e = .returned (.tuple #[u, .int .i64 er]) ∧ IsCan N w' u z ∧ Below w.heap.size w w'
end PB
namespace Go.Proofs.Ytdgfmkideghhaaa
open Go.RowKit PB

set_option maxHeartbeats 3200000 in
set_option maxRecDepth 100000 in
theorem sized_1 (N : Nat) (v1 v2 v3 : Value) (z1 z2 z3 : Int) (w : World) (h1 : IsInt w v1 z1) (h2 : IsInt w v2 z2) (h3 : IsCan N w v3 z3) (g1 : 256 < nl z1.natAbs) :
    Calls Try.prog 81 #[v1, v2, v3] w (RetCanE N w 0 2) := by
  obtain ⟨s, base, n, c, rfl, h1⟩ := int_form h1
  obtain ⟨t, base', n', c', rfl, h2⟩ := int_form h2
  obtain ⟨r, base3, c3, rfl⟩ := can_agg h3
  have H3 := Lib.hid h3
  have h3 := h3.int
  obtain ⟨n3, hn3⟩ : ∃ n3, nl z3.natAbs = n3 := ⟨_, rfl⟩
  rw [hn3] at h3 H3
  try rw [hn3]
  have L1 : Hid (∀ W, Below w.heap.size w W → Calls Try.prog 84 #[.agg #[.bool s, .slice base n c]] W (fun e w' => e = .returned (.bool true) ∧ Below W.heap.size W w')) := Lib.hid (fun W h => by
    have := large_ref _ z1 W (h1.kept h)
    rwa [decide_eq_true g1] at this)
  clear h1 h2 h3
  go_enter Try.func81, Try.ntmps81
  go_wp2_with fail
  generalize hW : World.alloc _ _ = W
  have B0 : Blk W w.heap.size #[.bool s, .slice base n c] := by rw [← hW]; exact (((blk_new rfl).alloc _).alloc _).alloc _
  have B1 : Blk W (w.heap.size + 1) #[.bool t, .slice base' n' c'] := by rw [← hW]; exact ((blk_new (by simp)).alloc _).alloc _
  have B2 : Blk W (w.heap.size + 1 + 1) #[.bool r, .slice base3 n3 c3] := by rw [← hW]; exact (blk_new (by simp)).alloc _
  have B3 : Blk W (w.heap.size + 1 + 1 + 1) #[.bool false, .slice none 0 0] := by rw [← hW]; exact blk_new (by simp)
  have hbW : Below w.heap.size w W := by rw [← hW]; exact ((((Below.refl _ _).alloc (Nat.le_refl _) _).alloc (by simp) _).alloc (by simp; omega) _).alloc (by simp; omega) _
  have HS := Lib.hid (show W.heap.size = w.heap.size + 4 by rw [← hW]; simp)
  clear hW
  obtain ⟨a0, a1⟩ := Blk2 B0
  obtain ⟨b0, b1⟩ := Blk2 B1
  obtain ⟨d0, d1⟩ := Blk2 B2
  go_wp2_with fail
  refine (L1.out W hbW).mono ?_
  rintro e w1 ⟨rfl, hb1⟩
  have Bel1 : Below w.heap.size w w1 := bs_trans hbW hb1
  replace B0 := B0.kept hb1
  replace B1 := B1.kept hb1
  replace B2 := B2.kept hb1
  replace B3 := B3.kept hb1
  obtain ⟨a0, a1⟩ := Blk2 B0
  obtain ⟨b0, b1⟩ := Blk2 B1
  obtain ⟨d0, d1⟩ := Blk2 B2
  obtain ⟨r0, r1⟩ := Blk2 B3
  obtain ⟨f0, f1⟩ := Blk2f B3
  clear hb1 hbW
  go_wp2_with fail
  exact bodyPost_ret (v := .tuple #[.agg #[.bool false, .slice none 0 0], .int .i64 2]) (by simp [results, Try.results81, go_sem, r0, r1]) rfl
    ⟨_, rfl, can_zero _ _, (Bel1.setCell (by show w.heap.size ≤ w.heap.size + 1 + 1 + 1; omega) _).setCell (by show w.heap.size ≤ w.heap.size + 1 + 1 + 1; omega) _⟩

set_option maxHeartbeats 3200000 in
set_option maxRecDepth 100000 in
theorem sized_2 (N : Nat) (v1 v2 v3 : Value) (z1 z2 z3 : Int) (w : World) (h1 : IsInt w v1 z1) (h2 : IsInt w v2 z2) (h3 : IsCan N w v3 z3) (g1 : ¬ 256 < nl z1.natAbs) (g2 : 256 < nl z2.natAbs) :
    Calls Try.prog 81 #[v1, v2, v3] w (RetCanE N w 0 2) := by
  obtain ⟨s, base, n, c, rfl, h1⟩ := int_form h1
  obtain ⟨t, base', n', c', rfl, h2⟩ := int_form h2
  obtain ⟨r, base3, c3, rfl⟩ := can_agg h3
  have H3 := Lib.hid h3
  have h3 := h3.int
  obtain ⟨n3, hn3⟩ : ∃ n3, nl z3.natAbs = n3 := ⟨_, rfl⟩
  rw [hn3] at h3 H3
  try rw [hn3]
  have L1 : Hid (∀ W, Below w.heap.size w W → Calls Try.prog 84 #[.agg #[.bool s, .slice base n c]] W (fun e w' => e = .returned (.bool false) ∧ Below W.heap.size W w')) := Lib.hid (fun W h => by
    have := large_ref _ z1 W (h1.kept h)
    rwa [decide_eq_false g1] at this)
  have L2 : Hid (∀ W, Below w.heap.size w W → Calls Try.prog 84 #[.agg #[.bool t, .slice base' n' c']] W (fun e w' => e = .returned (.bool true) ∧ Below W.heap.size W w')) := Lib.hid (fun W h => by
    have := large_ref _ z2 W (h2.kept h)
    rwa [decide_eq_true g2] at this)
  clear h1 h2 h3
  go_enter Try.func81, Try.ntmps81
  go_wp2_with fail
  generalize hW : World.alloc _ _ = W
  have B0 : Blk W w.heap.size #[.bool s, .slice base n c] := by rw [← hW]; exact (((blk_new rfl).alloc _).alloc _).alloc _
  have B1 : Blk W (w.heap.size + 1) #[.bool t, .slice base' n' c'] := by rw [← hW]; exact ((blk_new (by simp)).alloc _).alloc _
  have B2 : Blk W (w.heap.size + 1 + 1) #[.bool r, .slice base3 n3 c3] := by rw [← hW]; exact (blk_new (by simp)).alloc _
  have B3 : Blk W (w.heap.size + 1 + 1 + 1) #[.bool false, .slice none 0 0] := by rw [← hW]; exact blk_new (by simp)
  have hbW : Below w.heap.size w W := by rw [← hW]; exact ((((Below.refl _ _).alloc (Nat.le_refl _) _).alloc (by simp) _).alloc (by simp; omega) _).alloc (by simp; omega) _
  have HS := Lib.hid (show W.heap.size = w.heap.size + 4 by rw [← hW]; simp)
  clear hW
  obtain ⟨a0, a1⟩ := Blk2 B0
  obtain ⟨b0, b1⟩ := Blk2 B1
  obtain ⟨d0, d1⟩ := Blk2 B2
  go_wp2_with fail
  refine (L1.out W hbW).mono ?_
  rintro e w1 ⟨rfl, hb1⟩
  have Bel1 : Below w.heap.size w w1 := bs_trans hbW hb1
  replace B0 := B0.kept hb1
  replace B1 := B1.kept hb1
  replace B2 := B2.kept hb1
  replace B3 := B3.kept hb1
  obtain ⟨a0, a1⟩ := Blk2 B0
  obtain ⟨b0, b1⟩ := Blk2 B1
  obtain ⟨d0, d1⟩ := Blk2 B2
  obtain ⟨r0, r1⟩ := Blk2 B3
  obtain ⟨f0, f1⟩ := Blk2f B3
  clear hb1 hbW
  go_wp2_with fail
  refine (L2.out w1 Bel1).mono ?_
  rintro e w2 ⟨rfl, hb2⟩
  have Bel2 : Below w.heap.size w w2 := bs_trans Bel1 hb2
  replace B0 := B0.kept hb2
  replace B1 := B1.kept hb2
  replace B2 := B2.kept hb2
  replace B3 := B3.kept hb2
  obtain ⟨a0, a1⟩ := Blk2 B0
  obtain ⟨b0, b1⟩ := Blk2 B1
  obtain ⟨d0, d1⟩ := Blk2 B2
  obtain ⟨r0, r1⟩ := Blk2 B3
  obtain ⟨f0, f1⟩ := Blk2f B3
  clear hb2 Bel1
  go_wp2_with fail
  exact bodyPost_ret (v := .tuple #[.agg #[.bool false, .slice none 0 0], .int .i64 2]) (by simp [results, Try.results81, go_sem, r0, r1]) rfl
    ⟨_, rfl, can_zero _ _, (Bel2.setCell (by show w.heap.size ≤ w.heap.size + 1 + 1 + 1; omega) _).setCell (by show w.heap.size ≤ w.heap.size + 1 + 1 + 1; omega) _⟩

set_option maxHeartbeats 3200000 in
set_option maxRecDepth 100000 in
theorem sized_3 (N : Nat) (v1 v2 v3 : Value) (z1 z2 z3 : Int) (w : World) (h1 : IsInt w v1 z1) (h2 : IsInt w v2 z2) (h3 : IsCan N w v3 z3) (g1 : ¬ 256 < nl z1.natAbs) (g2 : ¬ 256 < nl z2.natAbs) (g3 : 256 < nl z3.natAbs) :
    Calls Try.prog 81 #[v1, v2, v3] w (RetCanE N w 0 2) := by
  obtain ⟨s, base, n, c, rfl, h1⟩ := int_form h1
  obtain ⟨t, base', n', c', rfl, h2⟩ := int_form h2
  obtain ⟨r, base3, c3, rfl⟩ := can_agg h3
  have H3 := Lib.hid h3
  have h3 := h3.int
  obtain ⟨n3, hn3⟩ : ∃ n3, nl z3.natAbs = n3 := ⟨_, rfl⟩
  rw [hn3] at h3 H3
  try rw [hn3]
  have L1 : Hid (∀ W, Below w.heap.size w W → Calls Try.prog 84 #[.agg #[.bool s, .slice base n c]] W (fun e w' => e = .returned (.bool false) ∧ Below W.heap.size W w')) := Lib.hid (fun W h => by
    have := large_ref _ z1 W (h1.kept h)
    rwa [decide_eq_false g1] at this)
  have L2 : Hid (∀ W, Below w.heap.size w W → Calls Try.prog 84 #[.agg #[.bool t, .slice base' n' c']] W (fun e w' => e = .returned (.bool false) ∧ Below W.heap.size W w')) := Lib.hid (fun W h => by
    have := large_ref _ z2 W (h2.kept h)
    rwa [decide_eq_false g2] at this)
  have L3 : Hid (∀ W, Below w.heap.size w W → Calls Try.prog 84 #[.agg #[.bool r, .slice base3 n3 c3]] W (fun e w' => e = .returned (.bool true) ∧ Below W.heap.size W w')) := Lib.hid (fun W h => by
    have := large_ref _ z3 W (h3.kept h)
    rwa [decide_eq_true g3] at this)
  clear h1 h2 h3
  go_enter Try.func81, Try.ntmps81
  go_wp2_with fail
  generalize hW : World.alloc _ _ = W
  have B0 : Blk W w.heap.size #[.bool s, .slice base n c] := by rw [← hW]; exact (((blk_new rfl).alloc _).alloc _).alloc _
  have B1 : Blk W (w.heap.size + 1) #[.bool t, .slice base' n' c'] := by rw [← hW]; exact ((blk_new (by simp)).alloc _).alloc _
  have B2 : Blk W (w.heap.size + 1 + 1) #[.bool r, .slice base3 n3 c3] := by rw [← hW]; exact (blk_new (by simp)).alloc _
  have B3 : Blk W (w.heap.size + 1 + 1 + 1) #[.bool false, .slice none 0 0] := by rw [← hW]; exact blk_new (by simp)
  have hbW : Below w.heap.size w W := by rw [← hW]; exact ((((Below.refl _ _).alloc (Nat.le_refl _) _).alloc (by simp) _).alloc (by simp; omega) _).alloc (by simp; omega) _
  have HS := Lib.hid (show W.heap.size = w.heap.size + 4 by rw [← hW]; simp)
  clear hW
  obtain ⟨a0, a1⟩ := Blk2 B0
  obtain ⟨b0, b1⟩ := Blk2 B1
  obtain ⟨d0, d1⟩ := Blk2 B2
  go_wp2_with fail
  refine (L1.out W hbW).mono ?_
  rintro e w1 ⟨rfl, hb1⟩
  have Bel1 : Below w.heap.size w w1 := bs_trans hbW hb1
  replace B0 := B0.kept hb1
  replace B1 := B1.kept hb1
  replace B2 := B2.kept hb1
  replace B3 := B3.kept hb1
  obtain ⟨a0, a1⟩ := Blk2 B0
  obtain ⟨b0, b1⟩ := Blk2 B1
  obtain ⟨d0, d1⟩ := Blk2 B2
  obtain ⟨r0, r1⟩ := Blk2 B3
  obtain ⟨f0, f1⟩ := Blk2f B3
  clear hb1 hbW
  go_wp2_with fail
  refine (L2.out w1 Bel1).mono ?_
  rintro e w2 ⟨rfl, hb2⟩
  have Bel2 : Below w.heap.size w w2 := bs_trans Bel1 hb2
  replace B0 := B0.kept hb2
  replace B1 := B1.kept hb2
  replace B2 := B2.kept hb2
  replace B3 := B3.kept hb2
  obtain ⟨a0, a1⟩ := Blk2 B0
  obtain ⟨b0, b1⟩ := Blk2 B1
  obtain ⟨d0, d1⟩ := Blk2 B2
  obtain ⟨r0, r1⟩ := Blk2 B3
  obtain ⟨f0, f1⟩ := Blk2f B3
  clear hb2 Bel1
  go_wp2_with fail
  refine (L3.out w2 Bel2).mono ?_
  rintro e w3 ⟨rfl, hb3⟩
  have Bel3 : Below w.heap.size w w3 := bs_trans Bel2 hb3
  replace B0 := B0.kept hb3
  replace B1 := B1.kept hb3
  replace B2 := B2.kept hb3
  replace B3 := B3.kept hb3
  obtain ⟨a0, a1⟩ := Blk2 B0
  obtain ⟨b0, b1⟩ := Blk2 B1
  obtain ⟨d0, d1⟩ := Blk2 B2
  obtain ⟨r0, r1⟩ := Blk2 B3
  obtain ⟨f0, f1⟩ := Blk2f B3
  clear hb3 Bel2
  go_wp2_with fail
  exact bodyPost_ret (v := .tuple #[.agg #[.bool false, .slice none 0 0], .int .i64 2]) (by simp [results, Try.results81, go_sem, r0, r1]) rfl
    ⟨_, rfl, can_zero _ _, (Bel3.setCell (by show w.heap.size ≤ w.heap.size + 1 + 1 + 1; omega) _).setCell (by show w.heap.size ≤ w.heap.size + 1 + 1 + 1; omega) _⟩

set_option maxHeartbeats 3200000 in
set_option maxRecDepth 100000 in
theorem sized_4 (N : Nat) (v1 v2 v3 : Value) (z1 z2 z3 : Int) (w : World) (h1 : IsInt w v1 z1) (h2 : IsInt w v2 z2) (h3 : IsCan N w v3 z3) (g1 : ¬ 256 < nl z1.natAbs) (g2 : ¬ 256 < nl z2.natAbs) (g3 : ¬ 256 < nl z3.natAbs) :
    Calls Try.prog 81 #[v1, v2, v3] w (RetCanE N w z3 0) := by
  obtain ⟨s, base, n, c, rfl, h1⟩ := int_form h1
  obtain ⟨t, base', n', c', rfl, h2⟩ := int_form h2
  obtain ⟨r, base3, c3, rfl⟩ := can_agg h3
  have H3 := Lib.hid h3
  have h3 := h3.int
  obtain ⟨n3, hn3⟩ : ∃ n3, nl z3.natAbs = n3 := ⟨_, rfl⟩
  rw [hn3] at h3 H3
  try rw [hn3]
  have L1 : Hid (∀ W, Below w.heap.size w W → Calls Try.prog 84 #[.agg #[.bool s, .slice base n c]] W (fun e w' => e = .returned (.bool false) ∧ Below W.heap.size W w')) := Lib.hid (fun W h => by
    have := large_ref _ z1 W (h1.kept h)
    rwa [decide_eq_false g1] at this)
  have L2 : Hid (∀ W, Below w.heap.size w W → Calls Try.prog 84 #[.agg #[.bool t, .slice base' n' c']] W (fun e w' => e = .returned (.bool false) ∧ Below W.heap.size W w')) := Lib.hid (fun W h => by
    have := large_ref _ z2 W (h2.kept h)
    rwa [decide_eq_false g2] at this)
  have L3 : Hid (∀ W, Below w.heap.size w W → Calls Try.prog 84 #[.agg #[.bool r, .slice base3 n3 c3]] W (fun e w' => e = .returned (.bool false) ∧ Below W.heap.size W w')) := Lib.hid (fun W h => by
    have := large_ref _ z3 W (h3.kept h)
    rwa [decide_eq_false g3] at this)
  clear h1 h2 h3
  go_enter Try.func81, Try.ntmps81
  go_wp2_with fail
  generalize hW : World.alloc _ _ = W
  have B0 : Blk W w.heap.size #[.bool s, .slice base n c] := by rw [← hW]; exact (((blk_new rfl).alloc _).alloc _).alloc _
  have B1 : Blk W (w.heap.size + 1) #[.bool t, .slice base' n' c'] := by rw [← hW]; exact ((blk_new (by simp)).alloc _).alloc _
  have B2 : Blk W (w.heap.size + 1 + 1) #[.bool r, .slice base3 n3 c3] := by rw [← hW]; exact (blk_new (by simp)).alloc _
  have B3 : Blk W (w.heap.size + 1 + 1 + 1) #[.bool false, .slice none 0 0] := by rw [← hW]; exact blk_new (by simp)
  have hbW : Below w.heap.size w W := by rw [← hW]; exact ((((Below.refl _ _).alloc (Nat.le_refl _) _).alloc (by simp) _).alloc (by simp; omega) _).alloc (by simp; omega) _
  have HS := Lib.hid (show W.heap.size = w.heap.size + 4 by rw [← hW]; simp)
  clear hW
  obtain ⟨a0, a1⟩ := Blk2 B0
  obtain ⟨b0, b1⟩ := Blk2 B1
  obtain ⟨d0, d1⟩ := Blk2 B2
  go_wp2_with fail
  refine (L1.out W hbW).mono ?_
  rintro e w1 ⟨rfl, hb1⟩
  have Bel1 : Below w.heap.size w w1 := bs_trans hbW hb1
  replace B0 := B0.kept hb1
  replace B1 := B1.kept hb1
  replace B2 := B2.kept hb1
  replace B3 := B3.kept hb1
  obtain ⟨a0, a1⟩ := Blk2 B0
  obtain ⟨b0, b1⟩ := Blk2 B1
  obtain ⟨d0, d1⟩ := Blk2 B2
  obtain ⟨r0, r1⟩ := Blk2 B3
  obtain ⟨f0, f1⟩ := Blk2f B3
  clear hb1 hbW
  go_wp2_with fail
  refine (L2.out w1 Bel1).mono ?_
  rintro e w2 ⟨rfl, hb2⟩
  have Bel2 : Below w.heap.size w w2 := bs_trans Bel1 hb2
  replace B0 := B0.kept hb2
  replace B1 := B1.kept hb2
  replace B2 := B2.kept hb2
  replace B3 := B3.kept hb2
  obtain ⟨a0, a1⟩ := Blk2 B0
  obtain ⟨b0, b1⟩ := Blk2 B1
  obtain ⟨d0, d1⟩ := Blk2 B2
  obtain ⟨r0, r1⟩ := Blk2 B3
  obtain ⟨f0, f1⟩ := Blk2f B3
  clear hb2 Bel1
  go_wp2_with fail
  refine (L3.out w2 Bel2).mono ?_
  rintro e w3 ⟨rfl, hb3⟩
  have Bel3 : Below w.heap.size w w3 := bs_trans Bel2 hb3
  replace B0 := B0.kept hb3
  replace B1 := B1.kept hb3
  replace B2 := B2.kept hb3
  replace B3 := B3.kept hb3
  obtain ⟨a0, a1⟩ := Blk2 B0
  obtain ⟨b0, b1⟩ := Blk2 B1
  obtain ⟨d0, d1⟩ := Blk2 B2
  obtain ⟨r0, r1⟩ := Blk2 B3
  obtain ⟨f0, f1⟩ := Blk2f B3
  clear hb3 Bel2
  go_wp2_with fail
  have hfin := (Bel3.setCell (show w.heap.size ≤ (⟨w.heap.size + 1 + 1 + 1, 0, none⟩ : Addr).block by show w.heap.size ≤ w.heap.size + 1 + 1 + 1; omega) (.bool r)).setCell (show w.heap.size ≤ (⟨w.heap.size + 1 + 1 + 1, 1, none⟩ : Addr).block by show w.heap.size ≤ w.heap.size + 1 + 1 + 1; omega) (.slice base3 n3 c3)
  exact bodyPost_ret (v := .tuple #[.agg #[.bool r, .slice base3 n3 c3], .int .i64 0]) (by simp [results, Try.results81, go_sem, r0, r1]) rfl
    ⟨_, rfl, H3.out.kept hfin, hfin⟩

/-- sized: the number, or ErrSize. -/
theorem sized_ref (N : Nat) (v1 v2 v3 : Value) (z1 z2 z3 : Int) (w : World) (h1 : IsInt w v1 z1) (h2 : IsInt w v2 z2) (h3 : IsCan N w v3 z3) :
    Calls Try.prog 81 #[v1, v2, v3] w (RetCanE N w (if big z1 ∨ big z2 ∨ big z3 then 0 else z3) (if big z1 ∨ big z2 ∨ big z3 then 2 else 0)) := by
  by_cases g1 : 256 < nl z1.natAbs
  · have h : big z1 ∨ big z2 ∨ big z3 := Or.inl g1
    rw [if_pos h, if_pos h]; exact sized_1 N v1 v2 v3 z1 z2 z3 w h1 h2 h3 g1
  · by_cases g2 : 256 < nl z2.natAbs
    · have h : big z1 ∨ big z2 ∨ big z3 := Or.inr (Or.inl g2)
      rw [if_pos h, if_pos h]; exact sized_2 N v1 v2 v3 z1 z2 z3 w h1 h2 h3 g1 g2
    · by_cases g3 : 256 < nl z3.natAbs
      · have h : big z1 ∨ big z2 ∨ big z3 := Or.inr (Or.inr g3)
        rw [if_pos h, if_pos h]; exact sized_3 N v1 v2 v3 z1 z2 z3 w h1 h2 h3 g1 g2 g3
      · have h : ¬ (big z1 ∨ big z2 ∨ big z3) := by rintro (h | h | h); exact g1 h; exact g2 h; exact g3 h
        rw [if_neg h, if_neg h]; exact sized_4 N v1 v2 v3 z1 z2 z3 w h1 h2 h3 g1 g2 g3
end Go.Proofs.Ytdgfmkideghhaaa

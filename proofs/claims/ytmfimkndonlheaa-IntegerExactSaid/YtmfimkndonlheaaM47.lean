/-
  The verifier's Common: Euclid's algorithm.
-/
import Derived.Test.YtmfimkndonlheaaM46
namespace Go.Proofs.Ytmfimkndonlheaa
open Go.RowKit PB

set_option maxHeartbeats 6400000 in
set_option maxRecDepth 100000 in
theorem common_ref (v1 v2 : Value) (z1 z2 : Int) (w : World) (h1 : IsInt w v1 z1) (h2 : IsInt w v2 z2) (hs : nl z1.natAbs ≤ 90000) (hs' : nl z2.natAbs ≤ 90000) :
    Calls Try.prog 63 #[v1, v2] w (RetInt w (Nat.gcd z1.natAbs z2.natAbs)) := by
  obtain ⟨s, base, b, off, n, c, X, rfl, hb, hX, hn, hl, rfl⟩ := h1
  obtain ⟨t, base', b', off', n', c', Y, rfl, hb', hY, hn', hl', rfl⟩ := h2
  rw [sg_natAbs] at hs hs'
  rw [sg_natAbs, sg_natAbs]
  have HB := Lib.hid hb
  have HB' := Lib.hid hb'
  have HLX := Lib.hid hs
  have HLY := Lib.hid hs'
  obtain ⟨G, hG⟩ : ∃ G, Nat.gcd X Y = G := ⟨_, rfl⟩
  have HG := Lib.hid hG
  rw [hG]
  clear hb hb' hs hs' hG
  go_enter Try.func63, Try.ntmps63
  go_upto_region 1 with fail
  generalize hW : World.alloc _ _ = W
  have B0 : Blk W w.heap.size #[.bool s, .slice base n c] := by rw [← hW]; exact ((blk_new rfl).alloc _).alloc _
  have B1 : Blk W (w.heap.size + 1) #[.bool t, .slice base' n' c'] := by rw [← hW]; exact (blk_new (by simp)).alloc _
  have B2 : Blk W (w.heap.size + 1 + 1) #[.bool false, .slice none 0 0] := by rw [← hW]; exact blk_new (by simp)
  have hbW : Below w.heap.size w W := by rw [← hW]; exact (((Below.refl _ _).alloc (Nat.le_refl _) _).alloc (by simp) _).alloc (by simp; omega) _
  have HS := Lib.hid (show W.heap.size = w.heap.size + 3 by rw [← hW]; simp)
  clear hW
  have HK := Lib.hid (show ∀ w1, Below W.heap.size W w1 → (w1.cell? ⟨w.heap.size, 0, none⟩ = some (.bool s) ∧ w1.cell? ⟨w.heap.size, 1, none⟩ = some (.slice base n c)) ∧ (w1.cell? ⟨w.heap.size + 1, 0, none⟩ = some (.bool t) ∧ w1.cell? ⟨w.heap.size + 1, 1, none⟩ = some (.slice base' n' c')) from
    fun w1 h => ⟨Blk2 (B0.kept h), Blk2 (B1.kept h)⟩)
  have HL := Lib.hid (show ∀ w3, Below W.heap.size W w3 → Blk w3 (w.heap.size + 1 + 1) #[.bool false, .slice none 0 0] from fun w3 h => B2.kept h)
  obtain ⟨⟨a0, a1⟩, b0, b1⟩ := HK.out _ (Below.refl _ _)
  have HXW := Lib.hid (fun W1 (h : Below W.heap.size W W1) => (hX.kept hbW).kept h)
  have HYW := Lib.hid (fun W1 (h : Below W.heap.size W W1) => (hY.kept hbW).kept h)
  have HBW := Lib.hid hbW
  have hq0 : Below W.heap.size W W := Below.refl _ _
  clear B0 B1 B2 hbW
  go_cut [5, 6] (fun s5 s6 wx => ∃ P Q : Nat, s5 = .pointer (some ⟨P, 0, none⟩) ∧ s6 = .pointer (some ⟨Q, 0, none⟩) ∧ CSt w.heap.size P Q G wx X Y ∧ Below w.heap.size w wx)
  case first =>
    go_region_held3 (fun w' => (w'.cell? ⟨w.heap.size, 0, none⟩ = some (.bool s) ∧ w'.cell? ⟨w.heap.size, 1, none⟩ = some (.slice base n c)) ∧ (w'.cell? ⟨w.heap.size + 1, 0, none⟩ = some (.bool t) ∧ w'.cell? ⟨w.heap.size + 1, 1, none⟩ = some (.slice base' n' c')))
      (first | exact ⟨⟨a0, a1⟩, b0, b1⟩ | (refine HK.out _ ?_; (repeat (first | with_reducible assumption | with_reducible exact Below.refl _ _ | with_reducible refine bs_alloc ?_ _ | with_reducible refine bs_drew ?_ | (with_reducible refine bs_set ?_ ?_ _) | go_size))))
      (first
        | (go_at_call_of 66 (Value.slice base' n' c'); refine (make1_any false base' b' off' n' c' Y _ HB'.out (HYW.out _ (by (repeat (first | with_reducible assumption | with_reducible exact Below.refl _ _ | with_reducible refine bs_alloc ?_ _ | with_reducible refine bs_drew ?_ | (with_reducible refine bs_set ?_ ?_ _) | go_size)))) hn' hl').mono ?_; rintro e w2 ⟨u2, rfl, hcan2, hb2⟩; (with_reducible have hp' := blk_prev hb2); (with_reducible have hr' := blk_last2 hb2); obtain ⟨x0, x1⟩ := Blk2 hp'; obtain ⟨x2, x3⟩ := Blk2f hp'; have x4 := Blk.lt hp'; obtain ⟨y0, y1⟩ := Blk2 hr'; obtain ⟨y2, y3⟩ := Blk2f hr'; have y4 := Blk.lt hr'; have HPP := Lib.hid hp'; have HRR := Lib.hid hr'; clear hp' hr'; have HV1 := Lib.hid (HV1.out.kept (bs_trans (by (repeat (first | with_reducible assumption | with_reducible exact Below.refl _ _ | with_reducible refine bs_alloc ?_ _ | with_reducible refine bs_drew ?_ | (with_reducible refine bs_set ?_ ?_ _) | go_size))) hb2)); have hq2 : Below W.heap.size W w2 := bs_trans (by (repeat (first | with_reducible assumption | with_reducible exact Below.refl _ _ | with_reducible refine bs_alloc ?_ _ | with_reducible refine bs_drew ?_ | (with_reducible refine bs_set ?_ ?_ _) | go_size))) hb2; have g2 := hq2.size; have k2 := hb2.size; obtain ⟨s2, p2, n2, m2, rfl, hr2⟩ := (canr_of hcan2).form; have HV2 := Lib.hid hr2; clear hcan2 hr2 hb2)
        | (go_at_call_of 66 (Value.slice base' n' c'); refine (make1_any false base' b' off' n' c' Y _ HB'.out (HYW.out _ (by (repeat (first | with_reducible assumption | with_reducible exact Below.refl _ _ | with_reducible refine bs_alloc ?_ _ | with_reducible refine bs_drew ?_ | (with_reducible refine bs_set ?_ ?_ _) | go_size)))) hn' hl').mono ?_; rintro e w2 ⟨u2, rfl, hcan2, hb2⟩; (with_reducible have hr' := blk_last hb2); have hp' := HPP.out.kept (bs_trans (by (repeat (first | with_reducible assumption | with_reducible exact Below.refl _ _ | with_reducible refine bs_alloc ?_ _ | with_reducible refine bs_drew ?_ | (with_reducible refine bs_set ?_ ?_ _) | go_size))) hb2); clear x0 x1 x2 x3 x4; obtain ⟨x0, x1⟩ := Blk2 hp'; obtain ⟨x2, x3⟩ := Blk2f hp'; have x4 := Blk.lt hp'; obtain ⟨y0, y1⟩ := Blk2 hr'; obtain ⟨y2, y3⟩ := Blk2f hr'; have y4 := Blk.lt hr'; have HPP := Lib.hid hp'; have HRR := Lib.hid hr'; clear hp' hr'; have HV1 := Lib.hid (HV1.out.kept (bs_trans (by (repeat (first | with_reducible assumption | with_reducible exact Below.refl _ _ | with_reducible refine bs_alloc ?_ _ | with_reducible refine bs_drew ?_ | (with_reducible refine bs_set ?_ ?_ _) | go_size))) hb2)); have hq2 : Below W.heap.size W w2 := bs_trans (by (repeat (first | with_reducible assumption | with_reducible exact Below.refl _ _ | with_reducible refine bs_alloc ?_ _ | with_reducible refine bs_drew ?_ | (with_reducible refine bs_set ?_ ?_ _) | go_size))) hb2; have g2 := hq2.size; have k2 := hb2.size; obtain ⟨s2, p2, n2, m2, rfl, hr2⟩ := (canr_of hcan2).form; have HV2 := Lib.hid hr2; clear hcan2 hr2 hb2)
        | (go_at_call_of 66 (Value.slice base' n' c'); refine (make1_any false base' b' off' n' c' Y _ HB'.out (HYW.out _ (by (repeat (first | with_reducible assumption | with_reducible exact Below.refl _ _ | with_reducible refine bs_alloc ?_ _ | with_reducible refine bs_drew ?_ | (with_reducible refine bs_set ?_ ?_ _) | go_size)))) hn' hl').mono ?_; rintro e w2 ⟨u2, rfl, hcan2, hb2⟩; (with_reducible have hp' := blk_last hb2); obtain ⟨x0, x1⟩ := Blk2 hp'; obtain ⟨x2, x3⟩ := Blk2f hp'; have x4 := Blk.lt hp'; have HPP := Lib.hid hp'; clear hp'; have HV1 := Lib.hid (HV1.out.kept (bs_trans (by (repeat (first | with_reducible assumption | with_reducible exact Below.refl _ _ | with_reducible refine bs_alloc ?_ _ | with_reducible refine bs_drew ?_ | (with_reducible refine bs_set ?_ ?_ _) | go_size))) hb2)); have hq2 : Below W.heap.size W w2 := bs_trans (by (repeat (first | with_reducible assumption | with_reducible exact Below.refl _ _ | with_reducible refine bs_alloc ?_ _ | with_reducible refine bs_drew ?_ | (with_reducible refine bs_set ?_ ?_ _) | go_size))) hb2; have g2 := hq2.size; have k2 := hb2.size; obtain ⟨s2, p2, n2, m2, rfl, hr2⟩ := (canr_of hcan2).form; have HV2 := Lib.hid hr2; clear hcan2 hr2 hb2)
        | (go_at_call_of 66 (Value.slice base' n' c'); refine (make1_any false base' b' off' n' c' Y _ HB'.out (HYW.out _ (by (repeat (first | with_reducible assumption | with_reducible exact Below.refl _ _ | with_reducible refine bs_alloc ?_ _ | with_reducible refine bs_drew ?_ | (with_reducible refine bs_set ?_ ?_ _) | go_size)))) hn' hl').mono ?_; rintro e w2 ⟨u2, rfl, hcan2, hb2⟩; have hp' := HPP.out.kept (bs_trans (by (repeat (first | with_reducible assumption | with_reducible exact Below.refl _ _ | with_reducible refine bs_alloc ?_ _ | with_reducible refine bs_drew ?_ | (with_reducible refine bs_set ?_ ?_ _) | go_size))) hb2); have hr' := HRR.out.kept (bs_trans (by (repeat (first | with_reducible assumption | with_reducible exact Below.refl _ _ | with_reducible refine bs_alloc ?_ _ | with_reducible refine bs_drew ?_ | (with_reducible refine bs_set ?_ ?_ _) | go_size))) hb2); clear x0 x1 x2 x3 x4 y0 y1 y2 y3 y4; obtain ⟨x0, x1⟩ := Blk2 hp'; obtain ⟨x2, x3⟩ := Blk2f hp'; have x4 := Blk.lt hp'; obtain ⟨y0, y1⟩ := Blk2 hr'; obtain ⟨y2, y3⟩ := Blk2f hr'; have y4 := Blk.lt hr'; have HPP := Lib.hid hp'; have HRR := Lib.hid hr'; clear hp' hr'; have HV1 := Lib.hid (HV1.out.kept (bs_trans (by (repeat (first | with_reducible assumption | with_reducible exact Below.refl _ _ | with_reducible refine bs_alloc ?_ _ | with_reducible refine bs_drew ?_ | (with_reducible refine bs_set ?_ ?_ _) | go_size))) hb2)); have hq2 : Below W.heap.size W w2 := bs_trans (by (repeat (first | with_reducible assumption | with_reducible exact Below.refl _ _ | with_reducible refine bs_alloc ?_ _ | with_reducible refine bs_drew ?_ | (with_reducible refine bs_set ?_ ?_ _) | go_size))) hb2; have g2 := hq2.size; have k2 := hb2.size; obtain ⟨s2, p2, n2, m2, rfl, hr2⟩ := (canr_of hcan2).form; have HV2 := Lib.hid hr2; clear hcan2 hr2 hb2)
        | (go_at_call_of 66 (Value.slice base' n' c'); refine (make1_any false base' b' off' n' c' Y _ HB'.out (HYW.out _ (by (repeat (first | with_reducible assumption | with_reducible exact Below.refl _ _ | with_reducible refine bs_alloc ?_ _ | with_reducible refine bs_drew ?_ | (with_reducible refine bs_set ?_ ?_ _) | go_size)))) hn' hl').mono ?_; rintro e w2 ⟨u2, rfl, hcan2, hb2⟩; have hp' := HPP.out.kept (bs_trans (by (repeat (first | with_reducible assumption | with_reducible exact Below.refl _ _ | with_reducible refine bs_alloc ?_ _ | with_reducible refine bs_drew ?_ | (with_reducible refine bs_set ?_ ?_ _) | go_size))) hb2); clear x0 x1 x2 x3 x4; obtain ⟨x0, x1⟩ := Blk2 hp'; obtain ⟨x2, x3⟩ := Blk2f hp'; have x4 := Blk.lt hp'; have HPP := Lib.hid hp'; clear hp'; have HV1 := Lib.hid (HV1.out.kept (bs_trans (by (repeat (first | with_reducible assumption | with_reducible exact Below.refl _ _ | with_reducible refine bs_alloc ?_ _ | with_reducible refine bs_drew ?_ | (with_reducible refine bs_set ?_ ?_ _) | go_size))) hb2)); have hq2 : Below W.heap.size W w2 := bs_trans (by (repeat (first | with_reducible assumption | with_reducible exact Below.refl _ _ | with_reducible refine bs_alloc ?_ _ | with_reducible refine bs_drew ?_ | (with_reducible refine bs_set ?_ ?_ _) | go_size))) hb2; have g2 := hq2.size; have k2 := hb2.size; obtain ⟨s2, p2, n2, m2, rfl, hr2⟩ := (canr_of hcan2).form; have HV2 := Lib.hid hr2; clear hcan2 hr2 hb2)
        | (go_at_call_of 66 (Value.slice base' n' c'); refine (make1_any false base' b' off' n' c' Y _ HB'.out (HYW.out _ (by (repeat (first | with_reducible assumption | with_reducible exact Below.refl _ _ | with_reducible refine bs_alloc ?_ _ | with_reducible refine bs_drew ?_ | (with_reducible refine bs_set ?_ ?_ _) | go_size)))) hn' hl').mono ?_; rintro e w2 ⟨u2, rfl, hcan2, hb2⟩; have HV1 := Lib.hid (HV1.out.kept (bs_trans (by (repeat (first | with_reducible assumption | with_reducible exact Below.refl _ _ | with_reducible refine bs_alloc ?_ _ | with_reducible refine bs_drew ?_ | (with_reducible refine bs_set ?_ ?_ _) | go_size))) hb2)); have hq2 : Below W.heap.size W w2 := bs_trans (by (repeat (first | with_reducible assumption | with_reducible exact Below.refl _ _ | with_reducible refine bs_alloc ?_ _ | with_reducible refine bs_drew ?_ | (with_reducible refine bs_set ?_ ?_ _) | go_size))) hb2; have g2 := hq2.size; have k2 := hb2.size; obtain ⟨s2, p2, n2, m2, rfl, hr2⟩ := (canr_of hcan2).form; have HV2 := Lib.hid hr2; clear hcan2 hr2 hb2)
        | (go_at_call_of 66 (Value.slice base n c); refine (make1_any false base b off n c X _ HB.out (HXW.out _ (by (repeat (first | with_reducible assumption | with_reducible exact Below.refl _ _ | with_reducible refine bs_alloc ?_ _ | with_reducible refine bs_drew ?_ | (with_reducible refine bs_set ?_ ?_ _) | go_size)))) hn hl).mono ?_; rintro e w1 ⟨u1, rfl, hcan1, hb1⟩; (with_reducible have hp := blk_prevd hb1); (with_reducible have hr := blk_last2d hb1); obtain ⟨x0, x1⟩ := Blk2 hp; obtain ⟨x2, x3⟩ := Blk2f hp; have x4 := Blk.lt hp; obtain ⟨y0, y1⟩ := Blk2 hr; obtain ⟨y2, y3⟩ := Blk2f hr; have y4 := Blk.lt hr; have z5 := Blk.lt hp; have z6 := Blk.lt hr; have HPP := Lib.hid hp; have HRR := Lib.hid hr; clear hp hr; have hq1 : Below W.heap.size W w1 := bs_trans (by (repeat (first | with_reducible assumption | with_reducible exact Below.refl _ _ | with_reducible refine bs_alloc ?_ _ | with_reducible refine bs_drew ?_ | (with_reducible refine bs_set ?_ ?_ _) | go_size))) hb1; have g1 := hq1.size; have k1 := hb1.size; obtain ⟨s1, p1, n1, m1, rfl, hr1⟩ := (canr_of hcan1).form; have HV1 := Lib.hid hr1; clear hcan1 hr1 hb1)
        | (go_at_call_of 66 (Value.slice base n c); refine (make1_any false base b off n c X _ HB.out (HXW.out _ (by (repeat (first | with_reducible assumption | with_reducible exact Below.refl _ _ | with_reducible refine bs_alloc ?_ _ | with_reducible refine bs_drew ?_ | (with_reducible refine bs_set ?_ ?_ _) | go_size)))) hn hl).mono ?_; rintro e w1 ⟨u1, rfl, hcan1, hb1⟩; (with_reducible have hp := blk_prev hb1); (with_reducible have hr := blk_last2 hb1); obtain ⟨x0, x1⟩ := Blk2 hp; obtain ⟨x2, x3⟩ := Blk2f hp; have x4 := Blk.lt hp; obtain ⟨y0, y1⟩ := Blk2 hr; obtain ⟨y2, y3⟩ := Blk2f hr; have y4 := Blk.lt hr; have z5 := Blk.lt hp; have z6 := Blk.lt hr; have HPP := Lib.hid hp; have HRR := Lib.hid hr; clear hp hr; have hq1 : Below W.heap.size W w1 := bs_trans (by (repeat (first | with_reducible assumption | with_reducible exact Below.refl _ _ | with_reducible refine bs_alloc ?_ _ | with_reducible refine bs_drew ?_ | (with_reducible refine bs_set ?_ ?_ _) | go_size))) hb1; have g1 := hq1.size; have k1 := hb1.size; obtain ⟨s1, p1, n1, m1, rfl, hr1⟩ := (canr_of hcan1).form; have HV1 := Lib.hid hr1; clear hcan1 hr1 hb1)
        | (go_at_call_of 66 (Value.slice base n c); refine (make1_any false base b off n c X _ HB.out (HXW.out _ (by (repeat (first | with_reducible assumption | with_reducible exact Below.refl _ _ | with_reducible refine bs_alloc ?_ _ | with_reducible refine bs_drew ?_ | (with_reducible refine bs_set ?_ ?_ _) | go_size)))) hn hl).mono ?_; rintro e w1 ⟨u1, rfl, hcan1, hb1⟩; (with_reducible have hp := blk_lastd hb1); obtain ⟨x0, x1⟩ := Blk2 hp; obtain ⟨x2, x3⟩ := Blk2f hp; have x4 := Blk.lt hp; have z5 := Blk.lt hp; have HPP := Lib.hid hp; clear hp; have hq1 : Below W.heap.size W w1 := bs_trans (by (repeat (first | with_reducible assumption | with_reducible exact Below.refl _ _ | with_reducible refine bs_alloc ?_ _ | with_reducible refine bs_drew ?_ | (with_reducible refine bs_set ?_ ?_ _) | go_size))) hb1; have g1 := hq1.size; have k1 := hb1.size; obtain ⟨s1, p1, n1, m1, rfl, hr1⟩ := (canr_of hcan1).form; have HV1 := Lib.hid hr1; clear hcan1 hr1 hb1)
        | (go_at_call_of 66 (Value.slice base n c); refine (make1_any false base b off n c X _ HB.out (HXW.out _ (by (repeat (first | with_reducible assumption | with_reducible exact Below.refl _ _ | with_reducible refine bs_alloc ?_ _ | with_reducible refine bs_drew ?_ | (with_reducible refine bs_set ?_ ?_ _) | go_size)))) hn hl).mono ?_; rintro e w1 ⟨u1, rfl, hcan1, hb1⟩; (with_reducible have hp := blk_last hb1); obtain ⟨x0, x1⟩ := Blk2 hp; obtain ⟨x2, x3⟩ := Blk2f hp; have x4 := Blk.lt hp; have z5 := Blk.lt hp; have HPP := Lib.hid hp; clear hp; have hq1 : Below W.heap.size W w1 := bs_trans (by (repeat (first | with_reducible assumption | with_reducible exact Below.refl _ _ | with_reducible refine bs_alloc ?_ _ | with_reducible refine bs_drew ?_ | (with_reducible refine bs_set ?_ ?_ _) | go_size))) hb1; have g1 := hq1.size; have k1 := hb1.size; obtain ⟨s1, p1, n1, m1, rfl, hr1⟩ := (canr_of hcan1).form; have HV1 := Lib.hid hr1; clear hcan1 hr1 hb1)
        | (go_at_call_of 66 (Value.slice base n c); refine (make1_any false base b off n c X _ HB.out (HXW.out _ (by (repeat (first | with_reducible assumption | with_reducible exact Below.refl _ _ | with_reducible refine bs_alloc ?_ _ | with_reducible refine bs_drew ?_ | (with_reducible refine bs_set ?_ ?_ _) | go_size)))) hn hl).mono ?_; rintro e w1 ⟨u1, rfl, hcan1, hb1⟩; have hq1 : Below W.heap.size W w1 := bs_trans (by (repeat (first | with_reducible assumption | with_reducible exact Below.refl _ _ | with_reducible refine bs_alloc ?_ _ | with_reducible refine bs_drew ?_ | (with_reducible refine bs_set ?_ ?_ _) | go_size))) hb1; have g1 := hq1.size; have k1 := hb1.size; obtain ⟨s1, p1, n1, m1, rfl, hr1⟩ := (canr_of hcan1).form; have HV1 := Lib.hid hr1; clear hcan1 hr1 hb1)
        | fail "no arm")
    all_goals
      clear a0 a1 b0 b1 hq0 hq1
      try clear x0 x1 x2 x3
      try clear y0 y1 y2 y3
      go_wp2_with fail
      go_meet
      have hs := HS.out
      have hbx : Below W.heap.size W _ := hq2
      refine ⟨_, _, rfl, rfl, ?_, bs_trans HBW.out ?_⟩
      · apply cst_mk (s1 := s1) (q1 := p1) (n1 := n1) (c1 := m1) (s2 := s2) (q2 := p2) (n2 := n2) (c2 := m2)
        · (repeat (first | with_reducible exact HPP.out | with_reducible exact HRR.out | with_reducible exact blk_new rfl | with_reducible exact blk_new (by simp only [World.size_alloc, World.size_setCell]) | with_reducible apply blk_set2 | with_reducible refine Blk.alloc ?_ _ | with_reducible refine blk_oth2 ?_ ?_ | omega))
        · (repeat (first | with_reducible exact HV1.out | with_reducible apply CanR.alloc | with_reducible apply CanR.set | omega | (simp only [World.size_alloc, World.size_setCell, World.size_drew] at k1 k2 ⊢; omega)))
        · (repeat (first | with_reducible exact HPP.out | with_reducible exact HRR.out | with_reducible exact blk_new rfl | with_reducible exact blk_new (by simp only [World.size_alloc, World.size_setCell]) | with_reducible apply blk_set2 | with_reducible refine Blk.alloc ?_ _ | with_reducible refine blk_oth2 ?_ ?_ | omega))
        · (repeat (first | with_reducible exact HV2.out | with_reducible apply CanR.alloc | with_reducible apply CanR.set | omega | (simp only [World.size_alloc, World.size_setCell, World.size_drew] at k1 k2 ⊢; omega)))
        · refine ⟨?_, ?_, ?_, ?_, ?_, ?_, ?_, ?_, ?_⟩ <;> ((try simp only [World.size_alloc, World.size_setCell, World.size_drew] at k1 k2 ⊢) <;> omega)
        · exact ⟨HLX.out, HLY.out, HG.out⟩
        · refine HL.out _ ?_
          (repeat (first | with_reducible assumption | with_reducible exact Below.refl _ _ | with_reducible refine bs_alloc ?_ _ | with_reducible refine bs_drew ?_ | (with_reducible refine bs_set ?_ ?_ _) | go_size))
      · (repeat (first | with_reducible assumption | with_reducible exact Below.refl _ _ | with_reducible refine bs_alloc ?_ _ | with_reducible refine bs_drew ?_ | (with_reducible refine bs_set ?_ ?_ _) | go_size))
  case rest =>
    obtain ⟨P, Q, rfl, rfl, hst, hbw⟩ := hcut
    go_wp2_with fail
    go_loopg [] Y (fun gk wr => ∃ X' : Nat, CSt w.heap.size P Q G wr X' gk ∧ Below w.heap.size w wr)
    case atStart => exact ⟨X, hst, hbw⟩
    case round =>
      obtain ⟨X', hst, hb⟩ := hrel
      obtain ⟨s1, q1, n1, c1, l1, e1, s2, q2, n2, c2, l2, e2, BP, C1, BQ, C2, d1, d2, d3, d4, d5, d6, d7, d8, d9, BR, d10, d11, d12⟩ := hst
      have HF := Lib.hid (And.intro d1 (And.intro d2 (And.intro d3 (And.intro d4 (And.intro d5 (And.intro d6 (And.intro d7 (And.intro d8 (And.intro d9 (And.intro d10 (And.intro d11 d12)))))))))))
      have SG := Lib.hid (sign_ref _ _ wr C2.int)
      have HC1 := Lib.hid C1
      have HC2 := Lib.hid C2
      have HBB := Lib.hid hb
      obtain ⟨p0, p1⟩ := Blk2 BP
      obtain ⟨r0, r1⟩ := Blk2 BQ
      clear C1 C2 d1 d2 d3 d4 d5 d6 d7 d8 d9 d10 d11 d12 hb
      by_cases h0 : gk = 0
      · have hz : ((sg false gk).sign == 0) = true := by rw [h0]; rfl
        have H0 := Lib.hid h0
        clear h0
        go_wp2_with fail
        refine SG.out.mono ?_
        rintro e w1 ⟨rfl, hb1⟩
        obtain ⟨p0, p1⟩ := Blk2 (BP.kept hb1)
        obtain ⟨z0, z1⟩ := Blk2 (BR.kept hb1)
        obtain ⟨z2, z3⟩ := Blk2f (BR.kept hb1)
        have HC := Lib.hid (HC1.out.kept hb1)
        have HBC := Lib.hid (bs_trans HBB.out hb1)
        clear hb1 SG r0 r1
        go_wp2_with fail
        obtain ⟨d1, d2, d3, d4, d5, d6, d7, d8, d9, d10, d11, d12⟩ := HF.out
        have hg : X' = G := by rw [← d9, H0.out, Nat.gcd_zero_right]
        refine bodyPost_ret (v := .agg #[.bool s1, .slice q1 n1 c1]) (by simp [results, Try.results63, go_sem, z0, z1]) rfl ⟨_, rfl, ?_, ?_⟩
        · rw [← hg]
          exact ((HC.out.set (by omega) _).set (by omega) _).can (by omega)
        · exact bs_set (bs_set HBC.out (by show w.heap.size ≤ w.heap.size + 1 + 1; omega) _) (by show w.heap.size ≤ w.heap.size + 1 + 1; omega) _
      · have hz : ((sg false gk).sign == 0) = false := by
          have : (sg false gk).sign ≠ 0 := fun h => h0 (sg_zero.1 (Int.sign_eq_zero_iff_zero.1 h))
          simpa using this
        have hpos : 0 < gk := by omega
        have DV := Lib.hid (fun W (h : Below wr.heap.size wr W) => div_ref _ _ (sg false X') (sg false gk) W (HC1.out.int.kept h) (HC2.out.int.kept h) (by rw [sg_natAbs]; exact HF.out.2.2.2.2.2.2.1) (by rw [sg_natAbs]; exact HF.out.2.2.2.2.2.2.2.1) (fun h => h0 (sg_zero.1 h)))
        rw [← sg_tmod] at DV
        clear h0
        go_wp2_with fail
        refine SG.out.mono ?_
        rintro e w1 ⟨rfl, hb1⟩
        obtain ⟨p0, p1⟩ := Blk2 (BP.kept hb1)
        obtain ⟨r0, r1⟩ := Blk2 (BQ.kept hb1)
        clear SG
        go_wp2_with fail
        refine (DV.out w1 hb1).mono ?_
        rintro e w2 ⟨u1, u2, rfl, hc1, hc2, hb2⟩
        have hbb := bs_trans hb1 hb2
        obtain ⟨t1, a1, m1, k1, rfl, hr1⟩ := (canr_of hc1).form
        obtain ⟨t2, a2, m2, k2, rfl, hr2⟩ := (canr_of hc2).form
        have BP2 := BP.kept hbb
        have BQ2 := BQ.kept hbb
        have BR2 := BR.kept hbb
        have HV1 := Lib.hid (HC1.out.kept hbb)
        have HV2 := Lib.hid (HC2.out.kept hbb)
        have HR := Lib.hid hr2
        have HBC := Lib.hid (bs_trans HBB.out hbb)
        have HSZ := Lib.hid (And.intro hb1.size (And.intro hb2.size (And.intro BP.lt (And.intro BQ.lt hbb.size))))
        clear hb1 hb2 hbb hc1 hc2 hr1 hr2 HC1 HC2 DV HBB BP BQ BR p0 p1 r0 r1
        go_upto_region 4 with fail
        generalize hW : World.alloc (World.alloc _ _) _ = V
        obtain ⟨F, hF⟩ : ∃ F, w2.heap.size = F := ⟨_, rfl⟩
        rw [hF]
        have hy : Below w2.heap.size w2 V := by rw [← hW]; exact bs_alloc (bs_alloc (Below.refl _ _) _) _
        have BT : Blk V (F + 1) #[.bool t2, .slice a2 m2 k2] := by rw [← hW, ← hF]; exact blk_new (by simp)
        replace BP2 := BP2.kept hy
        replace BQ2 := BQ2.kept hy
        replace BR2 := BR2.kept hy
        replace HV1 := Lib.hid (HV1.out.kept hy)
        replace HV2 := Lib.hid (HV2.out.kept hy)
        replace HR := Lib.hid (HR.out.kept hy)
        replace HBC := Lib.hid (bs_trans HBC.out hy)
        obtain ⟨p0, p1⟩ := Blk2 BP2
        obtain ⟨p2, p3⟩ := Blk2f BP2
        obtain ⟨r0, r1⟩ := Blk2 BQ2
        obtain ⟨r2, r3⟩ := Blk2f BQ2
        obtain ⟨z0, z1⟩ := Blk2 BT
        have hPF : P < F := by have := HSZ.out; omega
        have hQF : Q < F := by have := HSZ.out; omega
        have hPQ : P ≠ Q := HF.out.2.2.2.2.2.2.2.2.2.2.2
        have HFF := Lib.hid hF
        clear hW hF hy
        go_region
        all_goals
          go_wp2_with fail
          go_roundg (X' % gk)
          case measure => exact Nat.mod_lt _ hpos
          case rel =>
            obtain ⟨d1, d2, d3, d4, d5, d6, d7, d8, d9, d10, d11, d12⟩ := HF.out
            obtain ⟨y1, y2, y3, y4, y5⟩ := HSZ.out
            have hml := nl_mod_le X' gk
            refine ⟨gk, ⟨s2, q2, n2, c2, l2, e2, t2, a2, m2, k2, _, _, (blk_oth2 (blk_set2 BP2) hPQ).drew, (((((HV2.out.set d3 _).set d3 _).set d4 _).set d4 _)).drew, (blk_set2 (blk_oth2 BQ2 hPQ.symm)).drew, (((((HR.out.set (g := P) (Or.inl (by omega)) _).set (g := P) (Or.inl (by omega)) _).set (g := Q) (Or.inl (by omega)) _).set (g := Q) (Or.inl (by omega)) _)).drew, d3, d4, Or.inl (by omega), Or.inl (by omega), d6, by omega, d8, by omega, ?_, (blk_oth2 (blk_oth2 BR2 (by omega)) (by omega)).drew, d10, d11, d12⟩, ?_⟩
            · rw [← d9, Nat.gcd_comm X' gk, Nat.gcd_rec gk X', Nat.gcd_comm]
            · exact bs_drew (bs_set (bs_set (bs_set (bs_set HBC.out (by omega) _) (by omega) _) (by omega) _) (by omega) _)
end Go.Proofs.Ytmfimkndonlheaa

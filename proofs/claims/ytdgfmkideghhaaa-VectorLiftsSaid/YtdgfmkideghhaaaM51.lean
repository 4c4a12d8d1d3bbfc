/-
  square of the reference.
-/
import Derived.Deep.RegionHeld3
import Derived.IntWalk
import Derived.Test.YtdgfmkideghhaaaM22
import Derived.Test.YtdgfmkideghhaaaM35
import Derived.Test.YtdgfmkideghhaaaM36
import Derived.Test.YtdgfmkideghhaaaM38
import Derived.Test.YtdgfmkideghhaaaM47
namespace Go.Proofs.Ytdgfmkideghhaaa
open Go.RowKit PB VB
set_option maxHeartbeats 16000000 in
set_option maxRecDepth 100000 in
theorem square_any (ax ay bx b_ : Int) (w : World) (ha : Sm ax ay) (hb : Sm bx b_) :
    Calls Try.prog 143 #[vec ax ay, vec bx b_] w (RetInt w (distI bx b_ ax ay)) := by
  obtain ⟨a1, a2, a3, a4⟩ := ha
  obtain ⟨b1, b2, b3, b4⟩ := hb
  have hx1 : IntKind.i64.wrap (ax - bx) = ax - bx := IntWalk.i64_in _ (by omega)
  have hy1 : IntKind.i64.wrap (ay - b_) = ay - b_ := IntWalk.i64_in _ (by omega)
  have C1 := Lib.hid (fun w => of_ref (ax - bx) w (by omega) (by omega))
  have C2 := Lib.hid (fun w => of_ref (ay - b_) w (by omega) (by omega))
  have HD : Hid (distI bx b_ ax ay = (ax - bx) * (ax - bx) + (ay - b_) * (ay - b_)) := Lib.hid rfl
  have N1 : Hid (nl (ax - bx).natAbs ≤ 3) := Lib.hid (nl_few (by omega) (by omega))
  have N2 : Hid (nl (ay - b_).natAbs ≤ 3) := Lib.hid (nl_few (by omega) (by omega))
  have N3 : Hid (nl ((ax - bx) * (ax - bx)).natAbs ≤ 3) := Lib.hid (sq_few (by omega) (by omega))
  have N4 : Hid (nl ((ay - b_) * (ay - b_)).natAbs ≤ 3) := Lib.hid (sq_few (by omega) (by omega))
  clear a1 a2 a3 a4 b1 b2 b3 b4
  rw [HD.out]
  clear HD
  go_enter Try.func143, Try.ntmps143
  go_upto_region 1 with fail
  generalize hW : World.alloc _ _ = W
  have B0 : Blk W w.heap.size #[.int .i64 ax, .int .i64 ay] := by rw [← hW]; exact ((blk_new rfl).alloc _).alloc _
  have B1 : Blk W (w.heap.size + 1) #[.int .i64 bx, .int .i64 b_] := by rw [← hW]; exact (blk_new (by simp)).alloc _
  have B2 : Blk W (w.heap.size + 1 + 1) #[.bool false, .slice none 0 0] := by rw [← hW]; exact blk_new (by simp)
  have hbW : Below w.heap.size w W := by rw [← hW]; exact bs_alloc (bs_alloc (bs_alloc (Below.refl _ _) _) _) _
  have HS := Lib.hid (show W.heap.size = w.heap.size + 3 by rw [← hW]; simp)
  clear hW
  have HK := Lib.hid (show ∀ w1, Below W.heap.size W w1 → (w1.cell? ⟨w.heap.size, 0, none⟩ = some (.int .i64 ax) ∧ w1.cell? ⟨w.heap.size, 1, none⟩ = some (.int .i64 ay)) ∧ (w1.cell? ⟨w.heap.size + 1, 0, none⟩ = some (.int .i64 bx) ∧ w1.cell? ⟨w.heap.size + 1, 1, none⟩ = some (.int .i64 b_)) from
    fun w1 h => ⟨Blk2 (B0.kept h), Blk2 (B1.kept h)⟩)
  have HL := Lib.hid (show ∀ w3, Below W.heap.size W w3 → Blk w3 (w.heap.size + 1 + 1) #[.bool false, .slice none 0 0] from fun w3 h => B2.kept h)
  obtain ⟨⟨a0, a1⟩, b0, b1⟩ := HK.out _ (Below.refl _ _)
  have HBW := Lib.hid hbW
  have hq : Below W.heap.size W W := Below.refl _ _
  clear B0 B1 B2 hbW
  go_cut [5, 6] (fun s5 s6 wx => ∃ P Q : Nat, s5 = .pointer (some ⟨P, 0, none⟩) ∧ s6 = .pointer (some ⟨Q, 0, none⟩) ∧ Hid (Var wx P (ax - bx)) ∧ Hid (Var wx Q (ay - b_)) ∧ Hid (Below W.heap.size W wx) ∧ Hid (W.heap.size ≤ P ∧ W.heap.size ≤ Q))
  case first =>
    go_region_held3 (fun w' => (w'.cell? ⟨w.heap.size, 0, none⟩ = some (.int .i64 ax) ∧ w'.cell? ⟨w.heap.size, 1, none⟩ = some (.int .i64 ay)) ∧ (w'.cell? ⟨w.heap.size + 1, 0, none⟩ = some (.int .i64 bx) ∧ w'.cell? ⟨w.heap.size + 1, 1, none⟩ = some (.int .i64 b_)))
      (first | exact ⟨⟨a0, a1⟩, b0, b1⟩ | (refine HK.out _ ?_; (repeat (first | with_reducible assumption | with_reducible exact Below.refl _ _ | with_reducible refine bs_alloc ?_ _ | with_reducible refine bs_drew ?_ | (with_reducible refine bs_set ?_ ?_ _) | go_size))))
      (first
        | (go_at_call 31; (with_reducible refine (C2.out _).mono ?_); rintro e w2 ⟨u2, rfl, hc, hx⟩; (first | (have hp2 := HPP.out.kept (by first | (refine bs_trans ?_ hx; (repeat (first | with_reducible assumption | with_reducible exact Below.refl _ _ | with_reducible refine bs_alloc ?_ _ | with_reducible refine bs_drew ?_ | (with_reducible refine bs_set ?_ ?_ _) | go_size)); done) | (refine bs_trans ?_ (below_undrew hx); (repeat (first | with_reducible assumption | with_reducible exact Below.refl _ _ | with_reducible refine bs_alloc ?_ _ | with_reducible refine bs_drew ?_ | (with_reducible refine bs_set ?_ ?_ _) | go_size)); done)); have hr2 := HRR.out.kept (by first | (refine bs_trans ?_ hx; (repeat (first | with_reducible assumption | with_reducible exact Below.refl _ _ | with_reducible refine bs_alloc ?_ _ | with_reducible refine bs_drew ?_ | (with_reducible refine bs_set ?_ ?_ _) | go_size)); done) | (refine bs_trans ?_ (below_undrew hx); (repeat (first | with_reducible assumption | with_reducible exact Below.refl _ _ | with_reducible refine bs_alloc ?_ _ | with_reducible refine bs_drew ?_ | (with_reducible refine bs_set ?_ ?_ _) | go_size)); done)); obtain ⟨x0, x1⟩ := Blk2 hp2; obtain ⟨x2, x3⟩ := Blk2f hp2; have x4 := Blk.lt hp2; obtain ⟨y0, y1⟩ := Blk2 hr2; obtain ⟨y2, y3⟩ := Blk2f hr2; have y4 := Blk.lt hr2; have HPP := Lib.hid hp2; have HRR := Lib.hid hr2; clear hp2 hr2) | (have hp2 := HPP.out.kept (by first | (refine bs_trans ?_ hx; (repeat (first | with_reducible assumption | with_reducible exact Below.refl _ _ | with_reducible refine bs_alloc ?_ _ | with_reducible refine bs_drew ?_ | (with_reducible refine bs_set ?_ ?_ _) | go_size)); done) | (refine bs_trans ?_ (below_undrew hx); (repeat (first | with_reducible assumption | with_reducible exact Below.refl _ _ | with_reducible refine bs_alloc ?_ _ | with_reducible refine bs_drew ?_ | (with_reducible refine bs_set ?_ ?_ _) | go_size)); done)); (with_reducible have hr2 := blk_last hx); obtain ⟨x0, x1⟩ := Blk2 hp2; obtain ⟨x2, x3⟩ := Blk2f hp2; have x4 := Blk.lt hp2; obtain ⟨y0, y1⟩ := Blk2 hr2; obtain ⟨y2, y3⟩ := Blk2f hr2; have y4 := Blk.lt hr2; have HPP := Lib.hid hp2; have HRR := Lib.hid hr2; clear hp2 hr2) | (have hp2 := HPP.out.kept (by first | (refine bs_trans ?_ hx; (repeat (first | with_reducible assumption | with_reducible exact Below.refl _ _ | with_reducible refine bs_alloc ?_ _ | with_reducible refine bs_drew ?_ | (with_reducible refine bs_set ?_ ?_ _) | go_size)); done) | (refine bs_trans ?_ (below_undrew hx); (repeat (first | with_reducible assumption | with_reducible exact Below.refl _ _ | with_reducible refine bs_alloc ?_ _ | with_reducible refine bs_drew ?_ | (with_reducible refine bs_set ?_ ?_ _) | go_size)); done)); (with_reducible have hr2 := blk_lastd hx); obtain ⟨x0, x1⟩ := Blk2 hp2; obtain ⟨x2, x3⟩ := Blk2f hp2; have x4 := Blk.lt hp2; obtain ⟨y0, y1⟩ := Blk2 hr2; obtain ⟨y2, y3⟩ := Blk2f hr2; have y4 := Blk.lt hr2; have HPP := Lib.hid hp2; have HRR := Lib.hid hr2; clear hp2 hr2) | (have hp2 := HPP.out.kept (by first | (refine bs_trans ?_ hx; (repeat (first | with_reducible assumption | with_reducible exact Below.refl _ _ | with_reducible refine bs_alloc ?_ _ | with_reducible refine bs_drew ?_ | (with_reducible refine bs_set ?_ ?_ _) | go_size)); done) | (refine bs_trans ?_ (below_undrew hx); (repeat (first | with_reducible assumption | with_reducible exact Below.refl _ _ | with_reducible refine bs_alloc ?_ _ | with_reducible refine bs_drew ?_ | (with_reducible refine bs_set ?_ ?_ _) | go_size)); done)); obtain ⟨x0, x1⟩ := Blk2 hp2; obtain ⟨x2, x3⟩ := Blk2f hp2; have x4 := Blk.lt hp2; have HPP := Lib.hid hp2; clear hp2) | ((with_reducible have hp2 := blk_prev hx); (with_reducible have hr2 := blk_last2 hx); obtain ⟨x0, x1⟩ := Blk2 hp2; obtain ⟨x2, x3⟩ := Blk2f hp2; have x4 := Blk.lt hp2; obtain ⟨y0, y1⟩ := Blk2 hr2; obtain ⟨y2, y3⟩ := Blk2f hr2; have y4 := Blk.lt hr2; have HPP := Lib.hid hp2; have HRR := Lib.hid hr2; clear hp2 hr2) | ((with_reducible have hp2 := blk_prevd hx); (with_reducible have hr2 := blk_last2d hx); obtain ⟨x0, x1⟩ := Blk2 hp2; obtain ⟨x2, x3⟩ := Blk2f hp2; have x4 := Blk.lt hp2; obtain ⟨y0, y1⟩ := Blk2 hr2; obtain ⟨y2, y3⟩ := Blk2f hr2; have y4 := Blk.lt hr2; have HPP := Lib.hid hp2; have HRR := Lib.hid hr2; clear hp2 hr2) | ((with_reducible have hp2 := blk_last hx); obtain ⟨x0, x1⟩ := Blk2 hp2; obtain ⟨x2, x3⟩ := Blk2f hp2; have x4 := Blk.lt hp2; have HPP := Lib.hid hp2; clear hp2) | ((with_reducible have hp2 := blk_lastd hx); obtain ⟨x0, x1⟩ := Blk2 hp2; obtain ⟨x2, x3⟩ := Blk2f hp2; have x4 := Blk.lt hp2; have HPP := Lib.hid hp2; clear hp2) | skip); have HV1 := Lib.hid (HV1.out.kept (by first | (refine bs_trans ?_ hx; (repeat (first | with_reducible assumption | with_reducible exact Below.refl _ _ | with_reducible refine bs_alloc ?_ _ | with_reducible refine bs_drew ?_ | (with_reducible refine bs_set ?_ ?_ _) | go_size)); done) | (refine bs_trans ?_ (below_undrew hx); (repeat (first | with_reducible assumption | with_reducible exact Below.refl _ _ | with_reducible refine bs_alloc ?_ _ | with_reducible refine bs_drew ?_ | (with_reducible refine bs_set ?_ ?_ _) | go_size)); done))); have hq : Below W.heap.size W w2 := (by first | (refine bs_trans ?_ hx; (repeat (first | with_reducible assumption | with_reducible exact Below.refl _ _ | with_reducible refine bs_alloc ?_ _ | with_reducible refine bs_drew ?_ | (with_reducible refine bs_set ?_ ?_ _) | go_size)); done) | (refine bs_trans ?_ (below_undrew hx); (repeat (first | with_reducible assumption | with_reducible exact Below.refl _ _ | with_reducible refine bs_alloc ?_ _ | with_reducible refine bs_drew ?_ | (with_reducible refine bs_set ?_ ?_ _) | go_size)); done)); have gg2 := hq.size; have kk2 := hx.size; obtain ⟨s2, p2, n2, m2, rfl, hr⟩ := (canr_of hc).form; have HV2 := Lib.hid hr; clear hc hr hx)
        | (go_at_call 31; (with_reducible refine (C1.out _).mono ?_); rintro e w1 ⟨u1, rfl, hc, hx⟩; (first | (have hp2 := HPP.out.kept (by first | (refine bs_trans ?_ hx; (repeat (first | with_reducible assumption | with_reducible exact Below.refl _ _ | with_reducible refine bs_alloc ?_ _ | with_reducible refine bs_drew ?_ | (with_reducible refine bs_set ?_ ?_ _) | go_size)); done) | (refine bs_trans ?_ (below_undrew hx); (repeat (first | with_reducible assumption | with_reducible exact Below.refl _ _ | with_reducible refine bs_alloc ?_ _ | with_reducible refine bs_drew ?_ | (with_reducible refine bs_set ?_ ?_ _) | go_size)); done)); have hr2 := HRR.out.kept (by first | (refine bs_trans ?_ hx; (repeat (first | with_reducible assumption | with_reducible exact Below.refl _ _ | with_reducible refine bs_alloc ?_ _ | with_reducible refine bs_drew ?_ | (with_reducible refine bs_set ?_ ?_ _) | go_size)); done) | (refine bs_trans ?_ (below_undrew hx); (repeat (first | with_reducible assumption | with_reducible exact Below.refl _ _ | with_reducible refine bs_alloc ?_ _ | with_reducible refine bs_drew ?_ | (with_reducible refine bs_set ?_ ?_ _) | go_size)); done)); obtain ⟨x0, x1⟩ := Blk2 hp2; obtain ⟨x2, x3⟩ := Blk2f hp2; have x4 := Blk.lt hp2; obtain ⟨y0, y1⟩ := Blk2 hr2; obtain ⟨y2, y3⟩ := Blk2f hr2; have y4 := Blk.lt hr2; have HPP := Lib.hid hp2; have HRR := Lib.hid hr2; clear hp2 hr2) | (have hp2 := HPP.out.kept (by first | (refine bs_trans ?_ hx; (repeat (first | with_reducible assumption | with_reducible exact Below.refl _ _ | with_reducible refine bs_alloc ?_ _ | with_reducible refine bs_drew ?_ | (with_reducible refine bs_set ?_ ?_ _) | go_size)); done) | (refine bs_trans ?_ (below_undrew hx); (repeat (first | with_reducible assumption | with_reducible exact Below.refl _ _ | with_reducible refine bs_alloc ?_ _ | with_reducible refine bs_drew ?_ | (with_reducible refine bs_set ?_ ?_ _) | go_size)); done)); (with_reducible have hr2 := blk_last hx); obtain ⟨x0, x1⟩ := Blk2 hp2; obtain ⟨x2, x3⟩ := Blk2f hp2; have x4 := Blk.lt hp2; obtain ⟨y0, y1⟩ := Blk2 hr2; obtain ⟨y2, y3⟩ := Blk2f hr2; have y4 := Blk.lt hr2; have HPP := Lib.hid hp2; have HRR := Lib.hid hr2; clear hp2 hr2) | (have hp2 := HPP.out.kept (by first | (refine bs_trans ?_ hx; (repeat (first | with_reducible assumption | with_reducible exact Below.refl _ _ | with_reducible refine bs_alloc ?_ _ | with_reducible refine bs_drew ?_ | (with_reducible refine bs_set ?_ ?_ _) | go_size)); done) | (refine bs_trans ?_ (below_undrew hx); (repeat (first | with_reducible assumption | with_reducible exact Below.refl _ _ | with_reducible refine bs_alloc ?_ _ | with_reducible refine bs_drew ?_ | (with_reducible refine bs_set ?_ ?_ _) | go_size)); done)); (with_reducible have hr2 := blk_lastd hx); obtain ⟨x0, x1⟩ := Blk2 hp2; obtain ⟨x2, x3⟩ := Blk2f hp2; have x4 := Blk.lt hp2; obtain ⟨y0, y1⟩ := Blk2 hr2; obtain ⟨y2, y3⟩ := Blk2f hr2; have y4 := Blk.lt hr2; have HPP := Lib.hid hp2; have HRR := Lib.hid hr2; clear hp2 hr2) | (have hp2 := HPP.out.kept (by first | (refine bs_trans ?_ hx; (repeat (first | with_reducible assumption | with_reducible exact Below.refl _ _ | with_reducible refine bs_alloc ?_ _ | with_reducible refine bs_drew ?_ | (with_reducible refine bs_set ?_ ?_ _) | go_size)); done) | (refine bs_trans ?_ (below_undrew hx); (repeat (first | with_reducible assumption | with_reducible exact Below.refl _ _ | with_reducible refine bs_alloc ?_ _ | with_reducible refine bs_drew ?_ | (with_reducible refine bs_set ?_ ?_ _) | go_size)); done)); obtain ⟨x0, x1⟩ := Blk2 hp2; obtain ⟨x2, x3⟩ := Blk2f hp2; have x4 := Blk.lt hp2; have HPP := Lib.hid hp2; clear hp2) | ((with_reducible have hp2 := blk_prev hx); (with_reducible have hr2 := blk_last2 hx); obtain ⟨x0, x1⟩ := Blk2 hp2; obtain ⟨x2, x3⟩ := Blk2f hp2; have x4 := Blk.lt hp2; obtain ⟨y0, y1⟩ := Blk2 hr2; obtain ⟨y2, y3⟩ := Blk2f hr2; have y4 := Blk.lt hr2; have HPP := Lib.hid hp2; have HRR := Lib.hid hr2; clear hp2 hr2) | ((with_reducible have hp2 := blk_prevd hx); (with_reducible have hr2 := blk_last2d hx); obtain ⟨x0, x1⟩ := Blk2 hp2; obtain ⟨x2, x3⟩ := Blk2f hp2; have x4 := Blk.lt hp2; obtain ⟨y0, y1⟩ := Blk2 hr2; obtain ⟨y2, y3⟩ := Blk2f hr2; have y4 := Blk.lt hr2; have HPP := Lib.hid hp2; have HRR := Lib.hid hr2; clear hp2 hr2) | ((with_reducible have hp2 := blk_last hx); obtain ⟨x0, x1⟩ := Blk2 hp2; obtain ⟨x2, x3⟩ := Blk2f hp2; have x4 := Blk.lt hp2; have HPP := Lib.hid hp2; clear hp2) | ((with_reducible have hp2 := blk_lastd hx); obtain ⟨x0, x1⟩ := Blk2 hp2; obtain ⟨x2, x3⟩ := Blk2f hp2; have x4 := Blk.lt hp2; have HPP := Lib.hid hp2; clear hp2) | skip); have hq : Below W.heap.size W w1 := (by first | (refine bs_trans ?_ hx; (repeat (first | with_reducible assumption | with_reducible exact Below.refl _ _ | with_reducible refine bs_alloc ?_ _ | with_reducible refine bs_drew ?_ | (with_reducible refine bs_set ?_ ?_ _) | go_size)); done) | (refine bs_trans ?_ (below_undrew hx); (repeat (first | with_reducible assumption | with_reducible exact Below.refl _ _ | with_reducible refine bs_alloc ?_ _ | with_reducible refine bs_drew ?_ | (with_reducible refine bs_set ?_ ?_ _) | go_size)); done)); have gg1 := hq.size; have kk1 := hx.size; obtain ⟨s1, p1, n1, m1, rfl, hr⟩ := (canr_of hc).form; have HV1 := Lib.hid hr; clear hc hr hx)
        | fail "no arm")
    all_goals
      clear a0 a1 b0 b1
      try clear x0 x1 x2 x3
      try clear y0 y1 y2 y3
      go_wp2_with fail
      go_meet
      refine ⟨_, _, rfl, rfl, Lib.hid ?_, Lib.hid ?_, Lib.hid ?_, Lib.hid ⟨?_, ?_⟩⟩
      · refine ⟨s1, p1, n1, m1, ?_, ?_⟩
        · (repeat (first | with_reducible exact HPP.out | with_reducible exact HRR.out | with_reducible exact blk_new rfl | with_reducible exact blk_new (by simp only [World.size_alloc, World.size_setCell]) | with_reducible apply blk_set2 | with_reducible apply Blk.alloc | with_reducible apply Blk.drew | (with_reducible refine blk_oth2 ?_ ?_) | (with_reducible refine Blk.other ?_ _ ?_) | (simp only [World.size_alloc, World.size_setCell, World.size_drew] at *; omega) | omega))
        · apply CanR.int
          (repeat (first | with_reducible exact HV1.out | with_reducible apply CanR.alloc | with_reducible apply CanR.drew | with_reducible apply CanR.set | omega | (simp only [World.size_alloc, World.size_setCell, World.size_drew] at *; omega)))
      · refine ⟨s2, p2, n2, m2, ?_, ?_⟩
        · (repeat (first | with_reducible exact HPP.out | with_reducible exact HRR.out | with_reducible exact blk_new rfl | with_reducible exact blk_new (by simp only [World.size_alloc, World.size_setCell]) | with_reducible apply blk_set2 | with_reducible apply Blk.alloc | with_reducible apply Blk.drew | (with_reducible refine blk_oth2 ?_ ?_) | (with_reducible refine Blk.other ?_ _ ?_) | (simp only [World.size_alloc, World.size_setCell, World.size_drew] at *; omega) | omega))
        · apply CanR.int
          (repeat (first | with_reducible exact HV2.out | with_reducible apply CanR.alloc | with_reducible apply CanR.drew | with_reducible apply CanR.set | omega | (simp only [World.size_alloc, World.size_setCell, World.size_drew] at *; omega)))
      · (repeat (first | with_reducible assumption | with_reducible exact Below.refl _ _ | with_reducible refine bs_alloc ?_ _ | with_reducible refine bs_drew ?_ | (with_reducible refine bs_set ?_ ?_ _) | go_size))
      · first | omega | (simp only [World.size_alloc, World.size_setCell, World.size_drew] at *; omega)
      · first | omega | (simp only [World.size_alloc, World.size_setCell, World.size_drew] at *; omega)
  case rest =>
    have hs := hcut; clear hcut
    obtain ⟨P, Q, rfl, rfl, HP, HQ, HW, HPQ⟩ := hs
    obtain ⟨p1, q1, m1, c1, BP, IP⟩ := HP.out
    obtain ⟨p2, q2, m2, c2, BQ, IQ⟩ := HQ.out
    have HBel := Lib.hid (bs_trans HBW.out HW.out)
    have BR := HL.out _ HW.out
    have HZ := Lib.hid (show w.heap.size + 3 ≤ wc.heap.size by have := HW.out.size; have := HS.out; omega)
    have HNE := Lib.hid (show P ≠ w.heap.size + 1 + 1 ∧ Q ≠ w.heap.size + 1 + 1 by have := HPQ.out; have := HS.out; omega)
    clear HP HQ HW HL HK HBW HS hq HPQ
    have KP := Lib.hid (fun w1 (h : Below wc.heap.size wc w1) => BP.kept h)
    have KQ := Lib.hid (fun w1 (h : Below wc.heap.size wc w1) => BQ.kept h)
    have KR := Lib.hid (fun w1 (h : Below wc.heap.size wc w1) => BR.kept h)
    have JP := Lib.hid (fun w1 (h : Below wc.heap.size wc w1) => IP.kept h)
    have JQ := Lib.hid (fun w1 (h : Below wc.heap.size wc w1) => IQ.kept h)
    obtain ⟨a0, a1⟩ := Blk2 BP
    obtain ⟨b0, b1⟩ := Blk2 BQ
    obtain ⟨f0, f1⟩ := Blk2f BR
    have f2 := BR.lt
    have hq : Below wc.heap.size wc wc := Below.refl _ _
    clear BP IP BQ IQ BR
    go_upto_region 2 with fail
    go_region_held3 (fun w' => (w'.cell? ⟨P, 0, none⟩ = some (.bool p1) ∧ w'.cell? ⟨P, 1, none⟩ = some (.slice q1 m1 c1)) ∧ (w'.cell? ⟨Q, 0, none⟩ = some (.bool p2) ∧ w'.cell? ⟨Q, 1, none⟩ = some (.slice q2 m2 c2)))
      (first | exact ⟨⟨a0, a1⟩, b0, b1⟩ | (refine ⟨Blk2 (KP.out _ ?_), Blk2 (KQ.out _ ?_)⟩ <;> ((repeat (first | with_reducible assumption | with_reducible exact Below.refl _ _ | with_reducible refine bs_alloc ?_ _ | with_reducible refine bs_drew ?_ | (with_reducible refine bs_set ?_ ?_ _) | go_size)); done)) | exact ⟨Blk2 (blk_oth2 (KP.out _ hb3) HNE.out.1), Blk2 (blk_oth2 (KQ.out _ hb3) HNE.out.2)⟩)
      (first
        | (go_at_call 82
           (with_reducible refine (plus_ref _ _ ((ax - bx) * (ax - bx)) ((ay - b_) * (ay - b_)) _ HV1.out.int HV2.out.int (by have := N3.out; omega) (by have := N4.out; omega)).mono ?_)
           rintro e w3 ⟨u3, rfl, hc, hx⟩
           have hb3 : Below wc.heap.size wc w3 := (by first | (refine bs_trans ?_ hx; (repeat (first | with_reducible assumption | with_reducible exact Below.refl _ _ | with_reducible refine bs_alloc ?_ _ | with_reducible refine bs_drew ?_ | (with_reducible refine bs_set ?_ ?_ _) | go_size)); done) | (refine bs_trans ?_ (below_undrew hx); (repeat (first | with_reducible assumption | with_reducible exact Below.refl _ _ | with_reducible refine bs_alloc ?_ _ | with_reducible refine bs_drew ?_ | (with_reducible refine bs_set ?_ ?_ _) | go_size)); done))
           obtain ⟨s3, t3, k3, rfl⟩ := can_agg hc
           have kr := KR.out _ hb3
           obtain ⟨g0, g1⟩ := Blk2f kr
           obtain ⟨r0, r1⟩ := Blk2 kr
           have g2 := kr.lt
           have HC3 := Lib.hid (hc.mono (show wc.heap.size ≤ _ from hq.size))
           have HB3 := Lib.hid (bs_trans HBel.out hb3)
           clear hc hx hq)
        | (go_at_call 85; (with_reducible refine (times_ref _ _ (ay - b_) (ay - b_) _ (JQ.out _ (by (repeat (first | with_reducible assumption | with_reducible exact Below.refl _ _ | with_reducible refine bs_alloc ?_ _ | with_reducible refine bs_drew ?_ | (with_reducible refine bs_set ?_ ?_ _) | go_size)))) (JQ.out _ (by (repeat (first | with_reducible assumption | with_reducible exact Below.refl _ _ | with_reducible refine bs_alloc ?_ _ | with_reducible refine bs_drew ?_ | (with_reducible refine bs_set ?_ ?_ _) | go_size)))) (by have := N2.out; omega) (by have := N2.out; omega)).mono ?_); rintro e w2 ⟨u2, rfl, hc, hx⟩; have HV1 := Lib.hid (HV1.out.kept (by first | (refine bs_trans ?_ hx; (repeat (first | with_reducible assumption | with_reducible exact Below.refl _ _ | with_reducible refine bs_alloc ?_ _ | with_reducible refine bs_drew ?_ | (with_reducible refine bs_set ?_ ?_ _) | go_size)); done) | (refine bs_trans ?_ (below_undrew hx); (repeat (first | with_reducible assumption | with_reducible exact Below.refl _ _ | with_reducible refine bs_alloc ?_ _ | with_reducible refine bs_drew ?_ | (with_reducible refine bs_set ?_ ?_ _) | go_size)); done))); have hq : Below wc.heap.size wc w2 := (by first | (refine bs_trans ?_ hx; (repeat (first | with_reducible assumption | with_reducible exact Below.refl _ _ | with_reducible refine bs_alloc ?_ _ | with_reducible refine bs_drew ?_ | (with_reducible refine bs_set ?_ ?_ _) | go_size)); done) | (refine bs_trans ?_ (below_undrew hx); (repeat (first | with_reducible assumption | with_reducible exact Below.refl _ _ | with_reducible refine bs_alloc ?_ _ | with_reducible refine bs_drew ?_ | (with_reducible refine bs_set ?_ ?_ _) | go_size)); done)); have gg2 := hq.size; have kk2 := hx.size; obtain ⟨s2, p2, n2, m2, rfl, hr⟩ := (canr_of hc).form; have HV2 := Lib.hid hr; clear hc hr hx)
        | (go_at_call 85; (with_reducible refine (times_ref _ _ (ax - bx) (ax - bx) _ (JP.out _ (by (repeat (first | with_reducible assumption | with_reducible exact Below.refl _ _ | with_reducible refine bs_alloc ?_ _ | with_reducible refine bs_drew ?_ | (with_reducible refine bs_set ?_ ?_ _) | go_size)))) (JP.out _ (by (repeat (first | with_reducible assumption | with_reducible exact Below.refl _ _ | with_reducible refine bs_alloc ?_ _ | with_reducible refine bs_drew ?_ | (with_reducible refine bs_set ?_ ?_ _) | go_size)))) (by have := N1.out; omega) (by have := N1.out; omega)).mono ?_); rintro e w1 ⟨u1, rfl, hc, hx⟩; have hq : Below wc.heap.size wc w1 := (by first | (refine bs_trans ?_ hx; (repeat (first | with_reducible assumption | with_reducible exact Below.refl _ _ | with_reducible refine bs_alloc ?_ _ | with_reducible refine bs_drew ?_ | (with_reducible refine bs_set ?_ ?_ _) | go_size)); done) | (refine bs_trans ?_ (below_undrew hx); (repeat (first | with_reducible assumption | with_reducible exact Below.refl _ _ | with_reducible refine bs_alloc ?_ _ | with_reducible refine bs_drew ?_ | (with_reducible refine bs_set ?_ ?_ _) | go_size)); done)); have gg1 := hq.size; have kk1 := hx.size; obtain ⟨s1, p1, n1, m1, rfl, hr⟩ := (canr_of hc).form; have HV1 := Lib.hid hr; clear hc hr hx)
        | fail "no arm")
    all_goals
      go_wp2_with fail
    all_goals
      have hz := HZ.out
      exact bodyPost_ret (v := .agg #[.bool s3, .slice t3 (nl ((ax - bx) * (ax - bx) + (ay - b_) * (ay - b_)).natAbs) k3]) (by simp [results, Try.results143, go_sem, r0, r1]) rfl
        ⟨_, rfl, ((HC3.out.set (by show w.heap.size + 1 + 1 < wc.heap.size; omega) _).set (by show w.heap.size + 1 + 1 < wc.heap.size; omega) _).mono (by omega), bs_set (bs_set HB3.out (by show w.heap.size ≤ w.heap.size + 1 + 1; omega) _) (by show w.heap.size ≤ w.heap.size + 1 + 1; omega) _⟩
end Go.Proofs.Ytdgfmkideghhaaa

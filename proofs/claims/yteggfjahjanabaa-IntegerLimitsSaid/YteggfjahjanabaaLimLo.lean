/-
  The walk of IntegerLimits (written by wip/genlim.py).
-/
import Derived.Test.YteggfjahjanabaaLimL
namespace Go.Proofs.Yteggfjahjanabaa
open Go.RowKit PB

set_option maxHeartbeats 12800000 in
set_option maxRecDepth 100000 in
theorem lim_lo_f (x : Int) (w : World) (k : Nat) (hk : 254 + pl x = k) (hc : k < 256) :
    Calls Try.prog 9 #[.int .i64 x, .bool false] w fun e w' => e = .returned (.bool true) ∧ Below w.heap.size w w' := by
  have hlt := pl_lt x
  have i1 : decide ((256 : Int) < k) = false := decide_eq_false (by omega)
  have i2 : ((k : Int) == 256) = false := by simp; omega
  have b1 : 254 ≤ k := by omega
  have b2 : k ≤ 258 := by omega
  have e1 : lerr k = 0 := by unfold lerr; rw [if_neg (by omega)]
  have e2 : lerr (k + 1) = 0 := by unfold lerr; rw [if_neg (by omega)]
  have HK := Lib.hid (show (254 : Int) + (pl x : Int) = k by omega)
  have E1 := Lib.hid e1
  have E2 := Lib.hid e2
  clear hc e1 e2 hk
  go_enter Try.func9, Try.ntmps9
  go_wp2_with fail
  refine (awake_any w).mono ?_
  rintro e u0 ⟨rfl, hb⟩
  have HB := Lib.hid hb
  clear hb
  go_wp2_with fail
  refine (place_det x u0).mono ?_
  rintro e w' ⟨rfl, rfl⟩
  go_upto_region 4 with fail
  rw [HK.out]
  clear hlt HK
  go_wp2_with (at_make; refine wpList_make_num _ rfl _ _ 22 rfl 51 info51 Try.underlying22 .i64 .i64 _ _ k rfl rfl (by omega) (by omega) (by omega) ?_)
  intro w1 hb1 hz1 hS1 hF1 _
  have HZ := Lib.hid hz1
  clear hz1
  go_wp2_with fail
  generalize hW : World.alloc _ _ = W
  obtain ⟨A, hA⟩ : ∃ A, w1.heap.size = A := ⟨_, rfl⟩
  obtain ⟨P, hP⟩ : ∃ P, u0.heap.size = P := ⟨_, rfl⟩
  rw [hA]
  rw [hP] at HZ hS1 hF1 hW ⊢
  have hAP := HZ.out
  rw [hA] at hAP
  have BA : Blk W A #[.bool false, .slice (some ⟨P, 0, none⟩) k k] := by rw [← hW]; exact blk_new hA.symm
  have HSz : Hid (W.heap.size = A + 1) := Lib.hid (by rw [← hW, ← hA]; simp)
  have hS : Num W P 0 k (full 0) := by rw [← hW]; exact (hS1.alloc _).val (by unfold full; rfl)
  have hF : Free W P 0 k := by rw [← hW]; exact hF1.below ((Below.refl _ _).alloc (Nat.le_refl _) _) (fun _ => by omega)
  have HB0 : Hid (Below w.heap.size w W) := Lib.hid (HB.out.trans ((show Below u0.heap.size u0 W from by rw [← hW]; exact hb1.alloc hb1.size _).mono HB.out.size))
  have HPu : Hid (w.heap.size ≤ P) := Lib.hid (hP ▸ HB.out.size)
  have HAP := Lib.hid hAP
  clear hW HZ hS1 hF1 hb1 HB hP hA hAP
  go_loopw [7] (fun i wr => ∃ j : Nat, j ≤ k ∧ i = .int .i64 j ∧ Num wr P 0 k (full j) ∧ Free wr P 0 k ∧ Wr W wr P 0 k) (fun i _ => k - (intOf i).toNat)
  case atStart => exact ⟨0, by omega, rfl, hS, hF, Wr.refl _ _ _ _⟩
  case round =>
    clear hS hF
    obtain ⟨j, hj, rfl, hS, hF, hwr⟩ := hrel
    have hne : A ≠ P := by have := HAP.out; omega
    have BA1 := hwr.blk BA hne
    obtain ⟨a0, a1⟩ := Blk2 BA1
    by_cases hlt : j < k
    · have c1 := hS.cell0 (i := j) hlt
      have f1 := hF.at0 (i := j) hlt
      have j1 : (j : Int) < k := by omega
      have j2 : (0 : Int) ≤ j := by omega
      clear BA1 BA hne
      go_wp2_with fail
      go_roundw
      case rel =>
        have hp := hS.set0 (k := j) (d := 4294967295) hlt (by decide)
        rw [put_new (full_lt j), full_next] at hp
        exact ⟨j + 1, by omega, by go_num, hp, hF.set _ _, hwr.set _ _ (by omega) hlt⟩
      case measure => simp [intOf]; omega
    · obtain rfl : j = k := by omega
      have j1 : ¬ ((j : Int) < j) := by omega
      have hI : IsInt wr (.agg #[.bool false, .slice (some ⟨P, 0, none⟩) j j]) (sg false (full j)) := ⟨false, some ⟨P, 0, none⟩, P, 0, j, j, full j, rfl, fun _ => rfl, hS, Nat.le_refl _, by omega, rfl⟩
      have HBW : Hid (Below w.heap.size w wr) := Lib.hid (HB0.out.trans ((hwr.below (Nat.le_refl P)).mono HPu.out))
      have HWS : Hid (wr.heap.size = A + 1) := Lib.hid (by rw [hwr.size]; exact HSz.out)
      have IA := Lib.hid hI
      have SA := Lib.hid hS
      have BL := Lib.hid BA1
      have HNE := Lib.hid hne
      clear BA BA1 hI HB0 HSz hlt hwr hF hS HPu hne HAP a0 a1 hj
      go_wp2_with fail
      refine (of_any 1 wr (by decide) (by decide)).mono ?_
      rintro e u1 ⟨v1, rfl, hc1, hx1⟩
      obtain ⟨s1, q1, n1, c1, rfl, I1⟩ := can_form hc1
      go_upto_region 18 with fail
      generalize hW : World.alloc _ _ = V
      obtain ⟨O, hO⟩ : ∃ O, u1.heap.size = O := ⟨_, rfl⟩
      rw [hO]
      have BO : Blk V O #[.bool s1, .slice q1 n1 c1] := by rw [← hW, ← hO]; exact blk_new rfl
      have IO : IsInt V (.agg #[.bool s1, .slice q1 n1 c1]) (sg false 1) := by rw [← hW]; exact I1.kept ((Below.refl _ _).alloc (Nat.le_refl _) _)
      have HXV : Hid (Below wr.heap.size wr V) := Lib.hid (by rw [← hW]; exact hx1.alloc hx1.size _)
      clear hW hO hc1 hx1 I1
      have HKC := Lib.hid (show ∀ w', Below V.heap.size V w' → ((w'.cell? ⟨A, 0, none⟩ = some (.bool false) ∧ w'.cell? ⟨A, 1, none⟩ = some (.slice (some ⟨P, 0, none⟩) j j)) ∧ w'.cell? ⟨O, 0, none⟩ = some (.bool s1) ∧ w'.cell? ⟨O, 1, none⟩ = some (.slice q1 n1 c1)) from
        fun w1 h => ⟨Blk2 ((BL.out.kept HXV.out).kept h), Blk2 (BO.kept h)⟩)
      have HIA := Lib.hid (fun w' (h : Below V.heap.size V w') => (IA.out.kept HXV.out).kept h)
      have HIO := Lib.hid (fun w' (h : Below V.heap.size V w') => IO.kept h)
      have HSA := Lib.hid (fun w' (h : Below V.heap.size V w') => (SA.out.kept HXV.out).kept h)
      have HB := Lib.hid (HBW.out.trans (HXV.out.mono HBW.out.size))
      have HC := Lib.hid (Below.refl V.heap.size V)
      have b3 : 2 ≤ j := by omega
      clear IO HXV BO IA SA BL HBW HWS HNE
      obtain ⟨⟨a0, a1⟩, o0, o1⟩ := HKC.out _ HC.out
      have call := lim_add V b3 (HIA.out _ HC.out) (HIO.out _ HC.out)
      rw [E2.out] at call
      go_wp2_with fail
      refine call.mono ?_
      clear call
      rintro e xa ⟨s, q, n, c, rfl, hx⟩
      have HD := Lib.hid (HC.out.trans (hx.mono HC.out.size))
      clear hx a0 a1 o0 o1 HC
      go_upto_region 19 with fail
      generalize hW : World.alloc _ _ = ya
      have HC : Hid (Below V.heap.size V ya) := Lib.hid (by rw [← hW]; exact (HD.out.alloc HD.out.size _))
      clear hW HD
      obtain ⟨⟨a0, a1⟩, o0, o1⟩ := HKC.out _ HC.out
      have call := lim_sub ya b3 (HIA.out _ HC.out) (HIO.out _ HC.out)
      rw [E1.out] at call
      go_wp2_with fail
      refine call.mono ?_
      clear call
      rintro e xb ⟨s, q, n, c, rfl, hx⟩
      have HD := Lib.hid (HC.out.trans (hx.mono HC.out.size))
      clear hx a0 a1 o0 o1 HC
      go_upto_region 20 with fail
      generalize hW : World.alloc _ _ = yb
      have HC : Hid (Below V.heap.size V yb) := Lib.hid (by rw [← hW]; exact (HD.out.alloc HD.out.size _))
      clear hW HD
      obtain ⟨⟨a0, a1⟩, o0, o1⟩ := HKC.out _ HC.out
      have call := lim_mul yb b3 (HIA.out _ HC.out) (HIO.out _ HC.out)
      rw [E1.out] at call
      go_wp2_with fail
      refine call.mono ?_
      clear call
      rintro e xc ⟨s, q, n, c, rfl, hx⟩
      have HD := Lib.hid (HC.out.trans (hx.mono HC.out.size))
      clear hx a0 a1 o0 o1 HC
      go_upto_region 21 with fail
      generalize hW : World.alloc _ _ = yc
      have HC : Hid (Below V.heap.size V yc) := Lib.hid (by rw [← hW]; exact (HD.out.alloc HD.out.size _))
      clear hW HD
      have hq : Below V.heap.size V yc := HC.out
      have hqd : Below V.heap.size V yc.drew := below_drewN HC.out 1
      have C2 := Lib.hid (fun W' u (h : Below V.heap.size V W') (hu : IsInt W' u 2) => lim_two W' b3 (HIA.out _ h) hu)
      rw [E2.out] at C2
      obtain ⟨⟨a0, a1⟩, o0, o1⟩ := HKC.out _ HC.out
      have hV : V.heap.size ≤ yc.heap.size := hq.size
      go_cut [17, 18] (fun _ s18 wx => s18 = .int .i64 0 ∧ Below V.heap.size V wx)
      case first =>
        go_region_held3 (fun w' => (w'.cell? ⟨A, 0, none⟩ = some (.bool false) ∧ w'.cell? ⟨A, 1, none⟩ = some (.slice (some ⟨P, 0, none⟩) j j)))
          ((refine (HKC.out _ ?_).1; (repeat (first | with_reducible assumption | with_reducible exact Below.refl _ _ | with_reducible refine bs_alloc ?_ _ | with_reducible refine bs_drew ?_ | with_reducible refine bs_set ?_ ?_ _))))
          (first
            | (go_at_call_of 14 (Value.agg #[Value.bool false, Value.slice (some ⟨P, 0, none⟩) j j]); refine (C2.out _ _ (by (repeat (first | with_reducible assumption | with_reducible exact Below.refl _ _ | with_reducible refine bs_alloc ?_ _ | with_reducible refine bs_drew ?_ | with_reducible refine bs_set ?_ ?_ _))) (hz.out.kept (by (repeat (first | with_reducible assumption | with_reducible exact Below.refl _ _ | with_reducible refine bs_alloc ?_ _ | with_reducible refine bs_drew ?_ | with_reducible refine bs_set ?_ ?_ _))))).mono ?_; rintro e z2 ⟨s, q, n, c, rfl, hx2⟩; have hq2 : Below V.heap.size V z2 := bs_trans (by (repeat (first | with_reducible assumption | with_reducible exact Below.refl _ _ | with_reducible refine bs_alloc ?_ _ | with_reducible refine bs_drew ?_ | with_reducible refine bs_set ?_ ?_ _))) hx2; have g2 := hq2.size; (with_reducible have hbk := (blk_new rfl).kept hx2); have hk := Blk2 hbk; have hf := Blk2f hbk; obtain ⟨k0, k1⟩ := hk; obtain ⟨m0, m1⟩ := hf)
            | (go_at_call_of 14 (Value.agg #[Value.bool false, Value.slice (some ⟨P, 0, none⟩) j j]); refine (C2.out _ _ (by (repeat (first | with_reducible assumption | with_reducible exact Below.refl _ _ | with_reducible refine bs_alloc ?_ _ | with_reducible refine bs_drew ?_ | with_reducible refine bs_set ?_ ?_ _))) (hz.out.kept (by (repeat (first | with_reducible assumption | with_reducible exact Below.refl _ _ | with_reducible refine bs_alloc ?_ _ | with_reducible refine bs_drew ?_ | with_reducible refine bs_set ?_ ?_ _))))).mono ?_; rintro e z2 ⟨s, q, n, c, rfl, hx2⟩; have hq2 : Below V.heap.size V z2 := bs_trans (by (repeat (first | with_reducible assumption | with_reducible exact Below.refl _ _ | with_reducible refine bs_alloc ?_ _ | with_reducible refine bs_drew ?_ | with_reducible refine bs_set ?_ ?_ _))) hx2; have g2 := hq2.size; (with_reducible have hbk := (blk_new rfl).drew.kept hx2); have hk := Blk2 hbk; have hf := Blk2f hbk; obtain ⟨k0, k1⟩ := hk; obtain ⟨m0, m1⟩ := hf)
            | (go_at_call_of 14 (Value.agg #[Value.bool false, Value.slice (some ⟨P, 0, none⟩) j j]); refine (C2.out _ _ (by (repeat (first | with_reducible assumption | with_reducible exact Below.refl _ _ | with_reducible refine bs_alloc ?_ _ | with_reducible refine bs_drew ?_ | with_reducible refine bs_set ?_ ?_ _))) (hz.out.kept (by (repeat (first | with_reducible assumption | with_reducible exact Below.refl _ _ | with_reducible refine bs_alloc ?_ _ | with_reducible refine bs_drew ?_ | with_reducible refine bs_set ?_ ?_ _))))).mono ?_; rintro e z2 ⟨s, q, n, c, rfl, hx2⟩; have hq2 : Below V.heap.size V z2 := bs_trans (by (repeat (first | with_reducible assumption | with_reducible exact Below.refl _ _ | with_reducible refine bs_alloc ?_ _ | with_reducible refine bs_drew ?_ | with_reducible refine bs_set ?_ ?_ _))) hx2; have g2 := hq2.size; have hbk0 := HBk.out; have hbk := hbk0.kept (bs_trans (by (repeat (first | with_reducible assumption | with_reducible exact Below.refl _ _ | with_reducible refine bs_alloc ?_ _ | with_reducible refine bs_drew ?_ | with_reducible refine bs_set ?_ ?_ _))) hx2); have hk := Blk2 hbk; have hf := Blk2f hbk; obtain ⟨k0, k1⟩ := hk; obtain ⟨m0, m1⟩ := hf)
            | (go_at_call_of 14 (Value.agg #[Value.bool false, Value.slice (some ⟨P, 0, none⟩) j j]); refine (C2.out _ _ (by (repeat (first | with_reducible assumption | with_reducible exact Below.refl _ _ | with_reducible refine bs_alloc ?_ _ | with_reducible refine bs_drew ?_ | with_reducible refine bs_set ?_ ?_ _))) (hz.out.kept (by (repeat (first | with_reducible assumption | with_reducible exact Below.refl _ _ | with_reducible refine bs_alloc ?_ _ | with_reducible refine bs_drew ?_ | with_reducible refine bs_set ?_ ?_ _))))).mono ?_; rintro e z2 ⟨s, q, n, c, rfl, hx2⟩; have hq2 : Below V.heap.size V z2 := bs_trans (by (repeat (first | with_reducible assumption | with_reducible exact Below.refl _ _ | with_reducible refine bs_alloc ?_ _ | with_reducible refine bs_drew ?_ | with_reducible refine bs_set ?_ ?_ _))) hx2; have g2 := hq2.size)
            | (go_at_call_of 30 (Value.int IntKind.i64 2); refine (of_any 2 _ (by decide) (by decide)).mono ?_; rintro e z1 ⟨v, rfl, hy, hx1⟩; (with_reducible have HBk := Lib.hid ((blk_new rfl).kept hx1)); have hq1 : Below V.heap.size V z1 := bs_trans (by (repeat (first | with_reducible assumption | with_reducible exact Below.refl _ _ | with_reducible refine bs_alloc ?_ _ | with_reducible refine bs_drew ?_ | with_reducible refine bs_set ?_ ?_ _))) hx1; have g1 := hq1.size; obtain ⟨sx, qx, nx, cx, rfl, ix⟩ := can_form hy; have hz := Lib.hid ix; clear ix hy)
            | (go_at_call_of 30 (Value.int IntKind.i64 2); refine (of_any 2 _ (by decide) (by decide)).mono ?_; rintro e z1 ⟨v, rfl, hy, hx1⟩; (with_reducible have HBk := Lib.hid ((blk_new rfl).drew.kept hx1)); have hq1 : Below V.heap.size V z1 := bs_trans (by (repeat (first | with_reducible assumption | with_reducible exact Below.refl _ _ | with_reducible refine bs_alloc ?_ _ | with_reducible refine bs_drew ?_ | with_reducible refine bs_set ?_ ?_ _))) hx1; have g1 := hq1.size; obtain ⟨sx, qx, nx, cx, rfl, ix⟩ := can_form hy; have hz := Lib.hid ix; clear ix hy)
            | (go_at_call_of 30 (Value.int IntKind.i64 2); refine (of_any 2 _ (by decide) (by decide)).mono ?_; rintro e z1 ⟨v, rfl, hy, hx1⟩; have hq1 : Below V.heap.size V z1 := bs_trans (by (repeat (first | with_reducible assumption | with_reducible exact Below.refl _ _ | with_reducible refine bs_alloc ?_ _ | with_reducible refine bs_drew ?_ | with_reducible refine bs_set ?_ ?_ _))) hx1; have g1 := hq1.size; obtain ⟨sx, qx, nx, cx, rfl, ix⟩ := can_form hy; have hz := Lib.hid ix; clear ix hy))
        all_goals
          go_wp2_with fail
          go_meet
          refine ⟨rfl, ?_⟩
          (repeat (first | with_reducible assumption | with_reducible exact Below.refl _ _ | with_reducible refine bs_alloc ?_ _ | with_reducible refine bs_drew ?_ | with_reducible refine bs_set ?_ ?_ _))
      case rest =>
      obtain ⟨rfl, hq⟩ := hcut
      have HC := Lib.hid hq
      clear hq
      obtain ⟨⟨a0, a1⟩, o0, o1⟩ := HKC.out _ HC.out
      have call := lim_quo wc b3 (HIA.out _ HC.out) (HIO.out _ HC.out)
      rw [E1.out] at call
      go_wp2_with fail
      refine call.mono ?_
      clear call
      rintro e xd ⟨s, q, n, c, t, r, m, d, rfl, hx⟩
      have HD := Lib.hid (HC.out.trans (hx.mono HC.out.size))
      clear hx a0 a1 o0 o1 HC
      go_upto_region 23 with fail
      generalize hW : World.alloc _ _ = yd
      have HC : Hid (Below V.heap.size V yd) := Lib.hid (by rw [← hW]; exact ((HD.out.alloc HD.out.size _).alloc (by have := HD.out.size; simp; omega) _))
      clear hW HD
      obtain ⟨⟨a0, a1⟩, o0, o1⟩ := HKC.out _ HC.out
      have call := lim_gcd yd b3 (HIA.out _ HC.out) (HIO.out _ HC.out)
      rw [E1.out] at call
      go_wp2_with fail
      refine call.mono ?_
      clear call
      rintro e xe ⟨s, q, n, c, rfl, hx⟩
      have HD := Lib.hid (HC.out.trans (hx.mono HC.out.size))
      clear hx a0 a1 o0 o1 HC
      go_upto_region 24 with fail
      generalize hW : World.alloc _ _ = ye
      have HC : Hid (Below V.heap.size V ye) := Lib.hid (by rw [← hW]; exact (HD.out.alloc HD.out.size _))
      clear hW HD
      obtain ⟨⟨a0, a1⟩, o0, o1⟩ := HKC.out _ HC.out
      have call := lim_up ye b3 (HIA.out _ HC.out)
      rw [E2.out] at call
      go_wp2_with fail
      refine call.mono ?_
      clear call
      rintro e xf ⟨s, q, n, c, rfl, hx⟩
      have HD := Lib.hid (HC.out.trans (hx.mono HC.out.size))
      clear hx a0 a1 o0 o1 HC
      go_upto_region 25 with fail
      generalize hW : World.alloc _ _ = yf
      have HC : Hid (Below V.heap.size V yf) := Lib.hid (by rw [← hW]; exact (HD.out.alloc HD.out.size _))
      clear hW HD
      obtain ⟨⟨a0, a1⟩, o0, o1⟩ := HKC.out _ HC.out
      have call := lim_down yf b3 (HIA.out _ HC.out)
      rw [E1.out] at call
      go_wp2_with fail
      refine call.mono ?_
      clear call
      rintro e xg ⟨s, q, n, c, rfl, hx⟩
      have HD := Lib.hid (HC.out.trans (hx.mono HC.out.size))
      clear hx a0 a1 o0 o1 HC
      go_upto_region 26 with fail
      generalize hW : World.alloc _ _ = yg
      have HC : Hid (Below V.heap.size V yg) := Lib.hid (by rw [← hW]; exact (HD.out.alloc HD.out.size _))
      clear hW HD
      obtain ⟨⟨a0, a1⟩, o0, o1⟩ := HKC.out _ HC.out
      have call := lim_text yg b3 (HIA.out _ HC.out)
      rw [E1.out] at call
      go_wp2_with fail
      refine call.mono ?_
      clear call
      rintro e xh ⟨s, rfl, hx⟩
      have HD := Lib.hid (HC.out.trans (hx.mono HC.out.size))
      clear hx a0 a1 o0 o1 HC
      have HC := HD
      clear HD
      obtain ⟨i0, hi, hz0, hz1, hz2⟩ := info_parts info51
      obtain ⟨⟨a0, a1⟩, o0, o1⟩ := HKC.out _ HC.out
      have hsrc := HSA.out _ HC.out
      go_wp2_with (at_builtin; refine wpList_append_own _ rfl _ _ 22 rfl V.heap.size 51 i0 (.int .u32 0) 1 4 Try.underlying22 hi hz0 hz1 hz2 rfl (by decide) _ 0 _ rfl (World.ownsRow_nil _ _ _ _) ⟨P, 0, none⟩ j j (limbs (full j) j) rfl (by rw [limbs_length, Nat.mul_one]) ?c1 ?c2 ?c3 ?c4 ?c5 ?_)
      case c1 =>
        intro l u hu
        have hl := (List.getElem?_eq_some_iff.1 hu).1
        rw [limbs_length] at hl
        rw [limbs_get hl] at hu
        obtain rfl := Option.some.inj hu
        rw [Addr.add_lit]
        exact hsrc.cell hl
      case c2 =>
        intro u hu
        obtain ⟨l, _, rfl⟩ := List.mem_map.1 hu
        rfl
      case c3 => unfold maxLen; omega
      case c4 => omega
      case c5 => exact HC.out.size
      intro v' w2 hown1 hgrow _
      have hb2 : Below V.heap.size V w2 := HC.out.grown hgrow HC.out.size (by intro q hq; simp [Value.ownBlock] at hq)
      obtain ⟨g1, c1, rfl, _⟩ := own_int false hown1 (full_lt j) (by omega) (by omega)
      have HO := Lib.hid hown1
      have HC := Lib.hid hb2
      clear hown1 hb2 hgrow hsrc a0 a1 o0 o1
      go_wp2_with (at_builtin; refine wpList_append_own _ rfl _ _ 22 rfl V.heap.size 51 i0 (.int .u32 0) 1 4 Try.underlying22 hi hz0 hz1 hz2 rfl (by decide) _ j _ rfl (HO.out.alloc _) ⟨w2.heap.size, 0, none⟩ 2 2 [.int .u32 0, .int .u32 0] rfl rfl ?d1 ?d2 ?d3 ?d4 ?d5 ?_)
      case d1 =>
        intro l u hu
        have hl : l < 2 := (List.getElem?_eq_some_iff.1 hu).1
        rw [Addr.add_lit]
        have : l = 0 ∨ l = 1 := by omega
        rcases this with rfl | rfl
        · exact (cell_new _ _ _ _ _ _ rfl rfl).trans hu
        · exact (cell_new _ _ _ _ _ _ rfl rfl).trans hu
      case d2 => intro u hu; simp at hu; rcases hu with rfl | rfl <;> rfl
      case d3 => unfold maxLen; omega
      case d4 => omega
      case d5 => have := HC.out.size; simp; omega
      intro v'' w3 hown2 hgrow _
      rw [limbs_two (full_lt j)] at hown2
      have hb3 : Below V.heap.size V w3 := (HC.out.alloc HC.out.size _).grown hgrow (by have := HC.out.size; simp; omega) (by intro q hq; exact (World.ownsRow.lt HO.out q hq).1)
      obtain ⟨g2, c2, rfl, hI2⟩ := own_int false hown2 (Nat.lt_of_lt_of_le (full_lt j) (pow_le (by omega))) (by omega) (by omega)
      have call := lim_trim w3 b3 hI2
      have HC := Lib.hid hb3
      clear hown2 hb3 hgrow HO hI2 hi hz0 hz1 hz2
      go_wp2_with fail
      refine call.mono ?_
      clear call
      rintro e w4 ⟨s, q, c, rfl, hx⟩
      have HD := Lib.hid (HC.out.trans (hx.mono HC.out.size))
      clear hx HC
      go_upto_region 28 with fail
      generalize hW : World.alloc _ _ = y
      obtain ⟨T, hT⟩ : ∃ T, w4.heap.size = T := ⟨_, rfl⟩
      rw [hT]
      have BT : Blk y T #[.bool s, .slice q j c] := by rw [← hW, ← hT]; exact blk_new rfl
      have HC : Hid (Below V.heap.size V y) := Lib.hid (by rw [← hW]; exact HD.out.alloc HD.out.size _)
      obtain ⟨t0, t1⟩ := Blk2 BT
      obtain ⟨⟨a0, a1⟩, o0, o1⟩ := HKC.out _ HC.out
      have call := lim_bits y b3 (HIA.out _ HC.out)
      have m1 : IntKind.i64.wrap (32 * (j : Int)) = 32 * (j : Int) := by rw [IntKind.wrap_i64]; omega
      clear hW hT HD BT
      go_wp2_with fail
      refine call.mono ?_
      clear call
      rintro e w5 ⟨rfl, hx⟩
      have HF := Lib.hid (HB.out.trans ((HC.out.trans (hx.mono HC.out.size)).mono HB.out.size))
      clear hx HC
      go_wp2_with fail
      go_ret
      exact ⟨rfl, HF.out⟩

set_option maxHeartbeats 12800000 in
set_option maxRecDepth 100000 in
theorem lim_lo_t (x : Int) (w : World) (k : Nat) (hk : 254 + pl x = k) (hc : k < 256) :
    Calls Try.prog 9 #[.int .i64 x, .bool true] w fun e w' => e = .returned (.bool true) ∧ Below w.heap.size w w' := by
  have hlt := pl_lt x
  have i1 : decide ((256 : Int) < k) = false := decide_eq_false (by omega)
  have i2 : ((k : Int) == 256) = false := by simp; omega
  have b1 : 254 ≤ k := by omega
  have b2 : k ≤ 258 := by omega
  have e1 : lerr k = 0 := by unfold lerr; rw [if_neg (by omega)]
  have e2 : lerr (k + 1) = 0 := by unfold lerr; rw [if_neg (by omega)]
  have HK := Lib.hid (show (254 : Int) + (pl x : Int) = k by omega)
  have E1 := Lib.hid e1
  have E2 := Lib.hid e2
  clear hc e1 e2 hk
  go_enter Try.func9, Try.ntmps9
  go_wp2_with fail
  refine (awake_any w).mono ?_
  rintro e u0 ⟨rfl, hb⟩
  have HB := Lib.hid hb
  clear hb
  go_wp2_with fail
  refine (place_det x u0).mono ?_
  rintro e w' ⟨rfl, rfl⟩
  go_upto_region 4 with fail
  rw [HK.out]
  clear hlt HK
  go_wp2_with (at_make; refine wpList_make_num _ rfl _ _ 22 rfl 51 info51 Try.underlying22 .i64 .i64 _ _ k rfl rfl (by omega) (by omega) (by omega) ?_)
  intro w1 hb1 hz1 hS1 hF1 _
  have HZ := Lib.hid hz1
  clear hz1
  go_wp2_with fail
  generalize hW : World.alloc _ _ = W
  obtain ⟨A, hA⟩ : ∃ A, w1.heap.size = A := ⟨_, rfl⟩
  obtain ⟨P, hP⟩ : ∃ P, u0.heap.size = P := ⟨_, rfl⟩
  rw [hA]
  rw [hP] at HZ hS1 hF1 hW ⊢
  have hAP := HZ.out
  rw [hA] at hAP
  have BA : Blk W A #[.bool true, .slice (some ⟨P, 0, none⟩) k k] := by rw [← hW]; exact blk_new hA.symm
  have HSz : Hid (W.heap.size = A + 1) := Lib.hid (by rw [← hW, ← hA]; simp)
  have hS : Num W P 0 k (full 0) := by rw [← hW]; exact (hS1.alloc _).val (by unfold full; rfl)
  have hF : Free W P 0 k := by rw [← hW]; exact hF1.below ((Below.refl _ _).alloc (Nat.le_refl _) _) (fun _ => by omega)
  have HB0 : Hid (Below w.heap.size w W) := Lib.hid (HB.out.trans ((show Below u0.heap.size u0 W from by rw [← hW]; exact hb1.alloc hb1.size _).mono HB.out.size))
  have HPu : Hid (w.heap.size ≤ P) := Lib.hid (hP ▸ HB.out.size)
  have HAP := Lib.hid hAP
  clear hW HZ hS1 hF1 hb1 HB hP hA hAP
  go_loopw [7] (fun i wr => ∃ j : Nat, j ≤ k ∧ i = .int .i64 j ∧ Num wr P 0 k (full j) ∧ Free wr P 0 k ∧ Wr W wr P 0 k) (fun i _ => k - (intOf i).toNat)
  case atStart => exact ⟨0, by omega, rfl, hS, hF, Wr.refl _ _ _ _⟩
  case round =>
    clear hS hF
    obtain ⟨j, hj, rfl, hS, hF, hwr⟩ := hrel
    have hne : A ≠ P := by have := HAP.out; omega
    have BA1 := hwr.blk BA hne
    obtain ⟨a0, a1⟩ := Blk2 BA1
    by_cases hlt : j < k
    · have c1 := hS.cell0 (i := j) hlt
      have f1 := hF.at0 (i := j) hlt
      have j1 : (j : Int) < k := by omega
      have j2 : (0 : Int) ≤ j := by omega
      clear BA1 BA hne
      go_wp2_with fail
      go_roundw
      case rel =>
        have hp := hS.set0 (k := j) (d := 4294967295) hlt (by decide)
        rw [put_new (full_lt j), full_next] at hp
        exact ⟨j + 1, by omega, by go_num, hp, hF.set _ _, hwr.set _ _ (by omega) hlt⟩
      case measure => simp [intOf]; omega
    · obtain rfl : j = k := by omega
      have j1 : ¬ ((j : Int) < j) := by omega
      have hI : IsInt wr (.agg #[.bool true, .slice (some ⟨P, 0, none⟩) j j]) (sg true (full j)) := ⟨true, some ⟨P, 0, none⟩, P, 0, j, j, full j, rfl, fun _ => rfl, hS, Nat.le_refl _, by omega, rfl⟩
      have HBW : Hid (Below w.heap.size w wr) := Lib.hid (HB0.out.trans ((hwr.below (Nat.le_refl P)).mono HPu.out))
      have HWS : Hid (wr.heap.size = A + 1) := Lib.hid (by rw [hwr.size]; exact HSz.out)
      have IA := Lib.hid hI
      have SA := Lib.hid hS
      have BL := Lib.hid BA1
      have HNE := Lib.hid hne
      clear BA BA1 hI HB0 HSz hlt hwr hF hS HPu hne HAP a0 a1 hj
      go_wp2_with fail
      refine (of_any 1 wr (by decide) (by decide)).mono ?_
      rintro e u1 ⟨v1, rfl, hc1, hx1⟩
      obtain ⟨s1, q1, n1, c1, rfl, I1⟩ := can_form hc1
      go_upto_region 14 with fail
      generalize hW : World.alloc _ _ = u2
      obtain ⟨O, hO⟩ : ∃ O, u1.heap.size = O := ⟨_, rfl⟩
      rw [hO]
      have BO : Blk u2 O #[.bool s1, .slice q1 n1 c1] := by rw [← hW, ← hO]; exact blk_new rfl
      have HX2 : Hid (Below wr.heap.size wr u2) := Lib.hid (by rw [← hW]; exact hx1.alloc hx1.size _)
      have HAO : Hid (wr.heap.size ≤ O) := Lib.hid (by rw [← hO]; exact hx1.size)
      clear hW hO hc1 hx1 I1
      go_wp2_with fail
      refine (of_any (-1) u2 (by decide) (by decide)).mono ?_
      rintro e u3 ⟨v2, rfl, hc2, hx2⟩
      obtain ⟨s2, q2, n2, c2, rfl, I2⟩ := can_form hc2
      have hcO := hc2.mono (show O + 1 ≤ u2.heap.size from BO.lt)
      have BO3 := BO.kept hx2
      have HX3 := Lib.hid (HX2.out.trans (hx2.mono HX2.out.size))
      obtain ⟨o0, o1⟩ := Blk2 BO3
      obtain ⟨f0, f1⟩ := Blk2f BO3
      clear BO hx2 I2 HX2
      go_upto_region 18 with fail
      generalize hW : World.setCell _ _ _ = V
      have BO : Blk V O #[.bool s2, .slice q2 n2 c2] := by rw [← hW]; exact (BO3.set 0 (.bool s2)).set 1 (.slice q2 n2 c2)
      have IO : IsInt V (.agg #[.bool s2, .slice q2 n2 c2]) (sg true 1) := by rw [← hW]; exact ((hcO.set (p := ⟨O, 0, none⟩) (Nat.lt_succ_self O) _).set (p := ⟨O, 1, none⟩) (Nat.lt_succ_self O) _).int
      have HXV : Hid (Below wr.heap.size wr V) := Lib.hid (by rw [← hW]; exact (HX3.out.setCell HAO.out _).setCell HAO.out _)
      have HAO2 : Hid (A ≠ O) := Lib.hid (by have h1 := HAO.out; have h2 := HWS.out; omega)
      clear hW o0 o1 f0 f1 BO3 hcO hc2 HX3 HAO
      have HKC := Lib.hid (show ∀ w', Below V.heap.size V w' → ((w'.cell? ⟨A, 0, none⟩ = some (.bool true) ∧ w'.cell? ⟨A, 1, none⟩ = some (.slice (some ⟨P, 0, none⟩) j j)) ∧ w'.cell? ⟨O, 0, none⟩ = some (.bool s2) ∧ w'.cell? ⟨O, 1, none⟩ = some (.slice q2 n2 c2)) from
        fun w1 h => ⟨Blk2 ((BL.out.kept HXV.out).kept h), Blk2 (BO.kept h)⟩)
      have HIA := Lib.hid (fun w' (h : Below V.heap.size V w') => (IA.out.kept HXV.out).kept h)
      have HIO := Lib.hid (fun w' (h : Below V.heap.size V w') => IO.kept h)
      have HSA := Lib.hid (fun w' (h : Below V.heap.size V w') => (SA.out.kept HXV.out).kept h)
      have HB := Lib.hid (HBW.out.trans (HXV.out.mono HBW.out.size))
      have HC := Lib.hid (Below.refl V.heap.size V)
      have b3 : 2 ≤ j := by omega
      clear IO HXV BO IA SA BL HBW HWS HNE
      obtain ⟨⟨a0, a1⟩, o0, o1⟩ := HKC.out _ HC.out
      have call := lim_add V b3 (HIA.out _ HC.out) (HIO.out _ HC.out)
      rw [E2.out] at call
      go_wp2_with fail
      refine call.mono ?_
      clear call
      rintro e xa ⟨s, q, n, c, rfl, hx⟩
      have HD := Lib.hid (HC.out.trans (hx.mono HC.out.size))
      clear hx a0 a1 o0 o1 HC
      go_upto_region 19 with fail
      generalize hW : World.alloc _ _ = ya
      have HC : Hid (Below V.heap.size V ya) := Lib.hid (by rw [← hW]; exact (HD.out.alloc HD.out.size _))
      clear hW HD
      obtain ⟨⟨a0, a1⟩, o0, o1⟩ := HKC.out _ HC.out
      have call := lim_sub ya b3 (HIA.out _ HC.out) (HIO.out _ HC.out)
      rw [E1.out] at call
      go_wp2_with fail
      refine call.mono ?_
      clear call
      rintro e xb ⟨s, q, n, c, rfl, hx⟩
      have HD := Lib.hid (HC.out.trans (hx.mono HC.out.size))
      clear hx a0 a1 o0 o1 HC
      go_upto_region 20 with fail
      generalize hW : World.alloc _ _ = yb
      have HC : Hid (Below V.heap.size V yb) := Lib.hid (by rw [← hW]; exact (HD.out.alloc HD.out.size _))
      clear hW HD
      obtain ⟨⟨a0, a1⟩, o0, o1⟩ := HKC.out _ HC.out
      have call := lim_mul yb b3 (HIA.out _ HC.out) (HIO.out _ HC.out)
      rw [E1.out] at call
      go_wp2_with fail
      refine call.mono ?_
      clear call
      rintro e xc ⟨s, q, n, c, rfl, hx⟩
      have HD := Lib.hid (HC.out.trans (hx.mono HC.out.size))
      clear hx a0 a1 o0 o1 HC
      go_upto_region 21 with fail
      generalize hW : World.alloc _ _ = yc
      have HC : Hid (Below V.heap.size V yc) := Lib.hid (by rw [← hW]; exact (HD.out.alloc HD.out.size _))
      clear hW HD
      have hq : Below V.heap.size V yc := HC.out
      have hqd : Below V.heap.size V yc.drew := below_drewN HC.out 1
      have C2 := Lib.hid (fun W' u (h : Below V.heap.size V W') (hu : IsInt W' u 2) => lim_two W' b3 (HIA.out _ h) hu)
      rw [E2.out] at C2
      obtain ⟨⟨a0, a1⟩, o0, o1⟩ := HKC.out _ HC.out
      have hV : V.heap.size ≤ yc.heap.size := hq.size
      go_cut [17, 18] (fun _ s18 wx => s18 = .int .i64 0 ∧ Below V.heap.size V wx)
      case first =>
        go_region_held3 (fun w' => (w'.cell? ⟨A, 0, none⟩ = some (.bool true) ∧ w'.cell? ⟨A, 1, none⟩ = some (.slice (some ⟨P, 0, none⟩) j j)))
          ((refine (HKC.out _ ?_).1; (repeat (first | with_reducible assumption | with_reducible exact Below.refl _ _ | with_reducible refine bs_alloc ?_ _ | with_reducible refine bs_drew ?_ | with_reducible refine bs_set ?_ ?_ _))))
          (first
            | (go_at_call_of 14 (Value.agg #[Value.bool true, Value.slice (some ⟨P, 0, none⟩) j j]); refine (C2.out _ _ (by (repeat (first | with_reducible assumption | with_reducible exact Below.refl _ _ | with_reducible refine bs_alloc ?_ _ | with_reducible refine bs_drew ?_ | with_reducible refine bs_set ?_ ?_ _))) (hz.out.kept (by (repeat (first | with_reducible assumption | with_reducible exact Below.refl _ _ | with_reducible refine bs_alloc ?_ _ | with_reducible refine bs_drew ?_ | with_reducible refine bs_set ?_ ?_ _))))).mono ?_; rintro e z2 ⟨s, q, n, c, rfl, hx2⟩; have hq2 : Below V.heap.size V z2 := bs_trans (by (repeat (first | with_reducible assumption | with_reducible exact Below.refl _ _ | with_reducible refine bs_alloc ?_ _ | with_reducible refine bs_drew ?_ | with_reducible refine bs_set ?_ ?_ _))) hx2; have g2 := hq2.size; (with_reducible have hbk := (blk_new rfl).kept hx2); have hk := Blk2 hbk; have hf := Blk2f hbk; obtain ⟨k0, k1⟩ := hk; obtain ⟨m0, m1⟩ := hf)
            | (go_at_call_of 14 (Value.agg #[Value.bool true, Value.slice (some ⟨P, 0, none⟩) j j]); refine (C2.out _ _ (by (repeat (first | with_reducible assumption | with_reducible exact Below.refl _ _ | with_reducible refine bs_alloc ?_ _ | with_reducible refine bs_drew ?_ | with_reducible refine bs_set ?_ ?_ _))) (hz.out.kept (by (repeat (first | with_reducible assumption | with_reducible exact Below.refl _ _ | with_reducible refine bs_alloc ?_ _ | with_reducible refine bs_drew ?_ | with_reducible refine bs_set ?_ ?_ _))))).mono ?_; rintro e z2 ⟨s, q, n, c, rfl, hx2⟩; have hq2 : Below V.heap.size V z2 := bs_trans (by (repeat (first | with_reducible assumption | with_reducible exact Below.refl _ _ | with_reducible refine bs_alloc ?_ _ | with_reducible refine bs_drew ?_ | with_reducible refine bs_set ?_ ?_ _))) hx2; have g2 := hq2.size; (with_reducible have hbk := (blk_new rfl).drew.kept hx2); have hk := Blk2 hbk; have hf := Blk2f hbk; obtain ⟨k0, k1⟩ := hk; obtain ⟨m0, m1⟩ := hf)
            | (go_at_call_of 14 (Value.agg #[Value.bool true, Value.slice (some ⟨P, 0, none⟩) j j]); refine (C2.out _ _ (by (repeat (first | with_reducible assumption | with_reducible exact Below.refl _ _ | with_reducible refine bs_alloc ?_ _ | with_reducible refine bs_drew ?_ | with_reducible refine bs_set ?_ ?_ _))) (hz.out.kept (by (repeat (first | with_reducible assumption | with_reducible exact Below.refl _ _ | with_reducible refine bs_alloc ?_ _ | with_reducible refine bs_drew ?_ | with_reducible refine bs_set ?_ ?_ _))))).mono ?_; rintro e z2 ⟨s, q, n, c, rfl, hx2⟩; have hq2 : Below V.heap.size V z2 := bs_trans (by (repeat (first | with_reducible assumption | with_reducible exact Below.refl _ _ | with_reducible refine bs_alloc ?_ _ | with_reducible refine bs_drew ?_ | with_reducible refine bs_set ?_ ?_ _))) hx2; have g2 := hq2.size; have hbk0 := HBk.out; have hbk := hbk0.kept (bs_trans (by (repeat (first | with_reducible assumption | with_reducible exact Below.refl _ _ | with_reducible refine bs_alloc ?_ _ | with_reducible refine bs_drew ?_ | with_reducible refine bs_set ?_ ?_ _))) hx2); have hk := Blk2 hbk; have hf := Blk2f hbk; obtain ⟨k0, k1⟩ := hk; obtain ⟨m0, m1⟩ := hf)
            | (go_at_call_of 14 (Value.agg #[Value.bool true, Value.slice (some ⟨P, 0, none⟩) j j]); refine (C2.out _ _ (by (repeat (first | with_reducible assumption | with_reducible exact Below.refl _ _ | with_reducible refine bs_alloc ?_ _ | with_reducible refine bs_drew ?_ | with_reducible refine bs_set ?_ ?_ _))) (hz.out.kept (by (repeat (first | with_reducible assumption | with_reducible exact Below.refl _ _ | with_reducible refine bs_alloc ?_ _ | with_reducible refine bs_drew ?_ | with_reducible refine bs_set ?_ ?_ _))))).mono ?_; rintro e z2 ⟨s, q, n, c, rfl, hx2⟩; have hq2 : Below V.heap.size V z2 := bs_trans (by (repeat (first | with_reducible assumption | with_reducible exact Below.refl _ _ | with_reducible refine bs_alloc ?_ _ | with_reducible refine bs_drew ?_ | with_reducible refine bs_set ?_ ?_ _))) hx2; have g2 := hq2.size)
            | (go_at_call_of 30 (Value.int IntKind.i64 2); refine (of_any 2 _ (by decide) (by decide)).mono ?_; rintro e z1 ⟨v, rfl, hy, hx1⟩; (with_reducible have HBk := Lib.hid ((blk_new rfl).kept hx1)); have hq1 : Below V.heap.size V z1 := bs_trans (by (repeat (first | with_reducible assumption | with_reducible exact Below.refl _ _ | with_reducible refine bs_alloc ?_ _ | with_reducible refine bs_drew ?_ | with_reducible refine bs_set ?_ ?_ _))) hx1; have g1 := hq1.size; obtain ⟨sx, qx, nx, cx, rfl, ix⟩ := can_form hy; have hz := Lib.hid ix; clear ix hy)
            | (go_at_call_of 30 (Value.int IntKind.i64 2); refine (of_any 2 _ (by decide) (by decide)).mono ?_; rintro e z1 ⟨v, rfl, hy, hx1⟩; (with_reducible have HBk := Lib.hid ((blk_new rfl).drew.kept hx1)); have hq1 : Below V.heap.size V z1 := bs_trans (by (repeat (first | with_reducible assumption | with_reducible exact Below.refl _ _ | with_reducible refine bs_alloc ?_ _ | with_reducible refine bs_drew ?_ | with_reducible refine bs_set ?_ ?_ _))) hx1; have g1 := hq1.size; obtain ⟨sx, qx, nx, cx, rfl, ix⟩ := can_form hy; have hz := Lib.hid ix; clear ix hy)
            | (go_at_call_of 30 (Value.int IntKind.i64 2); refine (of_any 2 _ (by decide) (by decide)).mono ?_; rintro e z1 ⟨v, rfl, hy, hx1⟩; have hq1 : Below V.heap.size V z1 := bs_trans (by (repeat (first | with_reducible assumption | with_reducible exact Below.refl _ _ | with_reducible refine bs_alloc ?_ _ | with_reducible refine bs_drew ?_ | with_reducible refine bs_set ?_ ?_ _))) hx1; have g1 := hq1.size; obtain ⟨sx, qx, nx, cx, rfl, ix⟩ := can_form hy; have hz := Lib.hid ix; clear ix hy))
        all_goals
          go_wp2_with fail
          go_meet
          refine ⟨rfl, ?_⟩
          (repeat (first | with_reducible assumption | with_reducible exact Below.refl _ _ | with_reducible refine bs_alloc ?_ _ | with_reducible refine bs_drew ?_ | with_reducible refine bs_set ?_ ?_ _))
      case rest =>
      obtain ⟨rfl, hq⟩ := hcut
      have HC := Lib.hid hq
      clear hq
      obtain ⟨⟨a0, a1⟩, o0, o1⟩ := HKC.out _ HC.out
      have call := lim_quo wc b3 (HIA.out _ HC.out) (HIO.out _ HC.out)
      rw [E1.out] at call
      go_wp2_with fail
      refine call.mono ?_
      clear call
      rintro e xd ⟨s, q, n, c, t, r, m, d, rfl, hx⟩
      have HD := Lib.hid (HC.out.trans (hx.mono HC.out.size))
      clear hx a0 a1 o0 o1 HC
      go_upto_region 23 with fail
      generalize hW : World.alloc _ _ = yd
      have HC : Hid (Below V.heap.size V yd) := Lib.hid (by rw [← hW]; exact ((HD.out.alloc HD.out.size _).alloc (by have := HD.out.size; simp; omega) _))
      clear hW HD
      obtain ⟨⟨a0, a1⟩, o0, o1⟩ := HKC.out _ HC.out
      have call := lim_gcd yd b3 (HIA.out _ HC.out) (HIO.out _ HC.out)
      rw [E1.out] at call
      go_wp2_with fail
      refine call.mono ?_
      clear call
      rintro e xe ⟨s, q, n, c, rfl, hx⟩
      have HD := Lib.hid (HC.out.trans (hx.mono HC.out.size))
      clear hx a0 a1 o0 o1 HC
      go_upto_region 24 with fail
      generalize hW : World.alloc _ _ = ye
      have HC : Hid (Below V.heap.size V ye) := Lib.hid (by rw [← hW]; exact (HD.out.alloc HD.out.size _))
      clear hW HD
      obtain ⟨⟨a0, a1⟩, o0, o1⟩ := HKC.out _ HC.out
      have call := lim_up ye b3 (HIA.out _ HC.out)
      rw [E2.out] at call
      go_wp2_with fail
      refine call.mono ?_
      clear call
      rintro e xf ⟨s, q, n, c, rfl, hx⟩
      have HD := Lib.hid (HC.out.trans (hx.mono HC.out.size))
      clear hx a0 a1 o0 o1 HC
      go_upto_region 25 with fail
      generalize hW : World.alloc _ _ = yf
      have HC : Hid (Below V.heap.size V yf) := Lib.hid (by rw [← hW]; exact (HD.out.alloc HD.out.size _))
      clear hW HD
      obtain ⟨⟨a0, a1⟩, o0, o1⟩ := HKC.out _ HC.out
      have call := lim_down yf b3 (HIA.out _ HC.out)
      rw [E1.out] at call
      go_wp2_with fail
      refine call.mono ?_
      clear call
      rintro e xg ⟨s, q, n, c, rfl, hx⟩
      have HD := Lib.hid (HC.out.trans (hx.mono HC.out.size))
      clear hx a0 a1 o0 o1 HC
      go_upto_region 26 with fail
      generalize hW : World.alloc _ _ = yg
      have HC : Hid (Below V.heap.size V yg) := Lib.hid (by rw [← hW]; exact (HD.out.alloc HD.out.size _))
      clear hW HD
      obtain ⟨⟨a0, a1⟩, o0, o1⟩ := HKC.out _ HC.out
      have call := lim_text yg b3 (HIA.out _ HC.out)
      rw [E1.out] at call
      go_wp2_with fail
      refine call.mono ?_
      clear call
      rintro e xh ⟨s, rfl, hx⟩
      have HD := Lib.hid (HC.out.trans (hx.mono HC.out.size))
      clear hx a0 a1 o0 o1 HC
      have HC := HD
      clear HD
      obtain ⟨i0, hi, hz0, hz1, hz2⟩ := info_parts info51
      obtain ⟨⟨a0, a1⟩, o0, o1⟩ := HKC.out _ HC.out
      have hsrc := HSA.out _ HC.out
      go_wp2_with (at_builtin; refine wpList_append_own _ rfl _ _ 22 rfl V.heap.size 51 i0 (.int .u32 0) 1 4 Try.underlying22 hi hz0 hz1 hz2 rfl (by decide) _ 0 _ rfl (World.ownsRow_nil _ _ _ _) ⟨P, 0, none⟩ j j (limbs (full j) j) rfl (by rw [limbs_length, Nat.mul_one]) ?c1 ?c2 ?c3 ?c4 ?c5 ?_)
      case c1 =>
        intro l u hu
        have hl := (List.getElem?_eq_some_iff.1 hu).1
        rw [limbs_length] at hl
        rw [limbs_get hl] at hu
        obtain rfl := Option.some.inj hu
        rw [Addr.add_lit]
        exact hsrc.cell hl
      case c2 =>
        intro u hu
        obtain ⟨l, _, rfl⟩ := List.mem_map.1 hu
        rfl
      case c3 => unfold maxLen; omega
      case c4 => omega
      case c5 => exact HC.out.size
      intro v' w2 hown1 hgrow _
      have hb2 : Below V.heap.size V w2 := HC.out.grown hgrow HC.out.size (by intro q hq; simp [Value.ownBlock] at hq)
      obtain ⟨g1, c1, rfl, _⟩ := own_int false hown1 (full_lt j) (by omega) (by omega)
      have HO := Lib.hid hown1
      have HC := Lib.hid hb2
      clear hown1 hb2 hgrow hsrc a0 a1 o0 o1
      go_wp2_with (at_builtin; refine wpList_append_own _ rfl _ _ 22 rfl V.heap.size 51 i0 (.int .u32 0) 1 4 Try.underlying22 hi hz0 hz1 hz2 rfl (by decide) _ j _ rfl (HO.out.alloc _) ⟨w2.heap.size, 0, none⟩ 2 2 [.int .u32 0, .int .u32 0] rfl rfl ?d1 ?d2 ?d3 ?d4 ?d5 ?_)
      case d1 =>
        intro l u hu
        have hl : l < 2 := (List.getElem?_eq_some_iff.1 hu).1
        rw [Addr.add_lit]
        have : l = 0 ∨ l = 1 := by omega
        rcases this with rfl | rfl
        · exact (cell_new _ _ _ _ _ _ rfl rfl).trans hu
        · exact (cell_new _ _ _ _ _ _ rfl rfl).trans hu
      case d2 => intro u hu; simp at hu; rcases hu with rfl | rfl <;> rfl
      case d3 => unfold maxLen; omega
      case d4 => omega
      case d5 => have := HC.out.size; simp; omega
      intro v'' w3 hown2 hgrow _
      rw [limbs_two (full_lt j)] at hown2
      have hb3 : Below V.heap.size V w3 := (HC.out.alloc HC.out.size _).grown hgrow (by have := HC.out.size; simp; omega) (by intro q hq; exact (World.ownsRow.lt HO.out q hq).1)
      obtain ⟨g2, c2, rfl, hI2⟩ := own_int true hown2 (Nat.lt_of_lt_of_le (full_lt j) (pow_le (by omega))) (by omega) (by omega)
      have call := lim_trim w3 b3 hI2
      have HC := Lib.hid hb3
      clear hown2 hb3 hgrow HO hI2 hi hz0 hz1 hz2
      go_wp2_with fail
      refine call.mono ?_
      clear call
      rintro e w4 ⟨s, q, c, rfl, hx⟩
      have HD := Lib.hid (HC.out.trans (hx.mono HC.out.size))
      clear hx HC
      go_upto_region 28 with fail
      generalize hW : World.alloc _ _ = y
      obtain ⟨T, hT⟩ : ∃ T, w4.heap.size = T := ⟨_, rfl⟩
      rw [hT]
      have BT : Blk y T #[.bool s, .slice q j c] := by rw [← hW, ← hT]; exact blk_new rfl
      have HC : Hid (Below V.heap.size V y) := Lib.hid (by rw [← hW]; exact HD.out.alloc HD.out.size _)
      obtain ⟨t0, t1⟩ := Blk2 BT
      obtain ⟨⟨a0, a1⟩, o0, o1⟩ := HKC.out _ HC.out
      have call := lim_bits y b3 (HIA.out _ HC.out)
      have m1 : IntKind.i64.wrap (32 * (j : Int)) = 32 * (j : Int) := by rw [IntKind.wrap_i64]; omega
      clear hW hT HD BT
      go_wp2_with fail
      refine call.mono ?_
      clear call
      rintro e w5 ⟨rfl, hx⟩
      have HF := Lib.hid (HB.out.trans ((HC.out.trans (hx.mono HC.out.size)).mono HB.out.size))
      clear hx HC
      go_wp2_with fail
      go_ret
      exact ⟨rfl, HF.out⟩
end Go.Proofs.Yteggfjahjanabaa

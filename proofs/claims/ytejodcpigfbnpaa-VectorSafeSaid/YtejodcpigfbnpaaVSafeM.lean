/-
  VectorSafe: its walk.
-/
import Derived.Test.YtejodcpigfbnpaaVSafe
namespace VB
open Go Go.RowKit PB
/-- Its own memory behind the first Lift. -/
structure InSafe (w wx : World) (px py : Nat) (xx xy yx yy : Int) : Prop where
  x : Blk wx px #[.int .i64 xx, .int .i64 xy]
  y : Blk wx py #[.int .i64 yx, .int .i64 yy]
  w : Below w.heap.size w wx
theorem InSafe.kept {w wx wy : World} {px py : Nat} {xx xy yx yy : Int} (h : InSafe w wx px py xx xy yx yy) (hb : Below wx.heap.size wx wy) : InSafe w wy px py xx xy yx yy :=
  ⟨h.x.kept hb, h.y.kept hb, next h.w hb⟩
end VB
namespace Go.Proofs.Ytejodcpigfbnpaa
open Go.RowKit PB VB
set_option maxHeartbeats 8000000 in
set_option maxRecDepth 100000 in
theorem safe_main (xx xy : Int) (base : Option Addr) (b off n c : Nat) (f : Nat → Int × Int) (w : World) (hb : n ≠ 0 → base = some ⟨b, off, none⟩) (hlt : n ≠ 0 → b < w.heap.size) (hV : VSl w b off n f) (hn : n ≤ 12) (hx : Sm xx xy) :
    Calls Try.prog 6 #[vec xx xy, .slice base n c] w fun e w' => e = .returned (.bool true) ∧ Below w.heap.size w w' := by
  have i1 : ¬ (12 : Int) < n := by omega
  have HX := Lib.hid hx
  have HV := Lib.hid hV
  have HL := Lib.hid hlt
  have HB := Lib.hid hb
  have HLift := Lib.hid (fun xx xy w' hl hv => lift_sm xx xy base b off n c f w' hb hl hv (by omega))
  have HN := Lib.hid hn
  clear hx hV hlt hb hn
  obtain ⟨i0, hi, hz0, hz1, hz2⟩ := info_parts info_vec
  go_enter Try.func6, Try.ntmps6
  go_wp2_with fail
  refine (vawake_any _).mono ?_
  rintro e w1 ⟨rfl, hw1⟩
  have X1 := blk_last hw1
  have q1 := in1 hw1
  obtain ⟨x0, x1⟩ := Blk2 X1
  clear hw1
  go_wp2_with fail
  refine (rsmall_t _ _ _ HX.out).mono ?_
  rintro e w2 ⟨rfl, hw2⟩
  have X2 := Lib.hid (X1.kept hw2)
  have q2 := Lib.hid (next q1 hw2)
  obtain ⟨px, hpx⟩ : ∃ p, w.heap.size = p := ⟨_, rfl⟩
  rw [hpx] at X2 ⊢
  have HPX := Lib.hid hpx
  clear hw2 X1 q1 x0 x1 hpx
  go_wp2_with fail
  clear i1
  go_loopw [5] (fun i wr => ∃ k : Nat, k ≤ n ∧ i = .int .i64 k ∧ Hid (AllSm f k) ∧ Hid (Blk wr px #[.int .i64 xx, .int .i64 xy]) ∧ Hid (Below w.heap.size w wr)) (fun i _ => n - (intOf i).toNat)
  case atStart => exact ⟨0, Nat.zero_le _, rfl, Lib.hid (fun i hi => by omega), X2, q2⟩
  case round =>
    clear X2 q2
    obtain ⟨k, hk, rfl, hA, hXr, hwr⟩ := hrel
    by_cases hkn : k < n
    · obtain rfl := HB.out (by omega)
      obtain ⟨c0, c1⟩ := (HV.out.kept hwr.out HL.out) k hkn
      have hst : AllSm f (k + 1) ↔ Sm (f k).1 (f k).2 := ⟨fun h => h k (by omega), fun h i hi => by
        by_cases e : i = k
        · subst e; exact h
        · exact hA.out i (by omega)⟩
      have HST := Lib.hid hst
      clear hst
      generalize (f k).1 = x at *
      generalize (f k).2 = y at *
      by_cases hxy : Sm x y
      · have HNx := Lib.hid (HST.out.2 hxy)
        go_wp2_with fail
        refine (rsmall_t x y _ hxy).mono ?_
        rintro e w3 ⟨rfl, hw3⟩
        have HB1 := Lib.hid (next hwr.out hw3)
        have HX1 := Lib.hid (hXr.out.kept hw3)
        clear hw3 c0 c1
        go_wp2_with fail
        go_roundw
        case rel => exact ⟨k + 1, by omega, by go_num, HNx, HX1, HB1⟩
        case measure => simp [intOf]; omega
      · go_wp2_with fail
        refine (rsmall_f x y _ hxy).mono ?_
        rintro e w3 ⟨rfl, hw3⟩
        have HB1 := Lib.hid (next hwr.out hw3)
        clear hw3 c0 c1
        go_wp2_with fail
        refine (vawake_any _).mono ?_
        rintro e w4 ⟨rfl, hw4⟩
        go_wp2_with fail
        go_ret
        exact ⟨rfl, next HB1.out hw4⟩
    · obtain rfl : k = n := by omega
      obtain ⟨x0, x1⟩ := Blk2 hXr.out
      have HDot := Lib.hid (fun i (hi : i < k) => lift_dot HX.out hA.out hi)
      have HYS := Lib.hid (lift_small HX.out (lift_is (f := f) (n := k) HX.out hA.out))
      have HTw := Lib.hid (lift_twice (f := f) (n := k) HX.out hA.out)
      have HMi := Lib.hid (lift_mirror (f := f) (n := k) HX.out hA.out)
      have HBa := Lib.hid (lift_back (f := f) (n := k) HX.out hA.out)
      have HL1 := Lib.hid (HLift.out xx xy)
      generalize liftV xx xy f k = Y at *
      obtain ⟨yx, yy⟩ := Y
      dsimp only at HDot HYS HTw HL1
      go_wp2_with fail
      refine (HL1.out _ (fun h => Nat.lt_of_lt_of_le (HL.out h) hwr.out.size) (HV.out.kept hwr.out HL.out)).mono ?_
      rintro e w3 ⟨rfl, hw3⟩
      have HIN : Hid (InSafe w (w3.alloc (.cells #[.int .i64 yx, .int .i64 yy] 23)) px w3.heap.size xx xy yx yy) :=
        Lib.hid ⟨(hXr.out.kept hw3).alloc _, blk_new rfl, next (next hwr.out hw3) ((Below.refl _ _).alloc (Nat.le_refl _) _)⟩
      clear hw3 hXr hwr x0 x1 HL1
      obtain ⟨py, hpy⟩ : ∃ p, w3.heap.size = p := ⟨_, rfl⟩
      rw [hpy] at HIN
      go_wp2_with fail
      clear hpy
      generalize World.alloc w3 _ = W at *
      have hHW := Lib.hid (HIN.out.w.size)
      have HK := Lib.hid (show ∀ wr, Below W.heap.size W wr → InSafe w wr px py xx xy yx yy from fun wr h => HIN.out.kept h)
      have HVr := Lib.hid (show ∀ wr, Below W.heap.size W wr → VSl wr b off k f ∧ (k ≠ 0 → b < wr.heap.size) from fun wr h => ⟨HV.out.kept (HIN.out.kept h).w HL.out, fun h0 => Nat.lt_of_lt_of_le (HL.out h0) (HIN.out.kept h).w.size⟩)
      have HLT := Lib.hid (fun xx xy w' (h : Below W.heap.size W w') => HLift.out xx xy w' (HVr.out w' h).2 (HVr.out w' h).1)
      clear HIN HLift HV HL hHW hkn hk
      have HE0 := Lib.hid (show (k : Int) - 1 = ((k - 0 : Nat) : Int) - 1 by omega)
      go_loopw [7, 8] (fun o i wr => ∃ m : Nat, m ≤ k ∧ i = .int .i64 ((m : Int) - 1) ∧ OwnV 23 W.heap.size wr o (2 * (k - m)) (backF f k) ∧ Hid (Below W.heap.size W wr)) (fun _ i _ => (intOf i + 1).toNat)
      case atStart => exact ⟨k, Nat.le_refl _, rfl, by rw [Nat.sub_self]; exact OwnV.nil _ _ _ _, Lib.hid (Below.refl _ _)⟩
      case round =>
        obtain ⟨m, hm, rfl, hO, hwr⟩ := hrel
        cases m with
        | zero =>
          have e0 : ((0 : Nat) : Int) - 1 = -1 := by decide
          rw [e0]
          clear e0
          rw [Nat.sub_zero] at hO
          obtain ⟨vb, vg, vc, rfl, s1, s2, s3, s4⟩ := ownv_slice hO
          have HL3 := Lib.hid (show ∀ w', Below wr.heap.size wr w' → Calls Try.prog 32 #[vec xx xy, .slice vb (2 * k) vc] w' (fun e w2 => e = .returned (vec yx yy) ∧ Below w'.heap.size w' w2) from fun w' h => by
            have := lift_sm xx xy vb vg 0 (2 * k) vc (backF f k) w' s1 (fun h0 => Nat.lt_of_lt_of_le (s3 h0) h.size) (s2.kept h s3) (by have := HN.out; omega)
            rwa [HBa.out] at this)
          have HL1 := Lib.hid (show ∀ w', Below wr.heap.size wr w' → Calls Try.prog 32 #[vec yx yy, .slice base k c] w' (fun e w2 => e = .returned (vec yx yy) ∧ Below w'.heap.size w' w2) from fun w' h => by
            have := HLT.out yx yy w' (hwr.out.trans (h.mono hwr.out.size))
            rwa [HTw.out] at this)
          have HF1 := Lib.hid (fun w => flip_any xx xy w (by have := HX.out.a; omega) (by have := HX.out.b; omega))
          have HF2 := Lib.hid (fun w => flip_any yx yy w (by have := HYS.out.a; omega) (by have := HYS.out.b; omega))
          rw [sm_ng HX.out] at HF1
          rw [sm_ng HYS.out] at HF2
          have HFL := Lib.hid (show ∀ w', Below wr.heap.size wr w' → Calls Try.prog 35 #[.slice base k c] w' (fun e w2 => ∃ v, e = .returned v ∧ OwnV 23 w'.heap.size w2 v k (flipF f) ∧ Below w'.heap.size w' w2) from fun w' h => by
            have h2 := HVr.out w' (hwr.out.trans (h.mono hwr.out.size))
            exact flips_any base b off k c f w' HB.out h2.2 h2.1 (by have := HN.out; omega) hA.out)
          have HL2 := Lib.hid (show ∀ (z : World) (v : Value), OwnV 23 0 z v k (flipF f) → ∀ w', Below z.heap.size z w' → Calls Try.prog 32 #[vec (-xx) xy, v] w' (fun e w2 => e = .returned (vec (-yx) yy) ∧ Below w'.heap.size w' w2) from fun z v hv w' h => by
            obtain ⟨fb, fg, fc, rfl, t1, t2, t3, _⟩ := ownv_slice hv
            have := lift_sm (-xx) xy fb fg 0 k fc (flipF f) w' t1 (fun h0 => Nat.lt_of_lt_of_le (t3 h0) h.size) (t2.kept h t3) (by have := HN.out; omega)
            rwa [HMi.out] at this)
          have HKS := Lib.hid (show ∀ w', Below wr.heap.size wr w' → (w'.cell? ⟨px, 0, none⟩ = some (.int .i64 xx) ∧ w'.cell? ⟨px, 1, none⟩ = some (.int .i64 xy)) ∧ (w'.cell? ⟨py, 0, none⟩ = some (.int .i64 yx) ∧ w'.cell? ⟨py, 1, none⟩ = some (.int .i64 yy)) from
            fun w' h => ⟨Blk2 ((HK.out _ hwr.out).x.kept h), Blk2 ((HK.out _ hwr.out).y.kept h)⟩)
          have HQ := Lib.hid (HK.out _ hwr.out).w
          obtain ⟨⟨a0, a1⟩, b0, b1⟩ := HKS.out _ (Below.refl _ _)
          have hq : Below wr.heap.size wr wr := Below.refl _ _
          have hqd : Below wr.heap.size wr wr.drew := PB.below_drewN hq 1
          clear s1 s2 s3 s4 hO HLT HVr HBa HTw HMi HK hwr hm hA HDot HYS HX
          go_upto_region 18 with fail
          go_region_held3 (fun w' => (w'.cell? ⟨px, 0, none⟩ = some (.int .i64 xx) ∧ w'.cell? ⟨px, 1, none⟩ = some (.int .i64 xy)) ∧ (w'.cell? ⟨py, 0, none⟩ = some (.int .i64 yx) ∧ w'.cell? ⟨py, 1, none⟩ = some (.int .i64 yy)))
            (first | exact ⟨⟨a0, a1⟩, b0, b1⟩ | exact HKS.out _ hq)
            (first
              | (go_at_call 32; (with_reducible refine (HL3.out _ (by first | exact hq | exact hqd)).mono ?_); rintro e x1 ⟨rfl, hx1⟩; have hq : Below wr.heap.size wr x1 := (by first | exact hq.trans (hx1.mono hq.size) | exact hq.trans (below_undrew (hx1.mono hq.size))); (first | (have hp : Below _ _ x1 := (by first | exact hp.trans (hx1.mono hp.size) | exact hp.trans (below_undrew (hx1.mono hp.size)))) | skip))
              | (go_at_call 32; (with_reducible refine (HL2.out _ _ hO2 _ hp).mono ?_); rintro e x1 ⟨rfl, hx1⟩; have hq : Below wr.heap.size wr x1 := (by first | exact hq.trans (hx1.mono hq.size) | exact hq.trans (below_undrew (hx1.mono hq.size))); (first | (have hp : Below _ _ x1 := (by first | exact hp.trans (hx1.mono hp.size) | exact hp.trans (below_undrew (hx1.mono hp.size)))) | skip))
              | (go_at_call 32; (with_reducible refine (HL1.out _ (by first | exact hq | exact hqd)).mono ?_); rintro e x1 ⟨rfl, hx1⟩; have hq : Below wr.heap.size wr x1 := (by first | exact hq.trans (hx1.mono hq.size) | exact hq.trans (below_undrew (hx1.mono hq.size))); (first | (have hp : Below _ _ x1 := (by first | exact hp.trans (hx1.mono hp.size) | exact hp.trans (below_undrew (hx1.mono hp.size)))) | skip))
              | (go_at_call 34; (with_reducible refine (HF1.out _).mono ?_); rintro e x1 ⟨rfl, hx1⟩; have hq : Below wr.heap.size wr x1 := (by first | exact hq.trans (hx1.mono hq.size) | exact hq.trans (below_undrew (hx1.mono hq.size))); (first | (have hp : Below _ _ x1 := (by first | exact hp.trans (hx1.mono hp.size) | exact hp.trans (below_undrew (hx1.mono hp.size)))) | skip))
              | (go_at_call 34; (with_reducible refine (HF2.out _).mono ?_); rintro e x1 ⟨rfl, hx1⟩; have hq : Below wr.heap.size wr x1 := (by first | exact hq.trans (hx1.mono hq.size) | exact hq.trans (below_undrew (hx1.mono hq.size))); (first | (have hp : Below _ _ x1 := (by first | exact hp.trans (hx1.mono hp.size) | exact hp.trans (below_undrew (hx1.mono hp.size)))) | skip))
              | (go_at_call 35; (with_reducible refine (HFL.out _ (by first | exact hq | exact hqd)).mono ?_); rintro e x1 ⟨v, rfl, hO2', hx1⟩; have hO2 := OwnV.mono hO2' (Nat.zero_le _); have hq : Below wr.heap.size wr x1 := (by first | exact hq.trans (hx1.mono hq.size) | exact hq.trans (below_undrew (hx1.mono hq.size))); (first | (have hp : Below _ _ x1 := (by first | exact hp.trans (hx1.mono hp.size) | exact hp.trans (below_undrew (hx1.mono hp.size)))) | skip); have hp := Below.refl x1.heap.size x1)
              | fail "no arm")
          all_goals (go_wp2_with fail)
          all_goals go_ret
          all_goals exact ⟨rfl, next HQ.out hq⟩
        | succ j =>
          obtain rfl := HB.out (by omega)
          have e0 : (((j + 1 : Nat) : Int) - 1) = (j : Int) := by omega
          rw [e0]
          clear e0
          have hsf := HK.out _ hwr.out
          obtain ⟨c0, c1⟩ := (HVr.out _ hwr.out).1 j (by omega)
          obtain ⟨y0, y1⟩ := Blk2 hsf.y
          have hdt := HDot.out j (by omega)
          have hsm := hA.out j (by omega)
          have hF1 : backF f k (2 * (k - (j + 1))) = f j := by unfold backF; congr 1; omega
          have hF2 : backF f k (2 * (k - (j + 1)) + 1) = f j := by unfold backF; congr 1; omega
          have hpair : f j = ((f j).1, (f j).2) := rfl
          rw [hpair] at hF1 hF2
          have HF := Lib.hid (⟨hF1, hF2⟩ : _ ∧ _)
          have i2 : (j : Int) < k := by omega
          have i3 : (0 : Int) ≤ j := by omega
          clear hF1 hF2 hpair hsf
          have HX5 := Lib.hid (show ∀ w', Below W.heap.size W w' → (w'.cell? ⟨b, off + j * 2, none⟩ = some (.int .i64 (f j).1) ∧ w'.cell? ⟨b, off + j * 2 + 1, none⟩ = some (.int .i64 (f j).2)) from
            fun w' h => (HVr.out _ h).1 j (by omega))
          generalize (f j).1 = x at *
          generalize (f j).2 = y at *
          have HD := Lib.hid (fun w => vdot_t yx yy x y w HYS.out hsm)
          generalize dotI yx yy x y = d at *
          have i4 : ¬ d < 0 := by omega
          have HKS := Lib.hid (show ∀ w', Below wr.heap.size wr w' → (w'.cell? ⟨py, 0, none⟩ = some (.int .i64 yx) ∧ w'.cell? ⟨py, 1, none⟩ = some (.int .i64 yy)) ∧ (w'.cell? ⟨b, off + j * 2, none⟩ = some (.int .i64 x) ∧ w'.cell? ⟨b, off + j * 2 + 1, none⟩ = some (.int .i64 y)) from
            fun w' h => ⟨Blk2 ((HK.out _ hwr.out).y.kept h), by
              have hlt := (HVr.out _ hwr.out).2 (by omega)
              exact ⟨(h.cell (p := ⟨b, off + j * 2, none⟩) hlt).trans c0, (h.cell (p := ⟨b, off + j * 2 + 1, none⟩) hlt).trans c1⟩⟩)
          have hq : Below wr.heap.size wr wr := Below.refl _ _
          go_upto_region 15 with fail
          go_region_held3 (fun w' => (w'.cell? ⟨py, 0, none⟩ = some (.int .i64 yx) ∧ w'.cell? ⟨py, 1, none⟩ = some (.int .i64 yy)) ∧ (w'.cell? ⟨b, off + j * 2, none⟩ = some (.int .i64 x) ∧ w'.cell? ⟨b, off + j * 2 + 1, none⟩ = some (.int .i64 y)))
            (first | exact ⟨⟨y0, y1⟩, c0, c1⟩ | exact HKS.out _ hq)
            (first
              | (go_at_call 18; (with_reducible refine (HD.out _).mono ?_); rintro e x1 ⟨rfl, hx1⟩; have hq : Below wr.heap.size wr x1 := (by first | exact hq.trans (hx1.mono hq.size) | exact hq.trans (below_undrew (hx1.mono hq.size))))
              | fail "no arm")
          have hbx : Below W.heap.size W x1 := hwr.out.trans (hq.mono hwr.out.size)
          have hgx : W.heap.size ≤ x1.heap.size := hbx.size
          have hO1 := hO.kept hq
          have HKX := Lib.hid (show ∀ w', Below x1.heap.size x1 w' → (w'.cell? ⟨b, off + j * 2, none⟩ = some (.int .i64 x) ∧ w'.cell? ⟨b, off + j * 2 + 1, none⟩ = some (.int .i64 y)) from
            fun w' h => (HKS.out _ (next hq h)).2)
          obtain ⟨e0, e1⟩ := HKX.out _ (Below.refl _ _)
          have HJ := Lib.hid (show 2 * (k - (j + 1)) + 2 = 2 * (k - j) by omega)
          have HJ1 := Lib.hid (show j ≤ k by omega)
          have hsm1 : 2 * (k - (j + 1)) ≤ 1000000 := by have := HN.out; omega
          clear hx1 HD hdt hm hO HKS c0 c1 y0 y1 hwr hq
          go_upto_region 17 with fail
          clear i4
          go_region_held3 (fun w' => (w'.cell? ⟨b, off + j * 2, none⟩ = some (.int .i64 x) ∧ w'.cell? ⟨b, off + j * 2 + 1, none⟩ = some (.int .i64 y)))
            (first | exact ⟨e0, e1⟩ | exact HX5.out _ hba | exact HKX.out _ (PB.below_drewN (Below.refl _ _) 1) | exact HKX.out _ ((Below.refl _ _).alloc (Nat.le_refl _) _) | exact HKX.out _ (PB.below_drewN ((Below.refl _ _).alloc (Nat.le_refl _) _) 1))
            (first
              | (refine step_append_vec2 (by rfl) _ _ 35 (by rfl) 23 i0 Try.underlying35 hi hz0 hz1 hz2 W.heap.size _ (2 * (k - (j + 1))) (backF f k) (by rfl) (by exact World.ownsRow.alloc hO1 _) _ (by rfl) x y HF.out.1 HF.out.2 (by exact two_vec _ _ _ _) hsm1 (by simp; omega) ?_
                 intro v2 w5 hown hbl hg
                 have hba : Below W.heap.size W w5 := (by first | exact (hbx.alloc hgx _).trans hbl | exact (hbx.drew.alloc hgx _).trans hbl)
                 rw [HJ.out] at hown
                 clear hbl hg)
              | fail "no arm")
          have HBA := Lib.hid hba
          clear hba hbx
          go_wp2_with fail
          go_roundw
          case rel => exact ⟨j, HJ1.out, by go_num, hown, HBA⟩
          case measure => simp [intOf]
theorem safe_any (xx xy : Int) (base : Option Addr) (b off n c : Nat) (f : Nat → Int × Int) (w : World) (hb : n ≠ 0 → base = some ⟨b, off, none⟩) (hlt : n ≠ 0 → b < w.heap.size) (hV : VSl w b off n f) :
    Calls Try.prog 6 #[vec xx xy, .slice base n c] w fun e w' => e = .returned (.bool true) ∧ Below w.heap.size w w' := by
  by_cases hn : n ≤ 12
  · by_cases hx : Sm xx xy
    · exact safe_main xx xy base b off n c f w hb hlt hV hn hx
    · exact safe_x xx xy base n c w hn hx
  · exact safe_len xx xy base n c w (by omega)
end Go.Proofs.Ytejodcpigfbnpaa

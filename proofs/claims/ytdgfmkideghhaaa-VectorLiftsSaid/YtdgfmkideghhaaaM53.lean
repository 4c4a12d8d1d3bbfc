/-
  Lift of the reference.
-/
import Derived.Test.YtdgfmkideghhaaaM13
import Derived.Test.YtdgfmkideghhaaaM50
import Derived.Test.YtdgfmkideghhaaaM52
namespace Go.Proofs.Ytdgfmkideghhaaa
open Go.RowKit PB VB
set_option maxRecDepth 100000 in
theorem rlift_x (xx xy : Int) (base : Option Addr) (n c : Nat) (w : World) (hx : ¬ Sm xx xy) :
    Calls Try.prog 62 #[vec xx xy, .slice base n c] w fun e w' => e = .returned (vec 0 0) ∧ Below w.heap.size w w' := by
  go_enter Try.func62, Try.ntmps62
  go_wp2_with fail
  refine (rsmall_f _ _ _ hx).mono ?_
  rintro e w1 ⟨rfl, hw1⟩
  have R1 := blk_last2 hw1
  have q1 := in2 hw1
  obtain ⟨r0, r1⟩ := Blk2 R1
  obtain ⟨f0, f1⟩ := Blk2f R1
  clear hw1
  go_wp2_with fail
  refine bodyPost_ret (blk_res rfl _ rfl (blk_set2 R1) Try.underlying41 rfl (by rfl)) rfl ⟨rfl, (q1.setCell (by dsimp only; omega) _).setCell (by dsimp only; omega) _⟩
set_option maxHeartbeats 16000000 in
set_option maxRecDepth 100000 in
theorem rlift_any (xx xy : Int) (base : Option Addr) (b off n c : Nat) (f : Nat → Int × Int) (w : World) (hb : n ≠ 0 → base = some ⟨b, off, none⟩) (hlt : n ≠ 0 → b < w.heap.size) (hV : VSl w b off n f) (hn : n ≤ 1000) :
    Calls Try.prog 62 #[vec xx xy, .slice base n c] w fun e w' => e = .returned (vec (liftV xx xy f n).1 (liftV xx xy f n).2) ∧ Below w.heap.size w w' := by
  by_cases hx : Sm xx xy
  case neg =>
    rw [lift_zero (fun h => hx h.1)]
    exact rlift_x xx xy base n c w hx
  have HV := Lib.hid hV
  have HB := Lib.hid hb
  have HL := Lib.hid hlt
  have HX := Lib.hid hx
  have HZ := Lib.hid (show ∀ k, k < n → ¬ Sm (f k).1 (f k).2 → liftV xx xy f n = (0, 0) from fun k hk h => lift_zero fun g => h (g.2 k hk))
  have HAG := Lib.hid (fun w' (h : AllSm f n) hl hv s hs => against_any xx xy base b off n c f w' s hs hb hl hv hn h hx)
  have HLI := Lib.hid (fun h : AllSm f n => lift_is (f := f) (n := n) hx h)
  obtain ⟨Z, hZ⟩ : ∃ Z, liftV xx xy f n = Z := ⟨_, rfl⟩
  rw [hZ] at HZ HLI ⊢
  clear hV hb hlt hZ
  go_enter Try.func62, Try.ntmps62
  go_wp2_with fail
  refine (rsmall_t _ _ _ hx).mono ?_
  rintro e w1 ⟨rfl, hw1⟩
  have X1 := blk_prev hw1
  have R1 := blk_last2 hw1
  have HQ1 := Lib.hid (in2 hw1)
  have HX1 := Lib.hid X1
  have HR1 := Lib.hid R1
  clear hw1 X1 R1
  clear hx
  go_wp2_with fail
  go_loopw [5] (fun i wr => ∃ k : Nat, k ≤ n ∧ i = .int .i64 k ∧ Hid (∀ j, j < k → Sm (f j).1 (f j).2) ∧ Hid (Below w1.heap.size w1 wr)) (fun i _ => n - (intOf i).toNat)
  case atStart => exact ⟨0, Nat.zero_le _, rfl, Lib.hid (fun j hj => by omega), Lib.hid (Below.refl _ _)⟩
  case round =>
    obtain ⟨k, hk, rfl, hA, hwr⟩ := hrel
    have HBB := Lib.hid (next HQ1.out hwr.out)
    have HX2 := Lib.hid (HX1.out.kept hwr.out)
    have HR2 := Lib.hid (HR1.out.kept hwr.out)
    by_cases hkn : k < n
    · obtain rfl := HB.out (by omega)
      have hlt := Nat.lt_of_lt_of_le (HL.out (by omega)) HBB.out.size
      obtain ⟨c0, c1⟩ := (HV.out.kept HBB.out HL.out) k hkn
      have HZK := Lib.hid (HZ.out k hkn)
      have HST := Lib.hid (show Sm (f k).1 (f k).2 → ∀ j, j < k + 1 → Sm (f j).1 (f j).2 from fun h j hj => by
        by_cases e : j = k
        · subst e; exact h
        · exact hA.out j (by omega))
      by_cases hs : Sm (f k).1 (f k).2
      · replace HST := Lib.hid (HST.out hs)
        generalize (f k).1 = x at *
        generalize (f k).2 = y at *
        go_wp2_with fail
        refine (rsmall_t _ _ _ hs).mono ?_
        rintro e w2 ⟨rfl, hw2⟩
        have HQ2 := Lib.hid (bs_trans hwr.out hw2)
        clear hw2 c0 c1
        go_wp2_with fail
        go_roundw
        case rel => exact ⟨k + 1, by omega, by go_num, HST, HQ2⟩
        case measure => simp [intOf]; omega
      · replace HZK := Lib.hid (HZK.out hs)
        clear HST
        generalize (f k).1 = x at *
        generalize (f k).2 = y at *
        go_wp2_with fail
        refine (rsmall_f _ _ _ hs).mono ?_
        rintro e w2 ⟨rfl, hw2⟩
        have HQ2 := Lib.hid (next HBB.out hw2)
        have R2 := HR2.out.kept hw2
        obtain ⟨r0, r1⟩ := Blk2 R2
        obtain ⟨f0, f1⟩ := Blk2f R2
        clear hw2 c0 c1
        go_wp2_with fail
        refine bodyPost_ret (blk_res rfl _ rfl (blk_set2 R2) Try.underlying41 rfl (by rfl)) rfl ⟨by rw [HZK.out], (HQ2.out.setCell (by dsimp only; omega) _).setCell (by dsimp only; omega) _⟩
    · obtain rfl : k = n := by omega
      have hl : AllSm f k := hA.out
      have HLF := Lib.hid (HLI.out hl)
      have HAL := Lib.hid (show k ≠ 0 → b < wr.heap.size from fun h => Nat.lt_of_lt_of_le (HL.out h) HBB.out.size)
      have HVR := Lib.hid (HV.out.kept HBB.out HL.out)
      obtain ⟨x0, x1⟩ := Blk2 HX2.out
      by_cases ha : Al (SetOf f k) (xx, xy)
      · have HOK := Lib.hid (HLF.out.ok ha)
        go_wp2_with fail
        refine (HAG.out wr hl HAL.out HVR.out false ⟨fun _ => ha, fun _ => rfl⟩).mono ?_
        rintro e w2 ⟨rfl, hw2⟩
        have HQ2 := Lib.hid (next HBB.out hw2)
        have R2 := HR2.out.kept hw2
        obtain ⟨r0, r1⟩ := Blk2 R2
        obtain ⟨f0, f1⟩ := Blk2f R2
        obtain ⟨y0, y1⟩ := Blk2 (HX2.out.kept hw2)
        clear hw2 x0 x1
        go_wp2_with fail
        refine bodyPost_ret (blk_res rfl _ rfl (blk_set2 R2) Try.underlying41 rfl (by rfl)) rfl ⟨by rw [HOK.out], (HQ2.out.setCell (by dsimp only; omega) _).setCell (by dsimp only; omega) _⟩
      · go_wp2_with fail
        refine (HAG.out wr hl HAL.out HVR.out true ⟨fun h => absurd h (by decide), fun h => absurd h ha⟩).mono ?_
        rintro e w2 ⟨rfl, hw2⟩
        have HQ2 := Lib.hid (next HBB.out hw2)
        have HR3 := Lib.hid (HR2.out.kept hw2)
        have HX3 := Lib.hid (HX2.out.kept hw2)
        have HBE := Lib.hid (HLF.out.no ha)
        have HNA := Lib.hid ha
        obtain ⟨i0, hi, hz0, hz1, hz2⟩ := info_parts info_vec
        clear hw2 x0 x1 HX2 HR2 HAL HVR HX1 HR1 HQ1 HZ HAG HLI HLF ha
        go_wp2_with fail
        generalize hW : World.alloc _ _ = W3
        have HO0 := Lib.hid (show OwnV 41 w2.heap.size W3 (.slice (some ⟨w2.heap.size, 0, none⟩) 1 1) (allL xx xy f 0).length (candF xx xy f k) by rw [← hW]; exact OwnV.one _ (cand_zero xx xy f k) (Nat.le_refl _))
        have HW3 := Lib.hid (show Below w2.heap.size w2 W3 by rw [← hW]; exact bs_alloc (Below.refl _ _) _)
        clear hW
        go_loopw [6, 7] (fun o i wr => ∃ j : Nat, j ≤ k ∧ i = .int .i64 j ∧ OwnV 41 w2.heap.size wr o (allL xx xy f j).length (candF xx xy f k) ∧ Hid (Below w2.heap.size w2 wr)) (fun _ i _ => k - (intOf i).toNat)
        case atStart => exact ⟨0, Nat.zero_le _, rfl, HO0.out, HW3⟩
        case round =>
          obtain ⟨j, hj, rfl, hO, hwr2⟩ := hrel
          have HBB2 := Lib.hid (next HQ2.out hwr2.out)
          have HXR := Lib.hid (HX3.out.kept hwr2.out)
          have HN2 := Lib.hid hwr2.out.size
          by_cases hjk : j < k
          · obtain rfl := HB.out (by omega)
            have hlt := Nat.lt_of_lt_of_le (HL.out (by omega)) HBB2.out.size
            obtain ⟨c0, c1⟩ := (HV.out.kept HBB2.out HL.out) j hjk
            obtain ⟨y0, y1⟩ := Blk2 HXR.out
            have hsm := hl j hjk
            have HP := Lib.hid (show dotI xx xy (f j).1 (f j).2 < 0 → (allL xx xy f (j + 1)).length = (allL xx xy f j).length + 4 ∧ ∀ i, i < 4 → candF xx xy f k ((allL xx xy f j).length + i) = cnd xx xy (f j).1 (f j).2 i from fun h => ⟨all_len4 h, cand_four hjk h⟩)
            have HM := Lib.hid (show 0 ≤ dotI xx xy (f j).1 (f j).2 → (allL xx xy f (j + 1)).length = (allL xx xy f j).length from fun h => by rw [all_not (by omega)])
            have hm : (allL xx xy f j).length ≤ 1000000 := by have := all_len xx xy f j; omega
            have HKB := Lib.hid (show ∀ w', Below w2.heap.size w2 w' → (w'.cell? ⟨w.heap.size, 0, none⟩ = some (.int .i64 xx) ∧ w'.cell? ⟨w.heap.size, 1, none⟩ = some (.int .i64 xy)) ∧ (w'.cell? ⟨b, off + j * 2, none⟩ = some (.int .i64 (f j).1) ∧ w'.cell? ⟨b, off + j * 2 + 1, none⟩ = some (.int .i64 (f j).2)) from
              fun w' h => ⟨Blk2 (HX3.out.kept h), (HV.out.kept (next HQ2.out h) HL.out) j hjk⟩)
            have HCO := Lib.hid (fun w h => corners_any xx xy (f j).1 (f j).2 w HX.out hsm h)
            have HD := Lib.hid (fun w => rdot_t xx xy (f j).1 (f j).2 w HX.out hsm)
            generalize hme1 : (allL xx xy f (j + 1)).length = m1 at *
            have HE1 := Lib.hid hme1
            generalize (allL xx xy f j).length = m at *
            clear hme1
            generalize (f j).1 = x at *
            generalize (f j).2 = y at *
            have HKS := Lib.hid (show ∀ w', Below wr.heap.size wr w' → (w'.cell? ⟨w.heap.size, 0, none⟩ = some (.int .i64 xx) ∧ w'.cell? ⟨w.heap.size, 1, none⟩ = some (.int .i64 xy)) ∧ (w'.cell? ⟨b, off + j * 2, none⟩ = some (.int .i64 x) ∧ w'.cell? ⟨b, off + j * 2 + 1, none⟩ = some (.int .i64 y)) from
              fun w' h => ⟨Blk2 (HXR.out.kept h), (h.cell (p := ⟨b, off + j * 2, none⟩) hlt).trans c0, (h.cell (p := ⟨b, off + j * 2 + 1, none⟩) hlt).trans c1⟩)
            have hq : Below wr.heap.size wr wr := Below.refl _ _
            have i2 : (j : Int) < k := by omega
            have i3 : (0 : Int) ≤ j := by omega
            clear hlt hsm
            go_upto_region 14 with fail
            go_region_held3 (fun w' => (w'.cell? ⟨w.heap.size, 0, none⟩ = some (.int .i64 xx) ∧ w'.cell? ⟨w.heap.size, 1, none⟩ = some (.int .i64 xy)) ∧ (w'.cell? ⟨b, off + j * 2, none⟩ = some (.int .i64 x) ∧ w'.cell? ⟨b, off + j * 2 + 1, none⟩ = some (.int .i64 y)))
              (first | exact ⟨⟨y0, y1⟩, c0, c1⟩ | exact HKS.out _ hq)
              (first
                | (go_at_call 48; (with_reducible refine (HD.out _).mono ?_); rintro e x1 ⟨rfl, hx1⟩; have hq : Below wr.heap.size wr x1 := (by first | exact hq.trans (hx1.mono hq.size) | exact hq.trans (below_undrew (hx1.mono hq.size))))
                | fail "no arm")
            have hO1 := hO.kept hq
            have HB1 := Lib.hid (bs_trans hwr2.out hq)
            have HKX := Lib.hid (fun w' (h : Below x1.heap.size x1 w') => HKS.out w' (bs_trans hq h))
            have HN3 := Lib.hid (Nat.le_trans HN2.out hq.size)
            obtain ⟨⟨p0, p1⟩, e0, e1⟩ := HKX.out _ (Below.refl _ _)
            clear hq hx1 c0 c1 y0 y1 HKS hO
            by_cases hd : dotI xx xy x y < 0
            · obtain ⟨hm1, hF⟩ := HP.out hd
              have HF := Lib.hid hF
              have HM1 := Lib.hid hm1
              have HC := Lib.hid (fun w => HCO.out w hd)
              have hq : Below x1.heap.size x1 x1 := Below.refl _ _
              clear hm1 hF HP HM HCO HD
              go_upto_region 15 with fail
              go_region_held3 (fun w' => (w'.cell? ⟨w.heap.size, 0, none⟩ = some (.int .i64 xx) ∧ w'.cell? ⟨w.heap.size, 1, none⟩ = some (.int .i64 xy)) ∧ (w'.cell? ⟨b, off + j * 2, none⟩ = some (.int .i64 x) ∧ w'.cell? ⟨b, off + j * 2 + 1, none⟩ = some (.int .i64 y)))
                (first | exact ⟨⟨p0, p1⟩, e0, e1⟩ | exact HKB.out _ hba | exact HKX.out _ hq | exact HKX.out _ (PB.below_drewN hq 1))
                (first
                  | (go_at_call 110; (with_reducible refine (HC.out _).mono ?_); rintro e x2 ⟨g, rfl, hB4, hg, hx2⟩
                     have hq : Below x1.heap.size x1 x2 := (by first | exact hq.trans (hx2.mono hq.size) | exact hq.trans (below_undrew (hx2.mono hq.size)))
                     have hO2 := hO1.kept hq
                     have HB2 := Lib.hid (bs_trans HB1.out hq)
                     have HN4 := Lib.hid (Nat.le_trans HN3.out hq.size)
                     have HFC := Lib.hid (four_cells hB4 (HF.out 0 (by decide)) (HF.out 1 (by decide)) (HF.out 2 (by decide)) (HF.out 3 (by decide)))
                     clear hx2 hB4 hg)
                  | (refine step_append_vec4 (by rfl) _ _ 52 (by rfl) 41 i0 Try.underlying52 hi hz0 hz1 hz2 w2.heap.size _ m (candF xx xy f k) (by rfl) (by exact hO2) _ (by rfl) (by exact HFC.out) hm (by exact HN4.out) ?_
                     intro v2 w5 hown hbl hgr
                     have hba : Below w2.heap.size w2 w5 := (by first | exact HB2.out.trans hbl | exact HB2.out.drew.trans hbl)
                     clear hbl hgr)
                  | fail "no arm")
              all_goals
                have HBA := Lib.hid hba
                clear hba hq
                go_wp2_with fail
                go_roundw
                case rel => exact ⟨j + 1, by omega, by go_num, by rw [HE1.out, HM1.out]; exact hown, HBA⟩
                case measure => simp [intOf]; omega
            · have HM1 := Lib.hid (HM.out (by omega))
              clear HP HM HCO HD
              go_wp2_with fail
              go_roundw
              case rel => exact ⟨j + 1, by omega, by go_num, by rw [HE1.out, HM1.out]; exact hO1, HB1⟩
              case measure => simp [intOf]; omega
          · obtain rfl : j = k := by omega
            obtain ⟨ob, g, oc, rfl, hbase, hVO, hgl, hgN⟩ := ownv_slice hO
            have hLen := all_len xx xy f j
            obtain ⟨L, hL⟩ : ∃ L, (allL xx xy f j).length = L := ⟨_, rfl⟩
            rw [hL] at hbase hVO hgl hgN hLen ⊢
            obtain rfl := hbase (by omega)
            have HVO := Lib.hid hVO
            have HGL := Lib.hid hgl
            have HRR := Lib.hid (HR3.out.kept hwr2.out)
            have HVL := Lib.hid (HV.out.kept HBB2.out HL.out)
            have HLL := Lib.hid (show j ≠ 0 → b < wr.heap.size from fun h => Nat.lt_of_lt_of_le (HL.out h) HBB2.out.size)
            obtain ⟨hbest, hsev⟩ := rloop_best (xx := xx) (xy := xy) (f := f) (n := j) HNA.out
            have HSEV := Lib.hid hsev
            have HZE := Lib.hid (best_one (not_al HNA.out) hbest HBE.out)
            rw [hL] at HSEV HZE
            have HRI := Lib.hid (fun m hm => (rloop_inv xx xy (SetOf f j) (allL xx xy f j) m hm).s)
            rw [hL] at HRI
            have HB4 := Lib.hid HB.out
            have HLn := Lib.hid hLen
            have HAX := Lib.hid (fun w' hl' hv s x y hx hs => against_any x y base b off j c f w' s hs HB4.out hl' hv hn hl hx)
            have hL5 : L ≤ 10000 := by omega
            clear hO hbase hVO hgl hgN hLen hbest hsev HBE HNA HX3 HR3 HV HL hwr2 HBB hwr hA
            go_wp2_with fail
            generalize hW : World.alloc _ _ = W4
            have HP4 := Lib.hid (show Blk W4 wr.heap.size #[.int .i64 0, .int .i64 0] by rw [← hW]; exact blk_new rfl)
            have HW4 := Lib.hid (show Below wr.heap.size wr W4 by rw [← hW]; exact bs_alloc (Below.refl _ _) _)
            have HS4 := Lib.hid (show wr.heap.size < W4.heap.size by rw [← hW]; simp)
            obtain ⟨pb, hpb⟩ : ∃ pb, wr.heap.size = pb := ⟨_, rfl⟩
            have HPB := Lib.hid hpb
            rw [hpb] at HP4 HS4 ⊢
            clear hW hpb
            obtain ⟨wo, rfl⟩ : ∃ wo, wo = wr := ⟨_, rfl⟩
            go_loopw [9, 10] (fun sv i wx => ∃ m : Nat, m ≤ L ∧ i = .int .i64 m ∧ sv = .bool (rloop xx xy (SetOf f j) (allL xx xy f j) m).2 ∧ Hid (Blk wx pb #[.int .i64 (rloop xx xy (SetOf f j) (allL xx xy f j) m).1.1, .int .i64 (rloop xx xy (SetOf f j) (allL xx xy f j) m).1.2]) ∧ Hid (Below wo.heap.size wo wx) ∧ Hid (pb < wx.heap.size)) (fun _ i _ => L - (intOf i).toNat)
            case atStart => exact ⟨0, Nat.zero_le _, rfl, rfl, HP4, HW4, HS4⟩
            case round =>
              obtain ⟨m, hm, rfl, rfl, hBe, hwx, hsz⟩ := hrel
              by_cases hml : m < L
              · have HSTEP := Lib.hid (show ∀ X, rstep xx xy (SetOf f j) (rloop xx xy (SetOf f j) (allL xx xy f j) m) (candF xx xy f j m) = X → rloop xx xy (SetOf f j) (allL xx xy f j) (m + 1) = X from fun X h => h)
                have hbs := HRI.out m hm
                have hvo := (HVO.out.kept hwx.out HGL.out) m hml
                rw [Nat.zero_add] at hvo
                generalize hB1 : rloop xx xy (SetOf f j) (allL xx xy f j) (m + 1) = B1 at HSTEP
                have HB1 := Lib.hid hB1
                generalize rloop xx xy (SetOf f j) (allL xx xy f j) m = Bm at *
                generalize candF xx xy f j m = Y at *
                obtain ⟨⟨bx, b_⟩, sv⟩ := Bm
                obtain ⟨yx, yy⟩ := Y
                clear hB1
                dsimp only at hBe hbs hvo ⊢
                obtain ⟨c0, c1⟩ := hvo
                have hgw : g < wr.heap.size := Nat.lt_of_lt_of_le (HGL.out (by omega)) hwx.out.size
                obtain ⟨d0, d1⟩ := Blk2 hBe.out
                have hXc := HXR.out.kept hwx.out
                have i2 : (m : Int) < L := by omega
                have i3 : (0 : Int) ≤ m := by omega
                go_wp2_with fail
                generalize hW : World.alloc _ _ = W5
                have HY5 : Blk W5 wr.heap.size #[.int .i64 yx, .int .i64 yy] := by rw [← hW]; exact blk_new rfl
                have HBe5 : Blk W5 pb #[.int .i64 bx, .int .i64 b_] := by rw [← hW]; exact hBe.out.alloc _
                have HX5 : Blk W5 w.heap.size #[.int .i64 xx, .int .i64 xy] := by rw [← hW]; exact hXc.alloc _
                have HQ5 := Lib.hid (show Below wo.heap.size wo W5 by rw [← hW]; exact bs_alloc hwx.out _)
                have HS5 := Lib.hid (show pb < W5.heap.size by rw [← hW]; have := hsz.out; simp; omega)
                have HPN := Lib.hid (show pb ≠ wr.heap.size by have := hsz.out; omega)
                obtain ⟨py, hpy⟩ : ∃ py, wr.heap.size = py := ⟨_, rfl⟩
                rw [hpy] at HY5 HPN ⊢
                clear hW hpy hXc d0 d1 hgw c0 c1
                by_cases hy : Sm yx yy
                case neg =>
                  have HST := Lib.hid (HSTEP.out ((bx, b_), sv) (by unfold rstep; rw [if_pos (Or.inl hy)]))
                  refine (rsmall_f _ _ _ hy).mono ?_
                  rintro e w6 ⟨rfl, hb⟩
                  have HY6 := HY5.kept hb
                  have HBe6 := HBe5.kept hb
                  have HX6 := HX5.kept hb
                  have HQ6 := Lib.hid (bs_trans HQ5.out hb)
                  have HS6 := Lib.hid (Nat.lt_of_lt_of_le HS5.out hb.size)
                  clear hb HY5 HBe5 HX5 HQ5 HS5
                  go_wp2_with fail
                  go_roundw
                  case rel => exact ⟨m + 1, by omega, by go_num, by rw [HB1.out, HST.out], by rw [HB1.out, HST.out]; exact Lib.hid HBe6, HQ6, HS6⟩
                  case measure => simp [intOf]; omega
                case pos =>
                  refine (rsmall_t _ _ _ hy).mono ?_
                  rintro e w6 ⟨rfl, hb⟩
                  have HY6 := HY5.kept hb
                  have HBe6 := HBe5.kept hb
                  have HX6 := HX5.kept hb
                  have HQ6 := Lib.hid (bs_trans HQ5.out hb)
                  have HS6 := Lib.hid (Nat.lt_of_lt_of_le HS5.out hb.size)
                  clear hb HY5 HBe5 HX5 HQ5 HS5
                  obtain ⟨y0, y1⟩ := Blk2 HY6
                  have HL6 := Lib.hid (show j ≠ 0 → b < w6.heap.size from fun h => Nat.lt_of_lt_of_le (HLL.out h) HQ6.out.size)
                  have HV6 := Lib.hid (HVL.out.kept HQ6.out HLL.out)
                  go_wp2_with fail
                  by_cases ha : Al (SetOf f j) (yx, yy)
                  case neg =>
                    have HST := Lib.hid (HSTEP.out ((bx, b_), sv) (by unfold rstep; rw [if_pos (Or.inr (Or.inl ha))]))
                    refine (HAX.out w6 HL6.out HV6.out true yx yy hy ⟨fun h => absurd h (by decide), fun h => absurd h ha⟩).mono ?_
                    rintro e w7 ⟨rfl, hb⟩
                    clear HL6 HV6 y0 y1
                    have HY7 := HY6.kept hb
                    have HBe7 := HBe6.kept hb
                    have HX7 := HX6.kept hb
                    have HQ7 := Lib.hid (bs_trans HQ6.out hb)
                    have HS7 := Lib.hid (Nat.lt_of_lt_of_le HS6.out hb.size)
                    clear hb HY6 HBe6 HX6 HQ6 HS6
                    go_wp2_with fail
                    go_roundw
                    case rel => exact ⟨m + 1, by omega, by go_num, by rw [HB1.out, HST.out], by rw [HB1.out, HST.out]; exact Lib.hid HBe7, HQ7, HS7⟩
                    case measure => simp [intOf]; omega
                  case pos =>
                    refine (HAX.out w6 HL6.out HV6.out false yx yy hy ⟨fun _ => ha, fun _ => rfl⟩).mono ?_
                    rintro e w7 ⟨rfl, hb⟩
                    clear HL6 HV6 y0 y1
                    have HY7 := HY6.kept hb
                    have HBe7 := HBe6.kept hb
                    have HX7 := HX6.kept hb
                    have HQ7 := Lib.hid (bs_trans HQ6.out hb)
                    have HS7 := Lib.hid (Nat.lt_of_lt_of_le HS6.out hb.size)
                    clear hb HY6 HBe6 HX6 HQ6 HS6
                    obtain ⟨y0, y1⟩ := Blk2 HY7
                    obtain ⟨d0, d1⟩ := Blk2 HBe7
                    obtain ⟨x0, x1⟩ := Blk2 HX7
                    by_cases e1 : yx = bx
                    case pos =>
                      subst e1
                      by_cases e2 : yy = b_
                      case pos =>
                        subst e2
                        have HST := Lib.hid (HSTEP.out ((yx, yy), sv) (by unfold rstep; rw [if_pos (Or.inr (Or.inr rfl))]))
                        go_wp2_with fail
                        go_roundw
                        case rel => exact ⟨m + 1, by omega, by go_num, by rw [HB1.out, HST.out], by rw [HB1.out, HST.out]; exact Lib.hid HBe7, HQ7, HS7⟩
                        case measure => simp [intOf]; omega
                      case neg =>
                        have hno : ¬ (¬ Sm yx yy ∨ ¬ Al (SetOf f j) (yx, yy) ∨ (yx, yy) = ((yx, b_), sv).1) := by
                          rintro (h | h | h)
                          · exact h hy
                          · exact h ha
                          · exact e2 (congrArg Prod.snd h)
                        have HS1 := Lib.hid (show betI xx xy (yx, yy) (yx, b_) = 1 → B1 = ((yx, yy), false) from fun h => HSTEP.out _ (by unfold rstep; rw [if_neg hno, if_pos h]))
                        have HS0 := Lib.hid (show betI xx xy (yx, yy) (yx, b_) = 0 → B1 = ((yx, b_), true) from fun h => HSTEP.out _ (by unfold rstep; rw [if_neg hno, if_neg (by rw [h]; decide), if_pos h]))
                        have HSN := Lib.hid (show ¬ betI xx xy (yx, yy) (yx, b_) = 1 → ¬ betI xx xy (yx, yy) (yx, b_) = 0 → B1 = ((yx, b_), sv) from fun h h' => HSTEP.out _ (by unfold rstep; rw [if_neg hno, if_neg h, if_neg h']))
                        clear hno
                        have HBT := Lib.hid (rbetter_any xx xy yx yy yx b_ w7 HX.out hy hbs)
                        generalize betI xx xy (yx, yy) (yx, b_) = z at *
                        go_wp2_with fail
                        refine HBT.out.mono ?_
                        rintro e w8 ⟨rfl, hb⟩
                        clear HBT y0 y1 d0 d1 x0 x1
                        have HY8 := HY7.kept hb
                        have HBe8 := HBe7.kept hb
                        have HX8 := HX7.kept hb
                        have HQ8 := Lib.hid (bs_trans HQ7.out hb)
                        have HS8 := Lib.hid (Nat.lt_of_lt_of_le HS7.out hb.size)
                        clear hb HY7 HBe7 HX7 HQ7 HS7
                        obtain ⟨y0, y1⟩ := Blk2 HY8
                        obtain ⟨d0, d1⟩ := Blk2 HBe8
                        obtain ⟨f0, f1⟩ := Blk2f HBe8
                        by_cases h1 : z = 1
                        case pos =>
                          subst h1
                          have HST := Lib.hid (HS1.out rfl)
                          clear HS1 HS0 HSN
                          go_wp2_with fail
                          go_roundw
                          case rel => exact ⟨m + 1, by omega, by go_num, by rw [HB1.out, HST.out], by rw [HB1.out, HST.out]; exact Lib.hid (blk_set2 HBe8), Lib.hid (bs_set (bs_set HQ8.out (by show wo.heap.size ≤ pb; have := HPB.out; omega) _) (by show wo.heap.size ≤ pb; have := HPB.out; omega) _), Lib.hid (by have := HS8.out; simpa using this)⟩
                          case measure => simp [intOf]; omega
                        case neg =>
                          by_cases h0 : z = 0
                          case pos =>
                            subst h0
                            have HST := Lib.hid (HS0.out rfl)
                            clear HS1 HS0 HSN h1
                            go_wp2_with fail
                            go_roundw
                            case rel => exact ⟨m + 1, by omega, by go_num, by rw [HB1.out, HST.out], by rw [HB1.out, HST.out]; exact Lib.hid HBe8, HQ8, HS8⟩
                            case measure => simp [intOf]; omega
                          case neg =>
                            have HST := Lib.hid (HSN.out h1 h0)
                            clear HS1 HS0 HSN
                            go_wp2_with fail
                            go_roundw
                            case rel => exact ⟨m + 1, by omega, by go_num, by rw [HB1.out, HST.out], by rw [HB1.out, HST.out]; exact Lib.hid HBe8, HQ8, HS8⟩
                            case measure => simp [intOf]; omega
                    case neg =>
                      have hno : ¬ (¬ Sm yx yy ∨ ¬ Al (SetOf f j) (yx, yy) ∨ (yx, yy) = ((bx, b_), sv).1) := by
                        rintro (h | h | h)
                        · exact h hy
                        · exact h ha
                        · exact e1 (congrArg Prod.fst h)
                      have HS1 := Lib.hid (show betI xx xy (yx, yy) (bx, b_) = 1 → B1 = ((yx, yy), false) from fun h => HSTEP.out _ (by unfold rstep; rw [if_neg hno, if_pos h]))
                      have HS0 := Lib.hid (show betI xx xy (yx, yy) (bx, b_) = 0 → B1 = ((bx, b_), true) from fun h => HSTEP.out _ (by unfold rstep; rw [if_neg hno, if_neg (by rw [h]; decide), if_pos h]))
                      have HSN := Lib.hid (show ¬ betI xx xy (yx, yy) (bx, b_) = 1 → ¬ betI xx xy (yx, yy) (bx, b_) = 0 → B1 = ((bx, b_), sv) from fun h h' => HSTEP.out _ (by unfold rstep; rw [if_neg hno, if_neg h, if_neg h']))
                      clear hno
                      have HBT := Lib.hid (rbetter_any xx xy yx yy bx b_ w7 HX.out hy hbs)
                      generalize betI xx xy (yx, yy) (bx, b_) = z at *
                      go_wp2_with fail
                      refine HBT.out.mono ?_
                      rintro e w8 ⟨rfl, hb⟩
                      clear HBT y0 y1 d0 d1 x0 x1
                      have HY8 := HY7.kept hb
                      have HBe8 := HBe7.kept hb
                      have HX8 := HX7.kept hb
                      have HQ8 := Lib.hid (bs_trans HQ7.out hb)
                      have HS8 := Lib.hid (Nat.lt_of_lt_of_le HS7.out hb.size)
                      clear hb HY7 HBe7 HX7 HQ7 HS7
                      obtain ⟨y0, y1⟩ := Blk2 HY8
                      obtain ⟨d0, d1⟩ := Blk2 HBe8
                      obtain ⟨f0, f1⟩ := Blk2f HBe8
                      by_cases h1 : z = 1
                      case pos =>
                        subst h1
                        have HST := Lib.hid (HS1.out rfl)
                        clear HS1 HS0 HSN
                        go_wp2_with fail
                        go_roundw
                        case rel => exact ⟨m + 1, by omega, by go_num, by rw [HB1.out, HST.out], by rw [HB1.out, HST.out]; exact Lib.hid (blk_set2 HBe8), Lib.hid (bs_set (bs_set HQ8.out (by show wo.heap.size ≤ pb; have := HPB.out; omega) _) (by show wo.heap.size ≤ pb; have := HPB.out; omega) _), Lib.hid (by have := HS8.out; simpa using this)⟩
                        case measure => simp [intOf]; omega
                      case neg =>
                        by_cases h0 : z = 0
                        case pos =>
                          subst h0
                          have HST := Lib.hid (HS0.out rfl)
                          clear HS1 HS0 HSN h1
                          go_wp2_with fail
                          go_roundw
                          case rel => exact ⟨m + 1, by omega, by go_num, by rw [HB1.out, HST.out], by rw [HB1.out, HST.out]; exact Lib.hid HBe8, HQ8, HS8⟩
                          case measure => simp [intOf]; omega
                        case neg =>
                          have HST := Lib.hid (HSN.out h1 h0)
                          clear HS1 HS0 HSN
                          go_wp2_with fail
                          go_roundw
                          case rel => exact ⟨m + 1, by omega, by go_num, by rw [HB1.out, HST.out], by rw [HB1.out, HST.out]; exact Lib.hid HBe8, HQ8, HS8⟩
                          case measure => simp [intOf]; omega
              · obtain rfl : m = L := by omega
                have hz1 := HZE.out
                have hz2 := HSEV.out
                generalize rloop xx xy (SetOf f j) (allL xx xy f j) m = Bm at *
                obtain ⟨⟨bx, b_⟩, sv⟩ := Bm
                dsimp only at hBe hz1 hz2 ⊢
                subst hz1
                subst hz2
                have R2 := HRR.out.kept hwx.out
                have HQ := Lib.hid (next HBB2.out hwx.out)
                obtain ⟨d0, d1⟩ := Blk2 hBe.out
                obtain ⟨r0, r1⟩ := Blk2 R2
                obtain ⟨f0, f1⟩ := Blk2f R2
                go_wp2_with fail
                refine bodyPost_ret (blk_res rfl _ rfl (blk_set2 R2) Try.underlying41 rfl (by rfl)) rfl ⟨rfl, (HQ.out.setCell (by dsimp only; omega) _).setCell (by dsimp only; omega) _⟩
end Go.Proofs.Ytdgfmkideghhaaa

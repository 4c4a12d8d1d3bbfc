/-
  The verifier's Down, where no limb is left; Down of any number.
-/
import Derived.Test.YtdgfmkideghhaaaM40
namespace Go.Proofs.Ytdgfmkideghhaaa
open Go.RowKit PB

set_option maxHeartbeats 3200000 in
set_option maxRecDepth 100000 in
theorem down_far (s : Bool) (base : Option Addr) (b off n c X : Nat) (k q p : Nat) (w : World) (hb : n ≠ 0 → base = some ⟨b, off, none⟩) (hX : Num w b off n X) (hn : n ≤ c) (hl : n ≤ 1000000000)
    (hs : nl X ≤ 100000) (hk : k = 32 * q + p) (hp : p < 32) (hqM : nl X ≤ q) (hq6 : q ≤ 100000) :
    Calls Try.prog 89 #[.agg #[.bool s, .slice base n c], .int .i64 k] w (RetInt w (dn s X (2^k))) := by
  have HM := Lib.hid (fun W (h : Below w.heap.size w W) => mag_any base b off n c X W hb (hX.kept h) hn hl)
  obtain ⟨i0, hi, hz0, hz1, hz2⟩ := info_parts info51
  have e1 : (k : Int) / 32 = q := by omega
  have e2 : (k : Int) % 32 = p := by omega
  have e3 : (k : Int) ≤ 3200032 := by omega
  have HKK := Lib.hid hk
  obtain ⟨R, hR⟩ : ∃ R, dn s X (2^k) = R := ⟨_, rfl⟩
  rw [hR]
  have HR := Lib.hid hR
  clear hb hk hR
  go_enter Try.func89, Try.ntmps89
  go_upto_region 1 with fail
  generalize hW : World.alloc _ _ = W
  have B0 : Blk W w.heap.size #[.bool s, .slice base n c] := by rw [← hW]; exact (blk_new rfl).alloc _
  have B1 : Blk W (w.heap.size + 1) #[.bool false, .slice none 0 0] := by rw [← hW]; exact blk_new (by simp)
  have hbW : Below w.heap.size w W := by rw [← hW]; exact bs_alloc (bs_alloc (Below.refl _ _) _) _
  have HS := Lib.hid (show W.heap.size = w.heap.size + 2 by rw [← hW]; simp)
  clear hW
  have HK := Lib.hid (fun w3 (h : Below W.heap.size W w3) => B0.kept h)
  have HL := Lib.hid (fun w3 (h : Below W.heap.size W w3) => B1.kept h)
  obtain ⟨a0, a1⟩ := Blk2 B0
  have HBW := Lib.hid hbW
  clear B0 B1 hbW
  go_wp2_with fail
  refine (HM.out _ HBW.out).mono ?_
  rintro e w1 ⟨v, rfl, hown, hb1⟩
  obtain ⟨mb, mg, mc, rfl, hm1, hm2, hm3, hm4, hm5⟩ := own_slice hown
  have HXL := Lib.hid (lt_nl X)
  obtain ⟨M, hM⟩ : ∃ M, nl X = M := ⟨_, rfl⟩
  rw [hM] at HXL hm1 hm2 hm3 hs hqM ⊢
  have HMM := Lib.hid hM
  have HM1 := Lib.hid hm1
  have HBW1 := Lib.hid hb1
  have j0 : ¬ (q : Int) < M := by omega
  have j1 : (M : Int) ≤ 100000 := by omega
  have j2 : (p : Int) < 32 := by omega
  have j3 : (q : Int) ≤ 100000 := by omega
  clear hown hb1 HM hm1 hm4 hm5 a0 a1 hM
  go_wp2_with fail
  go_loopw [7, 8] (fun lv i wr => ∃ (j : Nat) (l : Bool), j ≤ M ∧ lv = .bool l ∧ i = .int .i64 j ∧ w1 = wr ∧ Hid (l = decide (X % B^j ≠ 0))) (fun _ i _ => M - (intOf i).toNat)
  case atStart => exact ⟨0, false, by omega, rfl, rfl, rfl, Lib.hid (by simp [Nat.mod_one])⟩
  case round =>
    obtain ⟨j, l, hj, rfl, rfl, rfl, hE⟩ := hrel
    by_cases hlt : j < M
    · obtain rfl := HM1.out (by omega)
      have cX := hm3.cell0 (i := j) (by omega)
      have hx := dg_lt X j
      obtain ⟨x, hxe⟩ : ∃ x, dg X j = x := ⟨_, rfl⟩
      rw [hxe] at cX hx
      have HX := Lib.hid hxe
      clear hxe
      have i1 : (j : Int) < q := by omega
      have i2 : (0 : Int) ≤ j := by omega
      have i3 : (j : Int) ≤ 100000 := by omega
      have i4 : (j : Int) < M := by omega
      cases l
      · have H2 : Hid ((x != 0) = decide (X % B^(j+1) ≠ 0)) := Lib.hid (by
          have h1 : X % B^j = 0 := by
            have := hE.out
            by_cases h : X % B^j = 0
            · exact h
            · rw [decide_eq_true h] at this; cases this
          rw [mod_succ, h1, HX.out, Nat.zero_add, Bool.eq_iff_iff]
          have h2 := Bp j
          simp only [bne_iff_ne, ne_eq, decide_eq_true_eq, Nat.mul_eq_zero]
          omega)
        have H3 : ((x : Int) != 0) = (x != 0) := by rw [Bool.eq_iff_iff]; simp
        go_wp2_with fail
        go_roundw
        case rel => exact ⟨j + 1, _, by omega, rfl, by go_num, trivial, H2⟩
        case measure => simp [intOf]; omega
      · have H2 : Hid (true = decide (X % B^(j+1) ≠ 0)) := Lib.hid (by
          have h1 : X % B^j ≠ 0 := by
            have := hE.out
            intro h
            rw [decide_eq_false (by simp [h])] at this; cases this
          symm
          rw [decide_eq_true_eq, mod_succ]
          exact Nat.ne_of_gt (Nat.lt_of_lt_of_le (Nat.pos_of_ne_zero h1) (Nat.le_add_right _ _)))
        go_wp2_with fail
        go_roundw
        case rel => exact ⟨j + 1, true, by omega, rfl, by go_num, trivial, H2⟩
        case measure => simp [intOf]; omega
    · have hjq : M = j := by omega
      subst hjq
      have i1 : ¬ (M : Int) < M := by omega
      have HLO : Hid (l = decide (X % 2^k ≠ 0)) := Lib.hid (by
        have h1 := hE.out
        rw [mod_of_lt HXL.out] at h1
        rw [h1, Nat.mod_eq_of_lt]
        refine Nat.lt_of_lt_of_le HXL.out ?_
        rw [pow_two HKK.out]
        exact Nat.le_trans (pow_le hqM) (Nat.le_mul_of_pos_right _ (Nat.pow_pos (by decide))))
      have HZE : Hid (X / 2^k = 0) := Lib.hid (Nat.div_eq_of_lt (by
        refine Nat.lt_of_lt_of_le HXL.out ?_
        rw [pow_two HKK.out]
        exact Nat.le_trans (pow_le hqM) (Nat.le_mul_of_pos_right _ (Nat.pow_pos (by decide)))))
      clear hlt hj hE
      go_wp2_with fail
      clear i1
      go_loopw [6, 10, 11] (fun o i x wr => o = .slice none 0 0 ∧ i = .int .i64 q ∧ w1 = wr) (fun _ _ _ _ => 0)
      case atStart => exact ⟨rfl, rfl, rfl⟩
      case round =>
        obtain ⟨rfl, rfl, rfl⟩ := hrel
        have M1 := Lib.hid (make1_any s none 0 0 0 0 0 w1 (fun h => absurd rfl h) ⟨by simp, fun i hi => absurd hi (Nat.not_lt_zero i)⟩ (Nat.le_refl _) (by decide))
        have hgr := HBW1.out.size
        have hb := HBW1.out
        obtain ⟨n0, n1⟩ := Blk2 (HK.out _ hb)
        cases l
        · have HZ2 : Hid (X % 2^k = 0) := Lib.hid (by
            have := HLO.out
            by_cases h : X % 2^k = 0
            · exact h
            · rw [decide_eq_true h] at this; cases this)
          clear HLO
          cases s
          · go_wp2_with fail
            refine M1.out.mono ?_
            rintro e w4 ⟨u, rfl, hcan, hb4⟩
            obtain ⟨s1, q1, c1, rfl⟩ := can_agg hcan
            obtain ⟨nz, hnz⟩ : ∃ nz, nl (sg false 0).natAbs = nz := ⟨_, rfl⟩
            rw [hnz] at hcan ⊢
            have hb5 := hb.trans (hb4.mono hgr)
            go_upto_region 19 with fail
            generalize hV : World.alloc _ _ = V
            have hbV := Lib.hid (show Below W.heap.size W V by rw [← hV]; exact hb5.alloc hb5.size _)
            have B2 : Blk V w4.heap.size #[.bool s1, .slice q1 nz c1] := by rw [← hV]; exact blk_new rfl
            have hcV : IsCan W.heap.size V (.agg #[.bool s1, .slice q1 nz c1]) (sg false 0) := by rw [← hV]; exact (hcan.kept (bs_alloc (Below.refl _ _) _)).mono hgr
            clear hV
            obtain ⟨x0, x1⟩ := Blk2 B2
            obtain ⟨n0, n1⟩ := Blk2 (HK.out _ hbV.out)
            obtain ⟨r0, r1⟩ := Blk2 (HL.out _ hbV.out)
            obtain ⟨f0, f1⟩ := Blk2f (HL.out _ hbV.out)
            have HCV := Lib.hid hcV
            clear hcan hcV hnz
            go_wp2_with fail
            have h1 := HS.out
            have hfin : R = sg false 0 := by rw [← HR.out, dn, HZE.out, if_neg (by simp), Int.sub_zero]
            exact bodyPost_ret (v := .agg #[.bool s1, .slice q1 nz c1]) (by simp [results, Try.results89, go_sem, r0, r1]) rfl
              ⟨_, rfl, hfin ▸ ((HCV.out.set (by show w.heap.size + 1 < W.heap.size; omega) _).set (by show w.heap.size + 1 < W.heap.size; omega) _).mono (by omega), bs_set (bs_set (HBW.out.trans (hbV.out.mono (by omega))) (by show w.heap.size ≤ w.heap.size + 1; omega) _) (by show w.heap.size ≤ w.heap.size + 1; omega) _⟩
          · go_wp2_with fail
            refine M1.out.mono ?_
            rintro e w4 ⟨u, rfl, hcan, hb4⟩
            obtain ⟨s1, q1, c1, rfl⟩ := can_agg hcan
            obtain ⟨nz, hnz⟩ : ∃ nz, nl (sg true 0).natAbs = nz := ⟨_, rfl⟩
            rw [hnz] at hcan ⊢
            have hb5 := hb.trans (hb4.mono hgr)
            go_upto_region 19 with fail
            generalize hV : World.alloc _ _ = V
            have hbV := Lib.hid (show Below W.heap.size W V by rw [← hV]; exact hb5.alloc hb5.size _)
            have B2 : Blk V w4.heap.size #[.bool s1, .slice q1 nz c1] := by rw [← hV]; exact blk_new rfl
            have hcV : IsCan W.heap.size V (.agg #[.bool s1, .slice q1 nz c1]) (sg true 0) := by rw [← hV]; exact (hcan.kept (bs_alloc (Below.refl _ _) _)).mono hgr
            clear hV
            obtain ⟨x0, x1⟩ := Blk2 B2
            obtain ⟨n0, n1⟩ := Blk2 (HK.out _ hbV.out)
            obtain ⟨r0, r1⟩ := Blk2 (HL.out _ hbV.out)
            obtain ⟨f0, f1⟩ := Blk2f (HL.out _ hbV.out)
            have HCV := Lib.hid hcV
            clear hcan hcV hnz
            go_wp2_with fail
            have h1 := HS.out
            have hfin : R = sg true 0 := by rw [← HR.out, dn, HZE.out, if_neg (by rw [HZ2.out]; simp), Int.sub_zero]
            exact bodyPost_ret (v := .agg #[.bool s1, .slice q1 nz c1]) (by simp [results, Try.results89, go_sem, r0, r1]) rfl
              ⟨_, rfl, hfin ▸ ((HCV.out.set (by show w.heap.size + 1 < W.heap.size; omega) _).set (by show w.heap.size + 1 < W.heap.size; omega) _).mono (by omega), bs_set (bs_set (HBW.out.trans (hbV.out.mono (by omega))) (by show w.heap.size ≤ w.heap.size + 1; omega) _) (by show w.heap.size ≤ w.heap.size + 1; omega) _⟩
        · have HNZ : Hid (X % 2^k ≠ 0) := Lib.hid (by
            have := HLO.out
            intro h
            rw [decide_eq_false (by simp [h])] at this; cases this)
          clear HLO
          cases s
          · go_wp2_with fail
            refine M1.out.mono ?_
            rintro e w4 ⟨u, rfl, hcan, hb4⟩
            obtain ⟨s1, q1, c1, rfl⟩ := can_agg hcan
            obtain ⟨nz, hnz⟩ : ∃ nz, nl (sg false 0).natAbs = nz := ⟨_, rfl⟩
            rw [hnz] at hcan ⊢
            have hb5 := hb.trans (hb4.mono hgr)
            go_upto_region 19 with fail
            generalize hV : World.alloc _ _ = V
            have hbV := Lib.hid (show Below W.heap.size W V by rw [← hV]; exact hb5.alloc hb5.size _)
            have B2 : Blk V w4.heap.size #[.bool s1, .slice q1 nz c1] := by rw [← hV]; exact blk_new rfl
            have hcV : IsCan W.heap.size V (.agg #[.bool s1, .slice q1 nz c1]) (sg false 0) := by rw [← hV]; exact (hcan.kept (bs_alloc (Below.refl _ _) _)).mono hgr
            clear hV
            obtain ⟨x0, x1⟩ := Blk2 B2
            obtain ⟨n0, n1⟩ := Blk2 (HK.out _ hbV.out)
            obtain ⟨r0, r1⟩ := Blk2 (HL.out _ hbV.out)
            obtain ⟨f0, f1⟩ := Blk2f (HL.out _ hbV.out)
            have HCV := Lib.hid hcV
            clear hcan hcV hnz
            go_wp2_with fail
            have h1 := HS.out
            have hfin : R = sg false 0 := by rw [← HR.out, dn, HZE.out, if_neg (by simp), Int.sub_zero]
            exact bodyPost_ret (v := .agg #[.bool s1, .slice q1 nz c1]) (by simp [results, Try.results89, go_sem, r0, r1]) rfl
              ⟨_, rfl, hfin ▸ ((HCV.out.set (by show w.heap.size + 1 < W.heap.size; omega) _).set (by show w.heap.size + 1 < W.heap.size; omega) _).mono (by omega), bs_set (bs_set (HBW.out.trans (hbV.out.mono (by omega))) (by show w.heap.size ≤ w.heap.size + 1; omega) _) (by show w.heap.size ≤ w.heap.size + 1; omega) _⟩
          · go_wp2_with fail
            refine M1.out.mono ?_
            rintro e w4 ⟨u, rfl, hcan, hb4⟩
            obtain ⟨s1, q1, c1, rfl⟩ := can_agg hcan
            obtain ⟨nz, hnz⟩ : ∃ nz, nl (sg true 0).natAbs = nz := ⟨_, rfl⟩
            rw [hnz] at hcan ⊢
            have hb5 := hb.trans (hb4.mono hgr)
            go_upto_region 19 with fail
            generalize hV : World.alloc _ _ = V
            have hbV := Lib.hid (show Below W.heap.size W V by rw [← hV]; exact hb5.alloc hb5.size _)
            have B2 : Blk V w4.heap.size #[.bool s1, .slice q1 nz c1] := by rw [← hV]; exact blk_new rfl
            have hcV : IsCan W.heap.size V (.agg #[.bool s1, .slice q1 nz c1]) (sg true 0) := by rw [← hV]; exact (hcan.kept (bs_alloc (Below.refl _ _) _)).mono hgr
            clear hV
            obtain ⟨x0, x1⟩ := Blk2 B2
            obtain ⟨n0, n1⟩ := Blk2 (HK.out _ hbV.out)
            obtain ⟨r0, r1⟩ := Blk2 (HL.out _ hbV.out)
            obtain ⟨f0, f1⟩ := Blk2f (HL.out _ hbV.out)
            have HCV := Lib.hid hcV
            clear hcan hcV hnz
            have HV2 := Lib.hid (fun w3 (h : Below V.heap.size V w3) => Blk2 (B2.kept h))
            have HZL : Hid (nl (sg true 0).natAbs ≤ 100000) := Lib.hid (by rw [sg_natAbs, nl_zero]; decide)
            have hz9 : w4.heap.size ≠ w.heap.size + 1 := by have h1 := HS.out; have h2 := hb5.size; omega
            clear B2
            go_wp2_with fail
            go_region_held3 (fun w' => w'.cell? ⟨w4.heap.size, 0, none⟩ = some (.bool s1) ∧ w'.cell? ⟨w4.heap.size, 1, none⟩ = some (.slice q1 nz c1))
              (first | (refine ⟨cell_other (cell_other (HV2.out _ hqq).1 ?_) ?_, cell_other (cell_other (HV2.out _ hqq).2 ?_) ?_⟩ <;> exact hz9) | exact HV2.out _ hqq | exact HV2.out _ hq | exact HV2.out _ (Below.refl _ _) | exact HV2.out _ (bs_drew (Below.refl _ _)))
              (first
                | (go_at_call 83; refine (minus_ref (.agg #[.bool s1, .slice q1 nz c1]) _ (sg true 0) 1 _ (HCV.out.int.kept hq) hc5.int HZL.out (Nat.le_trans (nl_le (k := 1) (by decide)) (by decide))).mono ?_; rintro e w6 ⟨u6, rfl, hc6, hb6⟩
                   have hqq := bs_trans hq hb6
                   obtain ⟨s6, q6, c6, rfl⟩ := can_agg hc6
                   have hq5 := hq.size
                   have HC6 := Lib.hid (hc6.mono hq5)
                   obtain ⟨r0, r1⟩ := Blk2 (HL.out _ (hbV.out.trans (hqq.mono hbV.out.size)))
                   obtain ⟨f0, f1⟩ := Blk2f (HL.out _ (hbV.out.trans (hqq.mono hbV.out.size)))
                   clear hc6)
                | (go_at_call 31; refine (of_ref 1 _ (by decide) (by decide)).mono ?_; rintro e w5 ⟨u5, rfl, hc5, hb6⟩
                   have hq := bs_trans (bs_drew (Below.refl V.heap.size V)) hb6
                   obtain ⟨s5, q5, c5, rfl⟩ := can_agg hc5)
                | fail "no arm")
            go_wp2_with fail
            have h1 := HS.out
            have h2 := hbV.out.size
            have hfin : R = sg true 0 - 1 := by rw [← HR.out, dn, HZE.out, if_pos (by simp; exact HNZ.out)]
            subst hfin
            exact bodyPost_ret (v := .agg #[.bool s6, .slice q6 (nl (sg true 0 - 1).natAbs) c6]) (by simp [results, Try.results89, go_sem, r0, r1]) rfl
              ⟨_, rfl, ((HC6.out.set (by show w.heap.size + 1 < V.heap.size; omega) _).set (by show w.heap.size + 1 < V.heap.size; omega) _).mono (by omega), bs_set (bs_set (HBW.out.trans ((hbV.out.trans (hqq.mono hbV.out.size)).mono (by omega))) (by show w.heap.size ≤ w.heap.size + 1; omega) _) (by show w.heap.size ≤ w.heap.size + 1; omega) _⟩

theorem dn_eq (s : Bool) (X k : Nat) : dn s X (2^k) = (sg s X) / (2^k : Nat) := by
  rw [← floor_sg]
  unfold dn sg
  cases s
  · simp
  · by_cases h : X % 2^k = 0
    · simp [h]
    · simp [h]; omega
theorem down_ref (v : Value) (z : Int) (k : Nat) (w : World) (h : IsInt w v z) (hs : nl z.natAbs ≤ 100000) (hk : k ≤ 3200000) :
    Calls Try.prog 89 #[v, .int .i64 k] w (RetInt w (z / (2^k : Nat))) := by
  obtain ⟨s, base, b, off, n, c, X, rfl, hb, hX, hn, hl, rfl⟩ := h
  rw [sg_natAbs] at hs
  rw [← dn_eq]
  by_cases hq : k / 32 < nl X
  · exact down_near s base b off n c X k (k / 32) (k % 32) w hb hX hn hl hs (by omega) (Nat.mod_lt _ (by decide)) hq
  · exact down_far s base b off n c X k (k / 32) (k % 32) w hb hX hn hl hs (by omega) (Nat.mod_lt _ (by decide)) (by omega) (by omega)
theorem up_ref (v : Value) (z : Int) (k : Nat) (w : World) (h : IsInt w v z) (hs : nl z.natAbs ≤ 100000) (hk : k ≤ 3200000) :
    Calls Try.prog 88 #[v, .int .i64 k] w (RetInt w (z * (2^k : Nat))) := by
  obtain ⟨s, base, b, off, n, c, X, rfl, hb, hX, hn, hl, rfl⟩ := h
  rw [sg_natAbs] at hs
  have e : sg s X * ((2^k : Nat) : Int) = sg s (X * 2^k) := by unfold sg; cases s <;> simp [Int.neg_mul]
  rw [e]
  exact up_mag s base b off n c X k (k / 32) (k % 32) w hb hX hn hl hs (by omega) (Nat.mod_lt _ (by decide)) (by omega) _ (Lib.hid rfl)
end Go.Proofs.Ytdgfmkideghhaaa

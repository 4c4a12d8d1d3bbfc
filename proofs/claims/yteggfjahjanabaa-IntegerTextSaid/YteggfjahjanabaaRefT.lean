/-
  The verifier's Text.
-/
import Derived.Test.YteggfjahjanabaaRefA
import Derived.Laws.Concat
namespace PB
open Go Go.RowKit
theorem str_append (a b : List Int) : strOfNums a ++ strOfNums b = strOfNums (a ++ b) := by
  unfold strOfNums
  rw [ByteArray.mk_append_mk, List.map_append]
/-- The text of the low T digits. -/
def dtx (X T : Nat) : ByteArray := strOfNums (((List.range T).map (dch X)).reverse.map Int.ofNat)
theorem dtx_zero (X : Nat) : dtx X 0 = { data := #[] } := rfl
theorem dtx_succ (X T : Nat) : strOfNums [((dch X T : Nat) : Int)] ++ dtx X T = dtx X (T+1) := by
  unfold dtx
  rw [str_append, List.range_succ, List.map_append, List.reverse_append]
  rfl
theorem dtx_size (X T : Nat) : (dtx X T).size = T := by unfold dtx; rw [strOfNums_size]; simp
theorem dtx_txt (X M : Nat) : dtx X M = strOfNums ((txt false X M).map Int.ofNat) := by unfold dtx txt; simp
theorem dtx_neg (X M : Nat) : { data := #[45] } ++ dtx X M = strOfNums ((txt true X M).map Int.ofNat) := by
  have e : ({ data := #[45] } : ByteArray) = strOfNums [45] := rfl
  unfold dtx txt
  rw [e, str_append]
  simp
/-- 'string([]byte{x})'. -/
theorem conv_one {P : Program} {w : World} {T src e : TypeId} {x : Nat} (hs : P.underlying src = some (.slice e)) (he : P.underlying e = some (.int .u8)) (_hx : x < 256) :
    ∀ dst, P.underlying dst = some .string → (convert src dst (.slice (some ⟨w.heap.size, 0, none⟩) 1 1)).run P (w.alloc (.cells #[.int .u8 x] T)) = .ok (.string (strOfNums [(x : Int)])) (w.alloc (.cells #[.int .u8 x] T)) := by
  refine run_convert_bytes_arg _ src e hs he w.heap.size 0 1 1 [(x : Int)] rfl fun i hi => ?_
  obtain rfl : i = 0 := by omega
  exact cell_new _ _ _ _ _ _ rfl rfl
/-- What is above the digits that are done. -/
theorem above {X j k : Nat} (hk : k ≤ 9) : X / 10^(9*j+k) = X / 10^(9*j) / 1000000000 * 10^(9-k) + X / 10^(9*j) % 1000000000 / 10^k := by
  have h1 : (1000000000 : Nat) = 10^(9-k) * 10^k := by rw [← Nat.pow_add, show 9 - k + k = 9 by omega]
  rw [Nat.pow_add, ← Nat.div_div_eq_div_mul]
  generalize X / 10^(9*j) = Y
  have e := Nat.div_add_mod Y 1000000000
  conv => lhs; rw [← e]
  rw [show 1000000000 * (Y / 1000000000) = (Y / 1000000000 * 10^(9-k)) * 10^k by rw [Nat.mul_assoc, ← h1, Nat.mul_comm]]
  rw [Nat.add_comm, Nat.add_mul_div_right _ _ (ten_pos k), Nat.add_comm]
theorem nd_le {X M T : Nat} (h : IsND X M) (hX : X / 10^T = 0) (h0 : X ≠ 0) : M ≤ T := by
  have h1 := isND_ge h (isND_pos h h0)
  have h2 : X < 10^T := (Nat.div_eq_zero_iff_lt (ten_pos T)).1 hX
  have h3 : 10^(M-1) < 10^T := Nat.lt_of_le_of_lt h1 h2
  have := (Nat.pow_lt_pow_iff_right (by decide)).1 h3
  omega
theorem nd_gt {X M T : Nat} (h : IsND X M) (hX : X / 10^T ≠ 0) : T < M := by
  apply Nat.lt_of_not_le
  intro hle
  exact hX (Nat.div_eq_of_lt (Nat.lt_of_lt_of_le h.1 (Nat.pow_le_pow_right (by decide) hle)))
end PB
namespace Go.Proofs.Yteggfjahjanabaa
open Go.RowKit PB
theorem divmag_small (basex : Option Addr) (bx ox X cx by_ oy Y cy : Nat) (w : World) (hbx : nl X ≠ 0 → basex = some ⟨bx, ox, none⟩)
    (hX : Num w bx ox (nl X) X) (hY : Num w by_ oy 1 Y) (hc : nl X ≤ 1000000000) (hcx : nl X ≤ cx) (hY1 : nl Y = 1) :
    Calls Try.prog 76 #[.slice basex (nl X) cx, .slice (some ⟨by_, oy, none⟩) 1 cy] w (RetDM w X Y) := by
  by_cases h : X < Y
  · have := divmag_lt basex (some ⟨by_, oy, none⟩) bx ox X cx by_ oy Y cy w hbx (fun _ => rfl) hX (by rw [hY1]; exact hY) hc (by omega) hcx h
    rwa [hY1] at this
  · have := divmag_one basex bx ox X cx by_ oy Y cy w hbx hX (by rw [hY1]; exact hY) hc hY1 (by omega)
    rwa [hY1] at this
theorem sign_isr {v : Value} {z r : Int} (w : World) (h : IsInt w v z) (hz : z.sign = r) :
    Calls Try.prog 33 #[v] w fun e w' => e = .returned (.int .i64 r) ∧ Below w.heap.size w w' := by
  subst hz
  exact sign_ref v z w h

set_option maxHeartbeats 6400000 in
set_option maxRecDepth 100000 in
theorem text_ref (s : Bool) (base : Option Addr) (b off n c X M : Nat) (w : World) (hb : n ≠ 0 → base = some ⟨b, off, none⟩) (hX : Num w b off n X) (hn : n ≤ c) (hl : n ≤ 1000000000)
    (hs : ¬ 256 < nl X) (h0 : X ≠ 0) (hM : IsND X M) (hM2 : M ≤ 3000) (res : ByteArray) (hres : res = strOfNums ((txt s X M).map Int.ofNat)) :
    Calls Try.prog 41 #[.agg #[.bool s, .slice base n c]] w fun e w' => e = .returned (.tuple #[.string res, .int .i64 0]) ∧ Below w.heap.size w w' := by
  have hI : IsInt w (.agg #[.bool s, .slice base n c]) (sg s X) := ⟨s, base, b, off, n, c, X, rfl, hb, hX, hn, hl, rfl⟩
  have HI := Lib.hid (fun W (h : Below w.heap.size w W) => hI.kept h)
  have HM := Lib.hid (fun W (h : Below w.heap.size w W) => mag_any base b off n c X W hb (hX.kept h) hn hl)
  have HND := Lib.hid hM
  have HR := Lib.hid hres
  have HX0 := Lib.hid h0
  have HSM := Lib.hid hs
  have t0 : ((nl X : Int) == 0) = false := by have := mt nl_eq_zero.1 h0; simp; omega
  have LRG := Lib.hid (fun W (h : Below w.heap.size w W) => large_ref _ _ W (hI.kept h))
  rw [sg_natAbs, decide_eq_false hs] at LRG
  clear hI hb hX hM hres h0 hs
  go_enter Try.func41, Try.ntmps41
  go_upto_region 1 with fail
  generalize hW : World.alloc _ _ = W
  have B0 : Blk W w.heap.size #[.bool s, .slice base n c] := by rw [← hW]; exact blk_new rfl
  have hbW : Below w.heap.size w W := by rw [← hW]; exact bs_alloc (Below.refl _ _) _
  have HBL := Lib.hid (show ∀ w1, Below W.heap.size W w1 → w1.cell? ⟨w.heap.size, 0, none⟩ = some (.bool s) ∧ w1.cell? ⟨w.heap.size, 1, none⟩ = some (.slice base n c) from fun w1 h => Blk2 (B0.kept h))
  have HBW := Lib.hid hbW
  obtain ⟨a0, a1⟩ := Blk2 B0
  clear hW B0 hbW
  go_wp2_with fail
  refine (LRG.out W HBW.out).mono ?_
  rintro e w1 ⟨rfl, hx1⟩
  obtain ⟨a0', a1'⟩ := HBL.out w1 hx1
  have HB1 := Lib.hid hx1
  clear a0 a1 hx1 LRG
  go_wp2_with fail
  refine (HM.out w1 (bs_trans HBW.out HB1.out)).mono ?_
  rintro e w2 ⟨v, rfl, hown, hx2⟩
  have HC := Lib.hid (cansl_own hown)
  obtain ⟨mb, mg, mc, rfl, _⟩ := own_slice hown
  have HB2 := Lib.hid (bs_trans HB1.out hx2)
  clear hown hx2 HB1 HM a0' a1'
  go_wp2_with fail
  go_loopg [4, 5] X (fun gk sm ss wr => ∃ j Y T : Nat, gk = Y ∧ CanSl wr sm Y ∧ ss = .string (dtx X T) ∧ Hid (Y = X / 10^(9*j)) ∧ Hid (Y ≠ 0 → T = 9*j) ∧ Hid (Y = 0 → T = M) ∧ Below W.heap.size W wr)
  case atStart => exact ⟨0, X, 0, rfl, HC.out, rfl, Lib.hid (by simp), Lib.hid (fun _ => rfl), Lib.hid (fun h => absurd h HX0.out), HB2.out⟩
  case round =>
    clear HC HB2
    obtain ⟨j, Y, T, rfl, ⟨qb, qg, qo, qc, rfl, hq1, hq2, hq3⟩, rfl, hY, hT1, hT2, hbr⟩ := hrel
    by_cases hY0 : gk = 0
    · have hT := Lib.hid (hT2.out hY0)
      have i1 : ¬ (0 : Int) < nl gk := by rw [hY0, nl_zero]; decide
      have i2 : ¬ 0 < nl gk := by rw [hY0, nl_zero]; decide
      obtain ⟨a0, a1⟩ := HBL.out wr hbr
      have HBR := Lib.hid hbr
      have hII := HI.out wr (bs_trans HBW.out hbr)
      clear hY0 hq1 hq2 hq3 hbr
      have hsg := sg_sign (s := s) HX0.out
      have hsz : (dtx X T).size ≤ 3000 := by rw [dtx_size, hT.out]; exact hM2
      cases s
      · go_wp2_with fail
        refine (sign_isr wr hII (r := 1) hsg).mono ?_
        rintro e w3 ⟨rfl, hx⟩
        have HF := bs_trans HBW.out (bs_trans HBR.out hx)
        clear hII hx a0 a1
        go_wp2_with fail
        go_ret2
        exact ⟨by rw [HR.out, hT.out, ← dtx_txt]; rfl, HF⟩
      · go_wp2_with fail
        refine (sign_isr wr hII (r := -1) hsg).mono ?_
        rintro e w3 ⟨rfl, hx⟩
        have HF := bs_trans HBW.out (bs_trans HBR.out hx)
        clear hII hx a0 a1
        go_wp2_with fail
        go_ret2
        exact ⟨by rw [HR.out, hT.out, ← dtx_neg]; rfl, HF⟩
    · have i1 : (0 : Int) < nl gk := by have := mt nl_eq_zero.1 hY0; omega
      have hT9 := hT1.out hY0
      subst hT9
      have hgkX : gk ≤ X := by rw [hY.out]; exact Nat.div_le_self _ _
      have hnlg : nl gk ≤ 256 := Nat.le_trans (nl_mono hgkX) (by have := HSM.out; omega)
      have HQ1 := Lib.hid hq1
      have HY0 := Lib.hid hY0
      clear hq1 hY0 hT1 hT2
      go_wp2_with fail
      generalize hV : World.alloc _ _ = V
      obtain ⟨P, hP⟩ : ∃ P, wr.heap.size = P := ⟨_, rfl⟩
      rw [hP]
      have hbV : Below wr.heap.size wr V := by rw [← hV]; exact bs_alloc (Below.refl _ _) _
      have hten : Num V P 0 1 1000000000 := by
        rw [← hV, ← hP]
        refine ⟨by rw [Nat.pow_one]; decide, fun i hi => ?_⟩
        obtain rfl : i = 0 := by omega
        exact cell_new _ _ _ _ _ _ rfl rfl
      have hq4 := hq2.kept hbV
      have HBV := Lib.hid (bs_trans hbr hbV)
      clear hV hP hbV hq2 hbr
      refine (divmag_small qb qg qo gk qc P 0 1000000000 1 V HQ1.out hq4 hten (by omega) hq3 (nl_small (by decide) (by decide))).mono ?_
      rintro e w3 ⟨vq, vr, rfl, ⟨b1, g1, o1, c1, rfl, hq11, hq12, hq13⟩, ⟨b2, g2, o2, c2, rfl, hr11, hr12, hr13⟩, hb3⟩
      have HB3 := Lib.hid (bs_trans HBV.out hb3)
      have HQQ := Lib.hid hq11
      have HRR := Lib.hid hr11
      have hR9 : gk % 1000000000 < 1000000000 := Nat.mod_lt _ (by decide)
      clear hq11 hr11 hb3 HBV hq4 hten
      obtain ⟨R, hR⟩ : ∃ R, gk % 1000000000 = R := ⟨_, rfl⟩
      rw [hR] at hR9 hr12 hr13 HRR ⊢
      have HRE := Lib.hid hR
      have hR1 : nl R ≤ 1 := nl_le (by rw [Nat.pow_one]; unfold B; omega)
      clear hR
      go_upto_if 29 with fail
      go_cut [8] from 27 to 32 (fun s8 wx => s8 = .int .u32 R ∧ w3 = wx)
      case first =>
        by_cases hr0 : R = 0
        · have k1 : ¬ 0 < nl R := by rw [hr0, nl_zero]; decide
          subst hr0
          go_wp2_with fail
          go_meet
          exact ⟨rfl, rfl⟩
        · have k0 : nl R = 1 := by have := mt nl_eq_zero.1 hr0; omega
          have cr := hr12.cell (i := 0) (by omega)
          rw [dg0_small hR1, Nat.add_zero] at cr
          obtain rfl := HRR.out (by omega)
          have k1 : 0 < nl R := by omega
          have k2 : (0 : Int) < nl R := by omega
          clear hr0 k0
          go_wp2_with fail
          go_meet
          exact ⟨rfl, rfl⟩
      case rest =>
      obtain ⟨rfl, rfl⟩ := hcut
      have hj9 : 9 * j < M := nd_gt HND.out (by rw [← hY.out]; exact HY0.out)
      go_wp2_with fail
      go_loopw [5, 8, 9] (fun ss sx sk wr2 => ∃ k D : Nat, k ≤ 9 ∧ D < 1000000000 ∧ ss = .string (dtx X (9*j+k)) ∧ sx = .int .u32 D ∧ sk = .int .i64 k ∧ Hid (D = R / 10^k) ∧ Hid (9*j+k ≤ M) ∧ Below w3.heap.size w3 wr2) (fun _ _ sk _ => 9 - (intOf sk).toNat)
      case atStart => exact ⟨0, R, by omega, hR9, rfl, rfl, rfl, Lib.hid (by simp), Lib.hid (by omega), Below.refl _ _⟩
      case round =>
        obtain ⟨k, D, hk, hD, rfl, rfl, rfl, hDe, hkM, hbw⟩ := hrel
        have hab := above (X := X) (j := j) hk
        rw [← hY.out, HRE.out, ← hDe.out] at hab
        have HAB := Lib.hid hab
        have hqn : Hid (gk / 1000000000 = 0 ↔ nl (gk / 1000000000) = 0) := Lib.hid nl_eq_zero.symm
        obtain ⟨q, hq⟩ : ∃ q, gk / 1000000000 = q := ⟨_, rfl⟩
        have hqlt : q < gk := by rw [← hq]; exact Nat.div_lt_self (by have := HY0.out; omega) (by decide)
        have HQE := Lib.hid hq
        rw [hq] at HAB hqn hq12 hq13 HQQ ⊢
        have hq2 := hq12.kept hbw
        have HW2 := Lib.hid (bs_trans HB3.out hbw)
        clear hab hq
        by_cases hend : k = 9 ∨ (D = 0 ∧ q = 0)
        · have HT : Hid (q = 0 → 9*j+k = M) := Lib.hid (fun h0 => by
            have h1 : D = 0 := by
              rcases hend with h | h
              · rw [hDe.out, h]; exact Nat.div_eq_of_lt hR9
              · exact h.1
            have h2 := HAB.out
            rw [h0, h1, Nat.zero_mul] at h2
            have := nd_le HND.out h2 HX0.out
            have := hkM.out
            omega)
          have HT9 : Hid (q ≠ 0 → 9*j+k = 9*(j+1)) := Lib.hid (fun h0 => by
            rcases hend with h | h
            · omega
            · exact absurd h.2 h0)
          have HQX : Hid (q = X / 10^(9*(j+1))) := Lib.hid (by rw [← HQE.out, hY.out, group_step, Nat.mul_add])
          by_cases hk9 : k = 9
          · subst hk9
            clear hend
            go_wp2_with fail
            go_roundg q
            case measure => exact hqlt
            case rel => exact ⟨j + 1, q, _, rfl, ⟨b1, g1, o1, c1, rfl, HQQ.out, hq2, hq13⟩, rfl, HQX, HT9, HT, HW2.out⟩
          · have hz := hend.resolve_left hk9
            have hk8 : (k : Int) < 9 := by omega
            have e1 : ¬ 0 < D := by omega
            have e2 : ¬ (0 : Int) < D := by omega
            have e3 : ¬ 0 < nl q := by rw [hz.2, nl_zero]; decide
            have e4 : ¬ (0 : Int) < nl q := by rw [hz.2, nl_zero]; decide
            clear hend hz hk9
            go_wp2_with fail
            go_roundg q
            case measure => exact hqlt
            case rel => exact ⟨j + 1, q, _, rfl, ⟨b1, g1, o1, c1, rfl, HQQ.out, hq2, hq13⟩, rfl, HQX, HT9, HT, HW2.out⟩
        · have hk8 : k < 9 := by omega
          have i3 : (k : Int) < 9 := by omega
          have hne : X / 10^(9*j+k) ≠ 0 := by
            rw [HAB.out]
            intro h0
            have h1 : D = 0 := by omega
            have h2 : q * 10^(9-k) = 0 := by omega
            have h3 : q = 0 := by
              rcases Nat.mul_eq_zero.1 h2 with h | h
              · exact h
              · have := ten_pos (9-k); omega
            exact hend (Or.inr ⟨h1, h3⟩)
          have HK1 : Hid (9*j+(k+1) ≤ M) := Lib.hid (by have := nd_gt HND.out hne; omega)
          have hch : (48 : Int) + (D : Int) % 10 = (dch X (9 * j + k) : Nat) := by
            unfold dch
            have h1 := hDe.out
            rw [← HRE.out, hY.out] at h1
            have h2 := digit_in (X := X) (a := 9 * j) hk8
            rw [← h1] at h2
            omega
          have hdl := dch_lt X (9 * j + k)
          have HS2 := dtx_succ X (9 * j + k)
          have hsz : (dtx X (9*j+k)).size ≤ 3000 := by rw [dtx_size]; have := hkM.out; omega
          have hcv := conv_one (P := Try.prog) (w := wr) (T := 5) (src := 74) (e := 5) (by rfl) (by rfl) hdl
          have HDE := Lib.hid hDe.out
          have HNE := Lib.hid (show 0 < D ∨ (¬ 0 < D ∧ 0 < nl q) by
            by_cases hd0 : 0 < D
            · exact Or.inl hd0
            · refine Or.inr ⟨hd0, ?_⟩
              have : q ≠ 0 := fun h => hend (Or.inr ⟨by omega, h⟩)
              have := mt nl_eq_zero.1 this
              omega)
          obtain ⟨dc, hdc⟩ : ∃ d, dch X (9 * j + k) = d := ⟨_, rfl⟩
          rw [hdc] at hch hdl hcv HS2
          obtain ⟨s1, hs1⟩ : ∃ s, strOfNums [(dc : Int)] = s := ⟨_, rfl⟩
          have hs1z : s1.size ≤ 1 := by rw [← hs1, strOfNums_size]; simp
          rw [hs1] at hcv HS2
          have HCV := Lib.hid hcv
          have HS2' := Lib.hid HS2
          clear hend hne hdc hs1 hcv HS2
          rcases HNE.out with e1 | ⟨e1, e3⟩
          · have e2 : (0 : Int) < D := by omega
            clear HNE
            go_wp2_with fail
            rw [HCV.out _ (by rfl)]
            go_wp2_with fail
            rw [HS2'.out]
            go_roundw
            case rel => exact ⟨k + 1, D / 10, by omega, by omega, rfl, rfl, by go_num, Lib.hid (by rw [HDE.out, Nat.div_div_eq_div_mul, ← Nat.pow_succ]), HK1, bs_alloc hbw _⟩
            case measure => simp [intOf]; omega
          · have e2 : ¬ (0 : Int) < D := by omega
            have e4 : (0 : Int) < nl q := by omega
            clear HNE
            go_wp2_with fail
            rw [HCV.out _ (by rfl)]
            go_wp2_with fail
            rw [HS2'.out]
            go_roundw
            case rel => exact ⟨k + 1, D / 10, by omega, by omega, rfl, rfl, by go_num, Lib.hid (by rw [HDE.out, Nat.div_div_eq_div_mul, ← Nat.pow_succ]), HK1, bs_alloc hbw _⟩
            case measure => simp [intOf]; omega
end Go.Proofs.Yteggfjahjanabaa

/-
  The verifier's Parse.
-/
import Derived.Test.YteggfjahjanabaaParE
namespace PB
open Go Go.RowKit
open Classical in
/-- Whether the first k bytes are digits, and there are some. -/
noncomputable def okb (t : ByteArray) (k : Nat) : Bool := decide (0 < t.size ∧ ∀ j, j < k → 48 ≤ byte t j ∧ byte t j ≤ 57)
theorem okb_zero (t : ByteArray) : okb t 0 = decide (0 < t.size) := by
  unfold okb
  by_cases h : 0 < t.size
  · rw [decide_eq_true h]; exact decide_eq_true ⟨h, fun j hj => by omega⟩
  · rw [decide_eq_false h]; exact decide_eq_false (fun h' => h h'.1)
theorem okb_end (s : ByteArray) : okb (tl s) (tl s).size = true ↔ pok s := by
  unfold okb pok AllDigits
  rw [decide_eq_true_iff]
  exact ⟨fun h => ⟨h.2, h.1⟩, fun h => ⟨h.2, h.1⟩⟩
theorem okb_no {t : ByteArray} {k : Nat} (h : okb t k = false) : okb t (k+1) = false := by
  unfold okb at *
  rw [decide_eq_false_iff_not] at *
  exact fun h' => h ⟨h'.1, fun j hj => h'.2 j (by omega)⟩
theorem okb_yes {t : ByteArray} {k : Nat} (h : okb t k = true) : okb t (k+1) = (decide (48 ≤ byte t k) && decide (byte t k ≤ 57)) := by
  unfold okb at *
  rw [decide_eq_true_iff] at h
  by_cases h1 : 48 ≤ byte t k
  · by_cases h2 : byte t k ≤ 57
    · rw [decide_eq_true h1, decide_eq_true h2]
      refine decide_eq_true ⟨h.1, fun j hj => ?_⟩
      by_cases e : j = k
      · subst e; exact ⟨h1, h2⟩
      · exact h.2 j (by omega)
    · rw [decide_eq_false h2, Bool.and_false]
      exact decide_eq_false (fun h' => h2 (h'.2 k (by omega)).2)
  · rw [decide_eq_false h1, Bool.false_and]
    exact decide_eq_false (fun h' => h1 (h'.2 k (by omega)).1)
end PB
namespace Go.Proofs.Yteggfjahjanabaa
open Go.RowKit PB

set_option maxHeartbeats 6400000 in
set_option maxRecDepth 100000 in
theorem parse_ref1 (s : ByteArray) (w : World) (hs : s.size ≤ 1000000000) (h0 : s.size = 0) :
    Calls Try.prog 39 #[.string s] w (RetIntE w (pz s) (pe s)) := by
  have ht : tl s = s := by unfold tl; rw [if_neg (by omega)]
  have hn : ng s = false := by unfold ng; exact decide_eq_false (by omega)
  have HT := Lib.hid ht
  have HN := Lib.hid hn
  have hTs : s.size ≤ s.size := Nat.le_refl _
  obtain ⟨i0, hi, hz0, hz1, hz2⟩ := info_parts info51
  have c1 : ¬ (0 : Int) < s.size := by omega
  have HNP := Lib.hid (show ¬ pok s from fun h => by have := h.2; rw [ht] at this; omega)
  clear ht hn h0 
  go_enter Try.func39, Try.ntmps39
  go_upto_region 4 with fail
  generalize hW : World.alloc _ _ = W
  obtain ⟨R, hR⟩ : ∃ R, w.heap.size = R := ⟨_, rfl⟩
  rw [hR]
  have BR : Blk W R #[.bool false, .slice none 0 0] := by rw [← hW, ← hR]; exact blk_new rfl
  have HBW : Hid (Below w.heap.size w W) := Lib.hid (by rw [← hW]; exact bs_alloc (Below.refl _ _) _)
  have HSZ : Hid (W.heap.size = R + 1) := Lib.hid (by rw [← hW, ← hR]; simp)
  have HR := Lib.hid hR
  have HBR := Lib.hid BR
  clear hW hR BR c1
  have hok0 : decide (0 < s.size) = okb s 0 := (okb_zero s).symm
  have hok1 : decide ((0 : Int) < (s.size : Int)) = okb s 0 := by rw [← hok0]; exact decide_eq_decide.2 (by omega)
  go_wp2_with fail
  go_loop [5, 6] (fun s5 s6 => ∃ k : Nat, k ≤ s.size ∧ s5 = .bool (okb s k) ∧ s6 = .int .i64 k) (fun _ s6 => s.size - (intOf s6).toNat)
  case atStart => exact ⟨0, Nat.zero_le _, (by first | rfl | (rw [okb_zero, decide_eq_true (by omega)]) | (rw [okb_zero, decide_eq_false (by omega)])), rfl⟩
  case round =>
    clear hok0 hok1
    obtain ⟨k, hk, rfl, rfl⟩ := hrel
    by_cases hlt : k < s.size
    · have hbe := byte_eq hlt
      obtain ⟨d, hd⟩ : ∃ d, byte s k = d := ⟨_, rfl⟩
      rw [hd] at hbe
      have i1 : (k : Int) < s.size := by omega
      have i2 : (0 : Int) ≤ k := by omega
      obtain ⟨β, hβ⟩ : ∃ β, okb s k = β := ⟨_, rfl⟩
      rw [hβ]
      cases β
      · have HOK := Lib.hid (okb_no hβ)
        clear hβ hd hbe
        go_wp2_with fail
        go_round
        case rel => exact ⟨k + 1, by omega, by rw [HOK.out], by go_num⟩
        case measure => simp [intOf]; omega
      · have HOK := Lib.hid (okb_yes hβ)
        rw [hd] at HOK
        clear hβ hd
        by_cases h1 : 48 ≤ d
        · have t1 : ¬ ((s[k].toNat : Int) < 48) := by omega
          have t1' : (48 : Int) ≤ (s[k].toNat : Int) := by omega
          by_cases h2 : d ≤ 57
          · have t2 : (s[k].toNat : Int) ≤ 57 := by omega
            have HOK2 : Hid (okb s (k+1) = true) := Lib.hid (by rw [HOK.out, decide_eq_true h1, decide_eq_true h2]; rfl)
            clear hbe HOK h1 h2
            go_wp2_with fail
            go_round
            case rel => exact ⟨k + 1, by omega, by rw [HOK2.out], by go_num⟩
            case measure => simp [intOf]; omega
          · have t2 : ¬ ((s[k].toNat : Int) ≤ 57) := by omega
            have HOK2 : Hid (okb s (k+1) = false) := Lib.hid (by rw [HOK.out, decide_eq_true h1, decide_eq_false h2]; rfl)
            clear hbe HOK h1 h2
            go_wp2_with fail
            go_round
            case rel => exact ⟨k + 1, by omega, by rw [HOK2.out], by go_num⟩
            case measure => simp [intOf]; omega
        · have t1 : (s[k].toNat : Int) < 48 := by omega
          have t1' : ¬ (48 : Int) ≤ (s[k].toNat : Int) := by omega
          have HOK2 : Hid (okb s (k+1) = false) := Lib.hid (by rw [HOK.out, decide_eq_false h1]; rfl)
          clear hbe HOK h1
          go_wp2_with fail
          go_round
          case rel => exact ⟨k + 1, by omega, by rw [HOK2.out], by go_num⟩
          case measure => simp [intOf]; omega
    · have hk2 : k = s.size := by omega
      have i1 : ¬ (k : Int) < s.size := by omega
      have hokp : okb s k = true ↔ pok s := by have h := okb_end s; rw [HT.out] at h; rw [hk2]; exact h
      obtain ⟨z0, z1⟩ := Blk2 HBR.out
      obtain ⟨f0, f1⟩ := Blk2f HBR.out
      by_cases hp : pok s
      · exact absurd hp HNP.out
      · have hb : okb s k = false := by
          cases hq : okb s k
          · rfl
          · exact absurd (hokp.1 hq) hp
        rw [hb]
        have EZ : Hid (pz s = 0) := Lib.hid (by unfold pz; exact if_neg (fun h => hp h.1))
        have EE : Hid (pe s = 4) := Lib.hid (by unfold pe; rw [if_neg hp])
        clear hokp hb hp hk2 hlt
        go_wp2_with fail
        rw [EZ.out, EE.out]
        exact bodyPost_ret (v := .tuple #[.agg #[.bool false, .slice none 0 0], .int .i64 4]) (by simp [results, Try.results39, go_sem, z0, z1]) rfl ⟨_, rfl, can_zero _ _, bs_set (bs_set HBW.out (by have := HR.out; omega) _) (by have := HR.out; omega) _⟩
set_option maxHeartbeats 6400000 in
set_option maxRecDepth 100000 in
theorem parse_ref2 (s : ByteArray) (w : World) (hs : s.size ≤ 1000000000) (h0 : 0 < s.size) (h1 : byte s 0 ≠ 45) :
    Calls Try.prog 39 #[.string s] w (RetIntE w (pz s) (pe s)) := by
  have ht : tl s = s := by unfold tl; rw [if_neg (fun h => h1 h.2)]
  have hn : ng s = false := by unfold ng; exact decide_eq_false (fun h => h1 h.2)
  have HT := Lib.hid ht
  have HN := Lib.hid hn
  have hTs : s.size ≤ s.size := Nat.le_refl _
  obtain ⟨i0, hi, hz0, hz1, hz2⟩ := info_parts info51
  have c1 : (0 : Int) < s.size := by omega
  have c2 : ((s[0].toNat : Int) == 45) = false := by have := byte_eq h0; simp; omega
  clear ht hn h1 
  go_enter Try.func39, Try.ntmps39
  go_upto_region 4 with fail
  generalize hW : World.alloc _ _ = W
  obtain ⟨R, hR⟩ : ∃ R, w.heap.size = R := ⟨_, rfl⟩
  rw [hR]
  have BR : Blk W R #[.bool false, .slice none 0 0] := by rw [← hW, ← hR]; exact blk_new rfl
  have HBW : Hid (Below w.heap.size w W) := Lib.hid (by rw [← hW]; exact bs_alloc (Below.refl _ _) _)
  have HSZ : Hid (W.heap.size = R + 1) := Lib.hid (by rw [← hW, ← hR]; simp)
  have HR := Lib.hid hR
  have HBR := Lib.hid BR
  clear hW hR BR c1 c2
  have hok0 : decide (0 < s.size) = okb s 0 := (okb_zero s).symm
  have hok1 : decide ((0 : Int) < (s.size : Int)) = okb s 0 := by rw [← hok0]; exact decide_eq_decide.2 (by omega)
  go_wp2_with fail
  go_loop [5, 6] (fun s5 s6 => ∃ k : Nat, k ≤ s.size ∧ s5 = .bool (okb s k) ∧ s6 = .int .i64 k) (fun _ s6 => s.size - (intOf s6).toNat)
  case atStart => exact ⟨0, Nat.zero_le _, (by first | rfl | (rw [okb_zero, decide_eq_true (by omega)]) | (rw [okb_zero, decide_eq_false (by omega)])), rfl⟩
  case round =>
    clear hok0 hok1
    obtain ⟨k, hk, rfl, rfl⟩ := hrel
    by_cases hlt : k < s.size
    · have hbe := byte_eq hlt
      obtain ⟨d, hd⟩ : ∃ d, byte s k = d := ⟨_, rfl⟩
      rw [hd] at hbe
      have i1 : (k : Int) < s.size := by omega
      have i2 : (0 : Int) ≤ k := by omega
      obtain ⟨β, hβ⟩ : ∃ β, okb s k = β := ⟨_, rfl⟩
      rw [hβ]
      cases β
      · have HOK := Lib.hid (okb_no hβ)
        clear hβ hd hbe
        go_wp2_with fail
        go_round
        case rel => exact ⟨k + 1, by omega, by rw [HOK.out], by go_num⟩
        case measure => simp [intOf]; omega
      · have HOK := Lib.hid (okb_yes hβ)
        rw [hd] at HOK
        clear hβ hd
        by_cases h1 : 48 ≤ d
        · have t1 : ¬ ((s[k].toNat : Int) < 48) := by omega
          have t1' : (48 : Int) ≤ (s[k].toNat : Int) := by omega
          by_cases h2 : d ≤ 57
          · have t2 : (s[k].toNat : Int) ≤ 57 := by omega
            have HOK2 : Hid (okb s (k+1) = true) := Lib.hid (by rw [HOK.out, decide_eq_true h1, decide_eq_true h2]; rfl)
            clear hbe HOK h1 h2
            go_wp2_with fail
            go_round
            case rel => exact ⟨k + 1, by omega, by rw [HOK2.out], by go_num⟩
            case measure => simp [intOf]; omega
          · have t2 : ¬ ((s[k].toNat : Int) ≤ 57) := by omega
            have HOK2 : Hid (okb s (k+1) = false) := Lib.hid (by rw [HOK.out, decide_eq_true h1, decide_eq_false h2]; rfl)
            clear hbe HOK h1 h2
            go_wp2_with fail
            go_round
            case rel => exact ⟨k + 1, by omega, by rw [HOK2.out], by go_num⟩
            case measure => simp [intOf]; omega
        · have t1 : (s[k].toNat : Int) < 48 := by omega
          have t1' : ¬ (48 : Int) ≤ (s[k].toNat : Int) := by omega
          have HOK2 : Hid (okb s (k+1) = false) := Lib.hid (by rw [HOK.out, decide_eq_false h1]; rfl)
          clear hbe HOK h1
          go_wp2_with fail
          go_round
          case rel => exact ⟨k + 1, by omega, by rw [HOK2.out], by go_num⟩
          case measure => simp [intOf]; omega
    · have hk2 : k = s.size := by omega
      have i1 : ¬ (k : Int) < s.size := by omega
      have hokp : okb s k = true ↔ pok s := by have h := okb_end s; rw [HT.out] at h; rw [hk2]; exact h
      obtain ⟨z0, z1⟩ := Blk2 HBR.out
      obtain ⟨f0, f1⟩ := Blk2f HBR.out
      by_cases hp : pok s
      · have hb := hokp.2 hp
        rw [hb]
        by_cases hl : 3000 < s.size
        · have l1 : decide ((3000 : Int) < s.size) = true := decide_eq_true (by omega)
          have EZ : Hid (pz s = 0) := Lib.hid (by unfold pz; exact if_neg (fun h => by have := h.2.1; omega))
          have EE : Hid (pe s = 2) := Lib.hid (by unfold pe; rw [if_pos hp, if_neg (fun h => by have := h.1; omega)])
          clear hokp hb hp hl hk2 hlt
          go_wp2_with fail
          rw [EZ.out, EE.out]
          exact bodyPost_ret (v := .tuple #[.agg #[.bool false, .slice none 0 0], .int .i64 2]) (by simp [results, Try.results39, go_sem, z0, z1]) rfl ⟨_, rfl, can_zero _ _, bs_set (bs_set HBW.out (by have := HR.out; omega) _) (by have := HR.out; omega) _⟩
        · have l1 : decide ((3000 : Int) < s.size) = false := decide_eq_false (by omega)
          have HP := Lib.hid hp
          have hTA : AllDigits s := by have h := hp.1; rwa [HT.out] at h
          have HTA := Lib.hid hTA
          have HL := Lib.hid hl
          clear hokp hb hp hl hk2 hlt hTA
          go_wp2_with fail
          clear z0 z1 f0 f1
          go_loopw [7, 8] (fun sm si wr => ∃ i n : Nat, i ≤ s.size ∧ n ≤ i ∧ si = .int .i64 i ∧ OwnL 51 W.heap.size wr sm n (dv s i) ∧ Below W.heap.size W wr) (fun _ si _ => s.size - (intOf si).toNat)
          case atStart => exact ⟨0, 0, Nat.zero_le _, Nat.le_refl _, rfl, OwnL.nil _ _ _, Below.refl _ _⟩
          case round =>
            obtain ⟨i, n, hi2, hni, rfl, hO, hbr⟩ := hrel
            have hwr := hbr.size
            by_cases hlt : i < s.size
            · have hbe := byte_eq hlt
              obtain ⟨hd1, hd2⟩ := HTA.out i hlt
              have HDV : Hid (dv s (i+1) = dv s i * 10 + (byte s i - 48)) := Lib.hid rfl
              obtain ⟨d, hd⟩ : ∃ d, byte s i - 48 = d := ⟨_, rfl⟩
              rw [hd] at HDV
              have hsub : ((s[i].toNat : Int) - 48) = d := by omega
              have hd9 : d ≤ 9 := by omega
              obtain ⟨L, hL⟩ : ∃ L, dv s i = L := ⟨_, rfl⟩
              rw [hL] at HDV hO
              have i1 : (i : Int) < s.size := by omega
              have i2 : (0 : Int) ≤ i := by omega
              have i9 : (d : Int) ≤ 9 := by omega
              have HO := Lib.hid hO
              obtain ⟨mb, mg, mc, rfl, hmb, _, _, _, hmg⟩ := own_slice hO
              have HMB := Lib.hid hmb
              have HMG := Lib.hid hmg
              clear hmb hmg
              clear hbe hd1 hd2 hd hL hO
              go_wp2_with fail
              go_loopw [9, 10] (fun sc sk wq => ∃ k cc S : Nat, k ≤ n ∧ cc < B ∧ S < B^k ∧ sc = .int .u64 cc ∧ sk = .int .i64 k ∧ Hid (S + cc * B^k = (L % B^k) * 10 + d) ∧ OwnL 51 W.heap.size wq (.slice mb n mc) n (S + L / B^k * B^k) ∧ Below W.heap.size W wq) (fun _ sk _ => n - (intOf sk).toNat)
              case atStart => exact ⟨0, d, 0, Nat.zero_le _, by unfold B; omega, Bp 0, rfl, rfl, Lib.hid (by simp [Nat.mod_one]), by simpa using HO.out, hbr⟩
              case round =>
                obtain ⟨k, cc, S, hk, hcc, hS, rfl, rfl, hE, hO, hb⟩ := hrel
                have hLlt := HO.out.1
                by_cases hlt2 : k < n
                · obtain rfl := HMB.out (by omega)
                  have c1 := hO.num.cell0 (i := k) hlt2
                  have f1 := hO.free.at0 (i := k) hlt2
                  have hdg : dg (S + L / B^k * B^k) k = dg L k := by
                    have := dg_add_hi (S := S) (d := L / B^k) (i := 0) hS
                    rw [Nat.add_zero] at this
                    rw [this, dg_div, Nat.add_zero]
                  rw [hdg] at c1
                  clear hdg
                  have hx := dg_lt L k
                  have k1 : (k : Int) < n := by omega
                  have k2 : (0 : Int) ≤ k := by omega
                  have k3 : (cc : Int) < 4294967296 := by have := B_eq; omega
                  have k4 : (dg L k : Int) < 4294967296 := by have := B_eq; omega
                  have HCC := Lib.hid hcc
                  clear hcc
                  go_wp2_with fail
                  go_roundw
                  case rel =>
                    have e1 : ((cc : Int) + (dg L k : Int) * 10) / 4294967296 = (wHi 10 (dg L k) cc : Nat) := by unfold wHi; omega
                    have e2 : ((cc : Int) + (dg L k : Int) * 10) % 4294967296 = (wLo 10 (dg L k) cc : Nat) := by unfold wLo; omega
                    rw [e1, e2]
                    refine ⟨k + 1, wHi 10 (dg L k) cc, S + wLo 10 (dg L k) cc * B^k, by omega, wHi_lt (by unfold B; omega) hx HCC.out, add_lt_pow hS (wLo_lt _ _ _), rfl, by go_num, Lib.hid ?_, ?_, hb.setCell (HMG.out (by omega)) _⟩
                    · rw [mod_succ L, pow_succ]; exact widen_step hE.out (w_lo_hi _ _ _)
                    · refine ⟨?_, ?_⟩
                      · rw [← widen_put hS]; exact put_lt (wLo_lt _ _ _) hO.1 hlt2
                      · have := hO.2.stored k (.int .u32 (wLo 10 (dg L k) cc))
                        rw [limbs_set hlt2 (wLo_lt _ _ _), widen_put hS] at this
                        exact this.1
                  case measure => simp [intOf]; omega
                · obtain rfl : k = n := by omega
                  have k1 : ¬ (k : Int) < k := by omega
                  have hE2 : S + cc * B^k = L * 10 + d := by have := hE.out; rwa [mod_of_lt hLlt] at this
                  have hv : S + L / B^k * B^k = S := by rw [Nat.div_eq_of_lt hLlt]; omega
                  rw [hv] at hO
                  by_cases hz : cc = 0
                  · have ht : ¬ 0 < cc := by omega
                    have ht2 : ¬ (0 : Int) < cc := by omega
                    have HE := Lib.hid (show S = dv s (i+1) by rw [HDV.out, ← hE2, hz]; omega)
                    clear hE2 hv hz hE hlt2 hLlt
                    go_wp2_with fail
                    go_roundw
                    case rel => exact ⟨i + 1, k, by omega, by omega, by go_num, by rw [← HE.out]; exact hO, hb⟩
                    case measure => simp [intOf]; omega
                  · have ht : 0 < cc := by omega
                    have ht2 : (0 : Int) < cc := by omega
                    have k3 : (cc : Int) < 4294967296 := by have := B_eq; omega
                    have HE := Lib.hid (show S + cc * B^k = dv s (i+1) by rw [HDV.out]; exact hE2)
                    have hgr := hb.size
                    clear hE2 hv hz hE hlt2 hLlt
                    go_wp2_with (at_builtin; refine wpList_append_limbs _ rfl _ _ 22 rfl 51 i0 Try.underlying22 hi hz0 hz1 hz2 W.heap.size _ k S rfl ⟨hO.1, hO.2.alloc _⟩ (some ⟨wr.heap.size, 0, none⟩) wr.heap.size 0 1 1 cc rfl (fun _ => rfl) ?e1 (by omega) (by simp; omega) ?_)
                    case e1 =>
                      refine ⟨by rw [Nat.pow_one]; exact hcc, fun i hi => ?_⟩
                      obtain rfl : i = 0 := by omega
                      rw [show dg cc 0 = cc by unfold dg; rw [Nat.pow_zero, Nat.div_one, Nat.mod_eq_of_lt hcc]]
                      exact cell_new _ _ _ _ _ _ rfl rfl
                    intro v' w' hown hbl
                    have hb2 := (hb.alloc hgr (Obj.cells #[.int .u32 cc] 51)).trans hbl
                    rw [HE.out] at hown
                    clear hO hgr hbl
                    go_wp2_with fail
                    go_roundw
                    case rel => exact ⟨i + 1, k + 1, by omega, by omega, by go_num, hown, hb2⟩
                    case measure => simp [intOf]; omega
            · obtain rfl : i = s.size := by omega
              have k1 : ¬ (s.size : Int) < s.size := by omega
              obtain ⟨L, hL⟩ : ∃ L, dv s s.size = L := ⟨_, rfl⟩
              rw [hL] at hO
              obtain ⟨mb, mg, mc, rfl, hmb, hmc, hmn, hmf, hmg⟩ := own_slice hO
              have HMB := Lib.hid hmb
              have HLL := Lib.hid hL
              clear hlt hO hL hmb hmf hmg
              go_wp2_with fail
              refine (make1_any false mb mg 0 n mc L wr HMB.out hmn hmc (by omega)).mono ?_
              rintro e w2 ⟨v, rfl, hcan, hb2⟩
              obtain ⟨s', q', n', c', rfl, _⟩ := can_form hcan
              have HB2 := Lib.hid (bs_trans hbr hb2)
              have HB9 := Lib.hid hb2.size
              clear hmn hbr hb2
              go_upto_region 27 with fail
              generalize hW : World.alloc _ _ = Y
              obtain ⟨P, hP⟩ : ∃ P, w2.heap.size = P := ⟨_, rfl⟩
              rw [hP]
              have hbY : Below w2.heap.size w2 Y := by rw [← hW]; exact bs_alloc (Below.refl _ _) _
              have BP : Blk Y P #[.bool s', .slice q' n' c'] := by rw [← hW, ← hP]; exact blk_new rfl
              have hcY := hcan.kept hbY
              have HBY := Lib.hid (bs_trans HB2.out hbY)
              have HWR : Hid (W.heap.size ≤ wr.heap.size) := Lib.hid (by assumption)
              clear hW hP hbY hcan HB2
              obtain ⟨p0, p1⟩ := Blk2 BP
              have LG := large_ref _ _ Y hcY.int
              rw [sg_natAbs] at LG
              have HCY := Lib.hid hcY
              clear hcY
              have HDL : Hid (dv (tl s) (tl s).size = L) := Lib.hid (by rw [HT.out]; exact HLL.out)
              have HRW : Hid (R < w2.heap.size ∧ w.heap.size ≤ wr.heap.size ∧ R < wr.heap.size) := Lib.hid (by have h1 := HSZ.out; have h2 := HWR.out; have h3 := HR.out; have h4 := HB9.out; omega)
              by_cases hb : 256 < nl L
              · have EZ : Hid (pz s = 0) := Lib.hid (by unfold pz; exact if_neg (fun h => h.2.2 (by rw [HDL.out]; exact hb)))
                have EE : Hid (pe s = 2) := Lib.hid (by unfold pe; rw [if_pos HP.out, if_neg (fun h => h.2 (by rw [HDL.out]; exact hb))])
                rw [decide_eq_true hb] at LG
                clear hb
                go_wp2_with fail
                refine LG.mono ?_
                clear LG
                rintro e w5 ⟨rfl, hb5⟩
                have hbb := bs_trans HBY.out hb5
                obtain ⟨z0, z1⟩ := Blk2 (HBR.out.kept hbb)
                obtain ⟨f0, f1⟩ := Blk2f (HBR.out.kept hbb)
                have HBB := Lib.hid hbb
                clear hb5 hbb p0 p1 BP
                go_wp2_with fail
                rw [EZ.out, EE.out]
                exact bodyPost_ret (v := .tuple #[.agg #[.bool false, .slice none 0 0], .int .i64 2]) (by simp [results, Try.results39, go_sem, z0, z1]) rfl ⟨_, rfl, can_zero _ _, bs_set (bs_set (bs_trans HBW.out HBB.out) (by have := HR.out; omega) _) (by have := HR.out; omega) _⟩
              · have EZ : Hid (pz s = sg false L) := Lib.hid (by unfold pz; rw [if_pos ⟨HP.out, by have := HL.out; omega, by rw [HDL.out]; exact hb⟩, HDL.out, HN.out])
                have EE : Hid (pe s = 0) := Lib.hid (by unfold pe; rw [if_pos HP.out, if_pos ⟨by have := HL.out; omega, by rw [HDL.out]; exact hb⟩])
                rw [decide_eq_false hb] at LG
                clear hb
                go_wp2_with fail
                refine LG.mono ?_
                clear LG
                rintro e w5 ⟨rfl, hb5⟩
                have hbb := bs_trans HBY.out hb5
                have BR5 := HBR.out.kept hbb
                obtain ⟨z0, z1⟩ := Blk2 BR5
                obtain ⟨f0, f1⟩ := Blk2f BR5
                obtain ⟨p0, p1⟩ := Blk2 (BP.kept hb5)
                have hC5 := HCY.out.kept hb5
                have HBB := Lib.hid hbb
                clear hb5 hbb BP
                go_wp2_with fail
                rw [EZ.out, EE.out]
                have hrw := HRW.out
                have BZ := (BR5.set 0 (.bool s')).set 1 (.slice q' n' c')
                have hI := ((hC5.set (p := ⟨R, 0, none⟩) hrw.2.2 (.bool s')).set (p := ⟨R, 1, none⟩) hrw.2.2 (.slice q' n' c')).mono hrw.2.1
                have HZ : Below w.heap.size w ((w5.setCell ⟨R, 0, none⟩ (.bool s')).setCell ⟨R, 1, none⟩ (.slice q' n' c')) := bs_set (bs_set (bs_trans HBW.out HBB.out) (by have := HR.out; omega) _) (by have := HR.out; omega) _
                generalize ((w5.setCell ⟨R, 0, none⟩ (.bool s')).setCell ⟨R, 1, none⟩ (.slice q' n' c')) = Z at *
                obtain ⟨y0, y1⟩ := Blk2 BZ
                exact bodyPost_ret (v := .tuple #[.agg #[.bool s', .slice q' n' c'], .int .i64 0]) (by simp [results, Try.results39, go_sem, y0, y1]) rfl ⟨_, rfl, hI, HZ⟩
      · have hb : okb s k = false := by
          cases hq : okb s k
          · rfl
          · exact absurd (hokp.1 hq) hp
        rw [hb]
        have EZ : Hid (pz s = 0) := Lib.hid (by unfold pz; exact if_neg (fun h => hp h.1))
        have EE : Hid (pe s = 4) := Lib.hid (by unfold pe; rw [if_neg hp])
        clear hokp hb hp hk2 hlt
        go_wp2_with fail
        rw [EZ.out, EE.out]
        exact bodyPost_ret (v := .tuple #[.agg #[.bool false, .slice none 0 0], .int .i64 4]) (by simp [results, Try.results39, go_sem, z0, z1]) rfl ⟨_, rfl, can_zero _ _, bs_set (bs_set HBW.out (by have := HR.out; omega) _) (by have := HR.out; omega) _⟩
set_option maxHeartbeats 6400000 in
set_option maxRecDepth 100000 in
theorem parse_ref3 (s : ByteArray) (w : World) (hs : s.size ≤ 1000000000) (h0 : 0 < s.size) (h1 : byte s 0 = 45) :
    Calls Try.prog 39 #[.string s] w (RetIntE w (pz s) (pe s)) := by
  have ht : tl s = s.extract 1 s.size := by unfold tl; rw [if_pos ⟨by omega, h1⟩]
  have hn : ng s = true := by unfold ng; exact decide_eq_true ⟨by omega, h1⟩
  obtain ⟨T, hT⟩ : ∃ T, s.extract 1 s.size = T := ⟨_, rfl⟩
  rw [hT] at ht
  have HT := Lib.hid ht
  have HN := Lib.hid hn
  have hTs : T.size ≤ s.size := by rw [← ht]; exact tl_le s
  have hTl : decide (T.size < s.size) = true := by rw [← ht, tl_lt, hn]
  have HTT := Lib.hid hT
  obtain ⟨i0, hi, hz0, hz1, hz2⟩ := info_parts info51
  have c1 : (0 : Int) < s.size := by omega
  have c2 : ((s[0].toNat : Int) == 45) = true := by have := byte_eq h0; simp; omega
  clear ht hn h1 hT
  go_enter Try.func39, Try.ntmps39
  go_upto_region 4 with fail
  rw [HTT.out]
  clear HTT
  generalize hW : World.alloc _ _ = W
  obtain ⟨R, hR⟩ : ∃ R, w.heap.size = R := ⟨_, rfl⟩
  rw [hR]
  have BR : Blk W R #[.bool false, .slice none 0 0] := by rw [← hW, ← hR]; exact blk_new rfl
  have HBW : Hid (Below w.heap.size w W) := Lib.hid (by rw [← hW]; exact bs_alloc (Below.refl _ _) _)
  have HSZ : Hid (W.heap.size = R + 1) := Lib.hid (by rw [← hW, ← hR]; simp)
  have HR := Lib.hid hR
  have HBR := Lib.hid BR
  clear hW hR BR c1 c2
  have hok0 : decide (0 < T.size) = okb T 0 := (okb_zero T).symm
  have hok1 : decide ((0 : Int) < (T.size : Int)) = okb T 0 := by rw [← hok0]; exact decide_eq_decide.2 (by omega)
  go_wp2_with fail
  go_loop [5, 6] (fun s5 s6 => ∃ k : Nat, k ≤ T.size ∧ s5 = .bool (okb T k) ∧ s6 = .int .i64 k) (fun _ s6 => T.size - (intOf s6).toNat)
  case atStart => exact ⟨0, Nat.zero_le _, (by first | rfl | (rw [okb_zero, decide_eq_true (by omega)]) | (rw [okb_zero, decide_eq_false (by omega)])), rfl⟩
  case round =>
    clear hok0 hok1
    obtain ⟨k, hk, rfl, rfl⟩ := hrel
    by_cases hlt : k < T.size
    · have hbe := byte_eq hlt
      obtain ⟨d, hd⟩ : ∃ d, byte T k = d := ⟨_, rfl⟩
      rw [hd] at hbe
      have i1 : (k : Int) < T.size := by omega
      have i2 : (0 : Int) ≤ k := by omega
      obtain ⟨β, hβ⟩ : ∃ β, okb T k = β := ⟨_, rfl⟩
      rw [hβ]
      cases β
      · have HOK := Lib.hid (okb_no hβ)
        clear hβ hd hbe
        go_wp2_with fail
        go_round
        case rel => exact ⟨k + 1, by omega, by rw [HOK.out], by go_num⟩
        case measure => simp [intOf]; omega
      · have HOK := Lib.hid (okb_yes hβ)
        rw [hd] at HOK
        clear hβ hd
        by_cases h1 : 48 ≤ d
        · have t1 : ¬ ((T[k].toNat : Int) < 48) := by omega
          have t1' : (48 : Int) ≤ (T[k].toNat : Int) := by omega
          by_cases h2 : d ≤ 57
          · have t2 : (T[k].toNat : Int) ≤ 57 := by omega
            have HOK2 : Hid (okb T (k+1) = true) := Lib.hid (by rw [HOK.out, decide_eq_true h1, decide_eq_true h2]; rfl)
            clear hbe HOK h1 h2
            go_wp2_with fail
            go_round
            case rel => exact ⟨k + 1, by omega, by rw [HOK2.out], by go_num⟩
            case measure => simp [intOf]; omega
          · have t2 : ¬ ((T[k].toNat : Int) ≤ 57) := by omega
            have HOK2 : Hid (okb T (k+1) = false) := Lib.hid (by rw [HOK.out, decide_eq_true h1, decide_eq_false h2]; rfl)
            clear hbe HOK h1 h2
            go_wp2_with fail
            go_round
            case rel => exact ⟨k + 1, by omega, by rw [HOK2.out], by go_num⟩
            case measure => simp [intOf]; omega
        · have t1 : (T[k].toNat : Int) < 48 := by omega
          have t1' : ¬ (48 : Int) ≤ (T[k].toNat : Int) := by omega
          have HOK2 : Hid (okb T (k+1) = false) := Lib.hid (by rw [HOK.out, decide_eq_false h1]; rfl)
          clear hbe HOK h1
          go_wp2_with fail
          go_round
          case rel => exact ⟨k + 1, by omega, by rw [HOK2.out], by go_num⟩
          case measure => simp [intOf]; omega
    · have hk2 : k = T.size := by omega
      have i1 : ¬ (k : Int) < T.size := by omega
      have hokp : okb T k = true ↔ pok s := by have h := okb_end s; rw [HT.out] at h; rw [hk2]; exact h
      obtain ⟨z0, z1⟩ := Blk2 HBR.out
      obtain ⟨f0, f1⟩ := Blk2f HBR.out
      by_cases hp : pok s
      · have hb := hokp.2 hp
        rw [hb]
        by_cases hl : 3000 < s.size
        · have l1 : decide ((3000 : Int) < s.size) = true := decide_eq_true (by omega)
          have EZ : Hid (pz s = 0) := Lib.hid (by unfold pz; exact if_neg (fun h => by have := h.2.1; omega))
          have EE : Hid (pe s = 2) := Lib.hid (by unfold pe; rw [if_pos hp, if_neg (fun h => by have := h.1; omega)])
          clear hokp hb hp hl hk2 hlt
          go_wp2_with fail
          rw [EZ.out, EE.out]
          exact bodyPost_ret (v := .tuple #[.agg #[.bool false, .slice none 0 0], .int .i64 2]) (by simp [results, Try.results39, go_sem, z0, z1]) rfl ⟨_, rfl, can_zero _ _, bs_set (bs_set HBW.out (by have := HR.out; omega) _) (by have := HR.out; omega) _⟩
        · have l1 : decide ((3000 : Int) < s.size) = false := decide_eq_false (by omega)
          have HP := Lib.hid hp
          have hTA : AllDigits T := by have h := hp.1; rwa [HT.out] at h
          have HTA := Lib.hid hTA
          have HL := Lib.hid hl
          clear hokp hb hp hl hk2 hlt hTA
          go_wp2_with fail
          clear z0 z1 f0 f1
          go_loopw [7, 8] (fun sm si wr => ∃ i n : Nat, i ≤ T.size ∧ n ≤ i ∧ si = .int .i64 i ∧ OwnL 51 W.heap.size wr sm n (dv T i) ∧ Below W.heap.size W wr) (fun _ si _ => T.size - (intOf si).toNat)
          case atStart => exact ⟨0, 0, Nat.zero_le _, Nat.le_refl _, rfl, OwnL.nil _ _ _, Below.refl _ _⟩
          case round =>
            obtain ⟨i, n, hi2, hni, rfl, hO, hbr⟩ := hrel
            have hwr := hbr.size
            by_cases hlt : i < T.size
            · have hbe := byte_eq hlt
              obtain ⟨hd1, hd2⟩ := HTA.out i hlt
              have HDV : Hid (dv T (i+1) = dv T i * 10 + (byte T i - 48)) := Lib.hid rfl
              obtain ⟨d, hd⟩ : ∃ d, byte T i - 48 = d := ⟨_, rfl⟩
              rw [hd] at HDV
              have hsub : ((T[i].toNat : Int) - 48) = d := by omega
              have hd9 : d ≤ 9 := by omega
              obtain ⟨L, hL⟩ : ∃ L, dv T i = L := ⟨_, rfl⟩
              rw [hL] at HDV hO
              have i1 : (i : Int) < T.size := by omega
              have i2 : (0 : Int) ≤ i := by omega
              have i9 : (d : Int) ≤ 9 := by omega
              have HO := Lib.hid hO
              obtain ⟨mb, mg, mc, rfl, hmb, _, _, _, hmg⟩ := own_slice hO
              have HMB := Lib.hid hmb
              have HMG := Lib.hid hmg
              clear hmb hmg
              clear hbe hd1 hd2 hd hL hO
              go_wp2_with fail
              go_loopw [9, 10] (fun sc sk wq => ∃ k cc S : Nat, k ≤ n ∧ cc < B ∧ S < B^k ∧ sc = .int .u64 cc ∧ sk = .int .i64 k ∧ Hid (S + cc * B^k = (L % B^k) * 10 + d) ∧ OwnL 51 W.heap.size wq (.slice mb n mc) n (S + L / B^k * B^k) ∧ Below W.heap.size W wq) (fun _ sk _ => n - (intOf sk).toNat)
              case atStart => exact ⟨0, d, 0, Nat.zero_le _, by unfold B; omega, Bp 0, rfl, rfl, Lib.hid (by simp [Nat.mod_one]), by simpa using HO.out, hbr⟩
              case round =>
                obtain ⟨k, cc, S, hk, hcc, hS, rfl, rfl, hE, hO, hb⟩ := hrel
                have hLlt := HO.out.1
                by_cases hlt2 : k < n
                · obtain rfl := HMB.out (by omega)
                  have c1 := hO.num.cell0 (i := k) hlt2
                  have f1 := hO.free.at0 (i := k) hlt2
                  have hdg : dg (S + L / B^k * B^k) k = dg L k := by
                    have := dg_add_hi (S := S) (d := L / B^k) (i := 0) hS
                    rw [Nat.add_zero] at this
                    rw [this, dg_div, Nat.add_zero]
                  rw [hdg] at c1
                  clear hdg
                  have hx := dg_lt L k
                  have k1 : (k : Int) < n := by omega
                  have k2 : (0 : Int) ≤ k := by omega
                  have k3 : (cc : Int) < 4294967296 := by have := B_eq; omega
                  have k4 : (dg L k : Int) < 4294967296 := by have := B_eq; omega
                  have HCC := Lib.hid hcc
                  clear hcc
                  go_wp2_with fail
                  go_roundw
                  case rel =>
                    have e1 : ((cc : Int) + (dg L k : Int) * 10) / 4294967296 = (wHi 10 (dg L k) cc : Nat) := by unfold wHi; omega
                    have e2 : ((cc : Int) + (dg L k : Int) * 10) % 4294967296 = (wLo 10 (dg L k) cc : Nat) := by unfold wLo; omega
                    rw [e1, e2]
                    refine ⟨k + 1, wHi 10 (dg L k) cc, S + wLo 10 (dg L k) cc * B^k, by omega, wHi_lt (by unfold B; omega) hx HCC.out, add_lt_pow hS (wLo_lt _ _ _), rfl, by go_num, Lib.hid ?_, ?_, hb.setCell (HMG.out (by omega)) _⟩
                    · rw [mod_succ L, pow_succ]; exact widen_step hE.out (w_lo_hi _ _ _)
                    · refine ⟨?_, ?_⟩
                      · rw [← widen_put hS]; exact put_lt (wLo_lt _ _ _) hO.1 hlt2
                      · have := hO.2.stored k (.int .u32 (wLo 10 (dg L k) cc))
                        rw [limbs_set hlt2 (wLo_lt _ _ _), widen_put hS] at this
                        exact this.1
                  case measure => simp [intOf]; omega
                · obtain rfl : k = n := by omega
                  have k1 : ¬ (k : Int) < k := by omega
                  have hE2 : S + cc * B^k = L * 10 + d := by have := hE.out; rwa [mod_of_lt hLlt] at this
                  have hv : S + L / B^k * B^k = S := by rw [Nat.div_eq_of_lt hLlt]; omega
                  rw [hv] at hO
                  by_cases hz : cc = 0
                  · have ht : ¬ 0 < cc := by omega
                    have ht2 : ¬ (0 : Int) < cc := by omega
                    have HE := Lib.hid (show S = dv T (i+1) by rw [HDV.out, ← hE2, hz]; omega)
                    clear hE2 hv hz hE hlt2 hLlt
                    go_wp2_with fail
                    go_roundw
                    case rel => exact ⟨i + 1, k, by omega, by omega, by go_num, by rw [← HE.out]; exact hO, hb⟩
                    case measure => simp [intOf]; omega
                  · have ht : 0 < cc := by omega
                    have ht2 : (0 : Int) < cc := by omega
                    have k3 : (cc : Int) < 4294967296 := by have := B_eq; omega
                    have HE := Lib.hid (show S + cc * B^k = dv T (i+1) by rw [HDV.out]; exact hE2)
                    have hgr := hb.size
                    clear hE2 hv hz hE hlt2 hLlt
                    go_wp2_with (at_builtin; refine wpList_append_limbs _ rfl _ _ 22 rfl 51 i0 Try.underlying22 hi hz0 hz1 hz2 W.heap.size _ k S rfl ⟨hO.1, hO.2.alloc _⟩ (some ⟨wr.heap.size, 0, none⟩) wr.heap.size 0 1 1 cc rfl (fun _ => rfl) ?e1 (by omega) (by simp; omega) ?_)
                    case e1 =>
                      refine ⟨by rw [Nat.pow_one]; exact hcc, fun i hi => ?_⟩
                      obtain rfl : i = 0 := by omega
                      rw [show dg cc 0 = cc by unfold dg; rw [Nat.pow_zero, Nat.div_one, Nat.mod_eq_of_lt hcc]]
                      exact cell_new _ _ _ _ _ _ rfl rfl
                    intro v' w' hown hbl
                    have hb2 := (hb.alloc hgr (Obj.cells #[.int .u32 cc] 51)).trans hbl
                    rw [HE.out] at hown
                    clear hO hgr hbl
                    go_wp2_with fail
                    go_roundw
                    case rel => exact ⟨i + 1, k + 1, by omega, by omega, by go_num, hown, hb2⟩
                    case measure => simp [intOf]; omega
            · obtain rfl : i = T.size := by omega
              have k1 : ¬ (T.size : Int) < T.size := by omega
              obtain ⟨L, hL⟩ : ∃ L, dv T T.size = L := ⟨_, rfl⟩
              rw [hL] at hO
              obtain ⟨mb, mg, mc, rfl, hmb, hmc, hmn, hmf, hmg⟩ := own_slice hO
              have HMB := Lib.hid hmb
              have HLL := Lib.hid hL
              clear hlt hO hL hmb hmf hmg
              go_wp2_with fail
              refine (make1_any true mb mg 0 n mc L wr HMB.out hmn hmc (by omega)).mono ?_
              rintro e w2 ⟨v, rfl, hcan, hb2⟩
              obtain ⟨s', q', n', c', rfl, _⟩ := can_form hcan
              have HB2 := Lib.hid (bs_trans hbr hb2)
              have HB9 := Lib.hid hb2.size
              clear hmn hbr hb2
              go_upto_region 27 with fail
              generalize hW : World.alloc _ _ = Y
              obtain ⟨P, hP⟩ : ∃ P, w2.heap.size = P := ⟨_, rfl⟩
              rw [hP]
              have hbY : Below w2.heap.size w2 Y := by rw [← hW]; exact bs_alloc (Below.refl _ _) _
              have BP : Blk Y P #[.bool s', .slice q' n' c'] := by rw [← hW, ← hP]; exact blk_new rfl
              have hcY := hcan.kept hbY
              have HBY := Lib.hid (bs_trans HB2.out hbY)
              have HWR : Hid (W.heap.size ≤ wr.heap.size) := Lib.hid (by assumption)
              clear hW hP hbY hcan HB2
              obtain ⟨p0, p1⟩ := Blk2 BP
              have LG := large_ref _ _ Y hcY.int
              rw [sg_natAbs] at LG
              have HCY := Lib.hid hcY
              clear hcY
              have HDL : Hid (dv (tl s) (tl s).size = L) := Lib.hid (by rw [HT.out]; exact HLL.out)
              have HRW : Hid (R < w2.heap.size ∧ w.heap.size ≤ wr.heap.size ∧ R < wr.heap.size) := Lib.hid (by have h1 := HSZ.out; have h2 := HWR.out; have h3 := HR.out; have h4 := HB9.out; omega)
              by_cases hb : 256 < nl L
              · have EZ : Hid (pz s = 0) := Lib.hid (by unfold pz; exact if_neg (fun h => h.2.2 (by rw [HDL.out]; exact hb)))
                have EE : Hid (pe s = 2) := Lib.hid (by unfold pe; rw [if_pos HP.out, if_neg (fun h => h.2 (by rw [HDL.out]; exact hb))])
                rw [decide_eq_true hb] at LG
                clear hb
                go_wp2_with fail
                refine LG.mono ?_
                clear LG
                rintro e w5 ⟨rfl, hb5⟩
                have hbb := bs_trans HBY.out hb5
                obtain ⟨z0, z1⟩ := Blk2 (HBR.out.kept hbb)
                obtain ⟨f0, f1⟩ := Blk2f (HBR.out.kept hbb)
                have HBB := Lib.hid hbb
                clear hb5 hbb p0 p1 BP
                go_wp2_with fail
                rw [EZ.out, EE.out]
                exact bodyPost_ret (v := .tuple #[.agg #[.bool false, .slice none 0 0], .int .i64 2]) (by simp [results, Try.results39, go_sem, z0, z1]) rfl ⟨_, rfl, can_zero _ _, bs_set (bs_set (bs_trans HBW.out HBB.out) (by have := HR.out; omega) _) (by have := HR.out; omega) _⟩
              · have EZ : Hid (pz s = sg true L) := Lib.hid (by unfold pz; rw [if_pos ⟨HP.out, by have := HL.out; omega, by rw [HDL.out]; exact hb⟩, HDL.out, HN.out])
                have EE : Hid (pe s = 0) := Lib.hid (by unfold pe; rw [if_pos HP.out, if_pos ⟨by have := HL.out; omega, by rw [HDL.out]; exact hb⟩])
                rw [decide_eq_false hb] at LG
                clear hb
                go_wp2_with fail
                refine LG.mono ?_
                clear LG
                rintro e w5 ⟨rfl, hb5⟩
                have hbb := bs_trans HBY.out hb5
                have BR5 := HBR.out.kept hbb
                obtain ⟨z0, z1⟩ := Blk2 BR5
                obtain ⟨f0, f1⟩ := Blk2f BR5
                obtain ⟨p0, p1⟩ := Blk2 (BP.kept hb5)
                have hC5 := HCY.out.kept hb5
                have HBB := Lib.hid hbb
                clear hb5 hbb BP
                go_wp2_with fail
                rw [EZ.out, EE.out]
                have hrw := HRW.out
                have BZ := (BR5.set 0 (.bool s')).set 1 (.slice q' n' c')
                have hI := ((hC5.set (p := ⟨R, 0, none⟩) hrw.2.2 (.bool s')).set (p := ⟨R, 1, none⟩) hrw.2.2 (.slice q' n' c')).mono hrw.2.1
                have HZ : Below w.heap.size w ((w5.setCell ⟨R, 0, none⟩ (.bool s')).setCell ⟨R, 1, none⟩ (.slice q' n' c')) := bs_set (bs_set (bs_trans HBW.out HBB.out) (by have := HR.out; omega) _) (by have := HR.out; omega) _
                generalize ((w5.setCell ⟨R, 0, none⟩ (.bool s')).setCell ⟨R, 1, none⟩ (.slice q' n' c')) = Z at *
                obtain ⟨y0, y1⟩ := Blk2 BZ
                exact bodyPost_ret (v := .tuple #[.agg #[.bool s', .slice q' n' c'], .int .i64 0]) (by simp [results, Try.results39, go_sem, y0, y1]) rfl ⟨_, rfl, hI, HZ⟩
      · have hb : okb T k = false := by
          cases hq : okb T k
          · rfl
          · exact absurd (hokp.1 hq) hp
        rw [hb]
        have EZ : Hid (pz s = 0) := Lib.hid (by unfold pz; exact if_neg (fun h => hp h.1))
        have EE : Hid (pe s = 4) := Lib.hid (by unfold pe; rw [if_neg hp])
        clear hokp hb hp hk2 hlt
        go_wp2_with fail
        rw [EZ.out, EE.out]
        exact bodyPost_ret (v := .tuple #[.agg #[.bool false, .slice none 0 0], .int .i64 4]) (by simp [results, Try.results39, go_sem, z0, z1]) rfl ⟨_, rfl, can_zero _ _, bs_set (bs_set HBW.out (by have := HR.out; omega) _) (by have := HR.out; omega) _⟩
/-- The verifier's Parse, at any text. -/
theorem parse_refany (s : ByteArray) (w : World) (hs : s.size ≤ 1000000000) :
    Calls Try.prog 39 #[.string s] w (RetIntE w (pz s) (pe s)) := by
  by_cases h0 : s.size = 0
  · exact parse_ref1 s w hs h0
  · by_cases h1 : byte s 0 = 45
    · exact parse_ref3 s w hs (by omega) h1
    · exact parse_ref2 s w hs (by omega) h1
end Go.Proofs.Yteggfjahjanabaa

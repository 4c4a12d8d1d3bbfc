/-
  The verifier's Down, where limbs are left.
-/
import Derived.Test.YtdgfmkideghhaaaM23
import Derived.Test.YtdgfmkideghhaaaM39
namespace PB
open Go
/-- A number divided by a power of 2, rounded down: said of sign and limbs. -/
def dn (s : Bool) (X P : Nat) : Int := sg s (X / P) - (if s && decide (X % P ≠ 0) then 1 else 0)
theorem dig_div {Y p : Nat} (hp : p < 32) : Y % B^2 / 2^p % B = Y / 2^p % B := by
  have h2 := two_split hp
  have e : B^2 = 2^p * (2^(32-p) * B) := by rw [← Nat.mul_assoc, h2]; rfl
  rw [e, Nat.mod_mul_right_div_self, Nat.mod_mul_left_mod]
theorem down_digit {X k q p t x y : Nat} (hk : k = 32 * q + p) (hp : p < 32) (hx : dg X (q+t) = x) (hy : dg X (q+t+1) = y) : dg (X / 2^k) t = (x + y * B) / 2^p % B := by
  have e : x + y * B = X / B^(q+t) % B^2 := by
    rw [← hx, ← hy, show B^2 = B * B from by rw [Nat.pow_succ, Nat.pow_one], Nat.mod_mul]
    unfold dg
    rw [pow_succ, Nat.div_div_eq_div_mul, Nat.mul_comm B (_ % _)]
  rw [e, dig_div hp]
  unfold dg
  rw [lower_div hk, Nat.div_div_eq_div_mul, Nat.div_div_eq_div_mul, Nat.div_div_eq_div_mul, pow_add, Nat.mul_right_comm, Nat.mul_assoc]
theorem down_word {x y : Nat} (hx : x < B) (hy : y < B) :
    bits BinOp.or IntKind.u64 (IntKind.u64.wrap (x : Int)) (IntKind.u64.wrap (IntKind.u64.wrap (y : Int) * 4294967296)) = ((x + y * B : Nat) : Int) := by
  have e1 : IntKind.u64.wrap (x : Int) = x := by rw [IntKind.wrap_u64]; unfold B at *; omega
  have e2 : IntKind.u64.wrap (IntKind.u64.wrap (y : Int) * 4294967296) = ((y * B : Nat) : Int) := by
    rw [IntKind.wrap_u64, IntKind.wrap_u64]; unfold B at *; omega
  rw [e1, e2, u64_or_nat _ _ (by unfold B at *; omega) (by unfold B at *; omega), Nat.or_comm, nat_join 32 _ _ (by show y * B % B = 0; exact Nat.mul_mod_left _ _) hx, Nat.add_comm]
theorem and_mask {x p : Nat} (hx : x < B) (hp : p < 32) : (bits BinOp.and IntKind.u32 (x : Int) ((2^p - 1) % 4294967296) != 0) = decide (x % 2^p ≠ 0) := by
  have h1 : (2:Nat)^p ≤ 2^31 := Nat.pow_le_pow_right (by decide) (by omega)
  have h0 : 0 < (2:Nat)^p := Nat.pow_pos (by decide)
  have e : ((2 : Int)^p - 1) % 4294967296 = ((2^p - 1 : Nat) : Int) := by
    have h2 : ((2^p : Nat) : Int) = (2 : Int)^p := by simp
    rw [← h2]
    omega
  rw [e, u32_and_nat _ _ (by unfold B at hx; exact hx) (by omega), Nat.and_two_pow_sub_one_eq_mod, Bool.eq_iff_iff]
  simp only [bne_iff_ne, ne_eq, decide_eq_true_eq]
  generalize x % 2^p = y
  omega
theorem down_last {X M k q p : Nat} (hX : X < B^M) (hk : k = 32 * q + p) (hq : q ≤ M) : X / 2^k % B^(M-q) = X / 2^k := by
  apply Nat.mod_eq_of_lt
  rw [lower_div hk]
  refine Nat.lt_of_le_of_lt (Nat.div_le_self _ _) (Nat.div_lt_of_lt_mul ?_)
  rw [← pow_add, Nat.add_sub_cancel' hq]; exact hX
end PB
namespace Go.Proofs.Ytdgfmkideghhaaa
open Go.RowKit PB

set_option maxHeartbeats 3200000 in
set_option maxRecDepth 100000 in
theorem down_near (s : Bool) (base : Option Addr) (b off n c X : Nat) (k q p : Nat) (w : World) (hb : n ≠ 0 → base = some ⟨b, off, none⟩) (hX : Num w b off n X) (hn : n ≤ c) (hl : n ≤ 1000000000)
    (hs : nl X ≤ 100000) (hk : k = 32 * q + p) (hp : p < 32) (hqM : q < nl X) :
    Calls Try.prog 89 #[.agg #[.bool s, .slice base n c], .int .i64 k] w (RetInt w (dn s X (2^k))) := by
  have HM := Lib.hid (fun W (h : Below w.heap.size w W) => mag_any base b off n c X W hb (hX.kept h) hn hl)
  obtain ⟨i0, hi, hz0, hz1, hz2⟩ := info_parts info51
  have HZ : Hid (nl X ≠ 0) := Lib.hid (by omega)
  have e1 : (k : Int) / 32 = q := by omega
  have e2 : (k : Int) % 32 = p := by omega
  have e3 : (k : Int) ≤ 3200032 := by omega
  have HKK := Lib.hid hk
  obtain ⟨R, hR⟩ : ∃ R, dn s X (2^k) = R := ⟨_, rfl⟩
  rw [hR]
  have HR := Lib.hid hR
  clear hb hk hR
  go_enter Try.func89, Try.ntmps89
  go_upto_region 1 with fail
  generalize hW : World.alloc _ _ = W
  have B0 : Blk W w.heap.size #[.bool s, .slice base n c] := by rw [← hW]; exact (blk_new rfl).alloc _
  have B1 : Blk W (w.heap.size + 1) #[.bool false, .slice none 0 0] := by rw [← hW]; exact blk_new (by simp)
  have hbW : Below w.heap.size w W := by rw [← hW]; exact bs_alloc (bs_alloc (Below.refl _ _) _) _
  have HS := Lib.hid (show W.heap.size = w.heap.size + 2 by rw [← hW]; simp)
  clear hW
  have HK := Lib.hid (fun w3 (h : Below W.heap.size W w3) => B0.kept h)
  have HL := Lib.hid (fun w3 (h : Below W.heap.size W w3) => B1.kept h)
  obtain ⟨a0, a1⟩ := Blk2 B0
  have HBW := Lib.hid hbW
  clear B0 B1 hbW
  go_wp2_with fail
  refine (HM.out _ HBW.out).mono ?_
  rintro e w1 ⟨v, rfl, hown, hb1⟩
  obtain ⟨mb, mg, mc, rfl, hm1, hm2, hm3, hm4, hm5⟩ := own_slice hown
  obtain rfl := hm1 HZ.out
  have HXL := Lib.hid (lt_nl X)
  obtain ⟨M, hM⟩ : ∃ M, nl X = M := ⟨_, rfl⟩
  rw [hM] at HXL hm2 hm3 hs hqM ⊢
  have HMM := Lib.hid hM
  have HGM := Lib.hid (hm5 HZ.out)
  have HBW1 := Lib.hid hb1
  have j0 : (q : Int) < M := by omega
  have j1 : (M : Int) ≤ 100000 := by omega
  have j2 : (p : Int) < 32 := by omega
  clear hown hb1 HM hm1 hm4 hm5 a0 a1 hM e3
  go_wp2_with fail
  go_loopw [7, 8] (fun lv i wr => ∃ (j : Nat) (l : Bool), j ≤ q ∧ lv = .bool l ∧ i = .int .i64 j ∧ w1 = wr ∧ Hid (l = decide (X % B^j ≠ 0))) (fun _ i _ => q - (intOf i).toNat)
  case atStart => exact ⟨0, false, by omega, rfl, rfl, rfl, Lib.hid (by simp [Nat.mod_one])⟩
  case round =>
    obtain ⟨j, l, hj, rfl, rfl, rfl, hE⟩ := hrel
    by_cases hlt : j < q
    · have cX := hm3.cell0 (i := j) (by omega)
      have hx := dg_lt X j
      obtain ⟨x, hxe⟩ : ∃ x, dg X j = x := ⟨_, rfl⟩
      rw [hxe] at cX hx
      have HX := Lib.hid hxe
      clear hxe
      have i1 : (j : Int) < q := by omega
      have i2 : (0 : Int) ≤ j := by omega
      have i3 : (j : Int) ≤ 100000 := by omega
      have i4 : (j : Int) < M := by omega
      cases l
      · have H2 : Hid ((x != 0) = decide (X % B^(j+1) ≠ 0)) := Lib.hid (by
          have h1 : X % B^j = 0 := by
            have := hE.out
            by_cases h : X % B^j = 0
            · exact h
            · rw [decide_eq_true h] at this; cases this
          rw [mod_succ, h1, HX.out, Nat.zero_add, Bool.eq_iff_iff]
          have h2 := Bp j
          simp only [bne_iff_ne, ne_eq, decide_eq_true_eq, Nat.mul_eq_zero]
          omega)
        have H3 : ((x : Int) != 0) = (x != 0) := by rw [Bool.eq_iff_iff]; simp
        go_wp2_with fail
        go_roundw
        case rel => exact ⟨j + 1, _, by omega, rfl, by go_num, trivial, H2⟩
        case measure => simp [intOf]; omega
      · have H2 : Hid (true = decide (X % B^(j+1) ≠ 0)) := Lib.hid (by
          have h1 : X % B^j ≠ 0 := by
            have := hE.out
            intro h
            rw [decide_eq_false (by simp [h])] at this; cases this
          symm
          rw [decide_eq_true_eq, mod_succ]
          exact Nat.ne_of_gt (Nat.lt_of_lt_of_le (Nat.pos_of_ne_zero h1) (Nat.le_add_right _ _)))
        go_wp2_with fail
        go_roundw
        case rel => exact ⟨j + 1, true, by omega, rfl, by go_num, trivial, H2⟩
        case measure => simp [intOf]; omega
    · have hjq : q = j := by omega
      subst hjq
      have i1 : ¬ (q : Int) < q := by omega
      have i4 : (q : Int) < M := by omega
      have hmg := hm3.block_lt (by omega)
      have HW1 := Lib.hid (Nat.le_refl w1.heap.size)
      go_wp2_with fail
      clear i1 hlt hj
      go_loopw [6, 10, 11] (fun o i x wr => ∃ m : Nat, q ≤ m ∧ m ≤ M ∧ i = .int .i64 m ∧ OwnL 77 W.heap.size wr o (m - q) (X / 2^k % B^(m - q)) ∧ Hid (o.ownBlock ≠ some mg) ∧ Num wr mg 0 M X ∧ Below W.heap.size W wr ∧ Hid (w1.heap.size ≤ wr.heap.size)) (fun _ i _ _ => M - (intOf i).toNat)
      case atStart => exact ⟨q, Nat.le_refl _, by omega, rfl, by rw [Nat.sub_self, Nat.pow_zero, Nat.mod_one]; exact OwnL.nil _ _ _, Lib.hid (fun h => by cases h), hm3, HBW1.out, HW1⟩
      case round =>
        obtain ⟨m, hqm, hmM, rfl, hO, hne, hN3, hb, hsz⟩ := hrel
        have hgr := hb.size
        by_cases hlt : m < M
        · have cX := hN3.cell0 (i := m) hlt
          have hx := dg_lt X m
          obtain ⟨x, hxe⟩ : ∃ x, dg X m = x := ⟨_, rfl⟩
          rw [hxe] at cX hx
          have HX := Lib.hid hxe
          clear hxe
          have i1 : (m : Int) < M := by omega
          have i2 : (0 : Int) ≤ m := by omega
          have i3 : (m : Int) ≤ 100000 := by omega
          by_cases hl2 : m + 1 < M
          · have cY := hN3.cell0 (i := m + 1) hl2
            have hy := dg_lt X (m + 1)
            obtain ⟨y, hye⟩ : ∃ y, dg X (m + 1) = y := ⟨_, rfl⟩
            rw [hye] at cY hy
            have HY := Lib.hid hye
            clear hye
            have i5 : (m : Int) + 1 < M := by omega
            have HW := Lib.hid (down_word hx hy)
            have HD := Lib.hid (down_digit (X := X) (t := m - q) HKK.out hp (show dg X (q + (m - q)) = x by rw [Nat.add_sub_cancel' hqm]; exact HX.out) (show dg X (q + (m - q) + 1) = y by rw [Nat.add_sub_cancel' hqm]; exact HY.out))
            obtain ⟨d, hd⟩ : ∃ d, (x + y * B) / 2^p % B = d := ⟨_, rfl⟩
            have hdB : d < B := by rw [← hd]; exact Nat.mod_lt _ (by decide)
            have HTM := Lib.hid (show ((x + y * B : Nat) : Int) / 2^p % 4294967296 = (d : Int) by
              rw [← hd, show (2:Int)^p = ((2^p : Nat) : Int) by simp]
              rfl)
            rw [hd] at HD
            have hmg2 : mg < wr.heap.size := by have := hsz.out; omega
            clear hd
            go_wp2_with (at_builtin; rw [HW.out, HTM.out]; refine wpList_append_word_at _ rfl _ _ 22 rfl 77 i0 Try.underlying22 hi hz0 hz1 hz2 W.heap.size _ (m - q) (X / 2^k % B^(m - q)) rfl ⟨hO.1, hO.2.alloc _⟩ wr.heap.size d rfl hdB (cell_new _ _ _ _ _ _ rfl rfl) (by omega) (by simp; omega) ?_)
            intro v' w' hown hbl hg hat
            have hb2 := (hb.alloc hgr (Obj.cells #[.int .u32 (d : Nat)] 77)).trans hbl
            have hN4 : Num w' mg 0 M X := ⟨HXL.out, fun i hi => by
              rw [World.cell?_of_block (hg.block mg (by simp; omega) (fun e => hne.out e.symm))]
              exact (hN3.alloc _).2 i hi⟩
            have hne2 := Lib.hid (show v'.ownBlock ≠ some mg from fun e => by
              rcases hat with h1 | h1
              · exact hne.out (h1 ▸ e)
              · rw [h1] at e; simp at e; omega)
            have hsz2 := Lib.hid (show w1.heap.size ≤ w'.heap.size by have h9 := hsz.out; have h8 := hg.size; (try simp at h8); omega)
            have hO2 : OwnL 77 W.heap.size w' v' (m + 1 - q) (X / 2^k % B^(m + 1 - q)) := by
              rw [show m + 1 - q = m - q + 1 by omega, mod_succ, HD.out]; exact hown
            clear hO hbl hg hat hown hne hN3 hsz hmg2
            go_wp2_with fail
            go_roundw
            case rel => exact ⟨m + 1, by omega, by omega, by go_num, hO2, hne2, hN4, hb2, hsz2⟩
            case measure => simp [intOf]; omega
          · have hm1 : m + 1 = M := by omega
            obtain ⟨y, hye⟩ : ∃ y, y = 0 := ⟨0, rfl⟩
            have HY : Hid (dg X (m + 1) = y) := Lib.hid (by rw [hye]; exact dg_of_lt HXL.out (by omega))
            have HY0 := Lib.hid hye
            have i5 : ¬ (m : Int) + 1 < M := by omega
            clear hye hm1
            have HW := Lib.hid (show IntKind.u64.wrap (x : Int) = ((x + y * B : Nat) : Int) by rw [HY0.out, IntKind.wrap_u64]; unfold B at *; omega)
            have HD := Lib.hid (down_digit (X := X) (t := m - q) HKK.out hp (show dg X (q + (m - q)) = x by rw [Nat.add_sub_cancel' hqm]; exact HX.out) (show dg X (q + (m - q) + 1) = y by rw [Nat.add_sub_cancel' hqm]; exact HY.out))
            obtain ⟨d, hd⟩ : ∃ d, (x + y * B) / 2^p % B = d := ⟨_, rfl⟩
            have hdB : d < B := by rw [← hd]; exact Nat.mod_lt _ (by decide)
            have HTM := Lib.hid (show ((x + y * B : Nat) : Int) / 2^p % 4294967296 = (d : Int) by
              rw [← hd, show (2:Int)^p = ((2^p : Nat) : Int) by simp]
              rfl)
            rw [hd] at HD
            have hmg2 : mg < wr.heap.size := by have := hsz.out; omega
            clear hd
            go_wp2_with (at_builtin; rw [HW.out, HTM.out]; refine wpList_append_word_at _ rfl _ _ 22 rfl 77 i0 Try.underlying22 hi hz0 hz1 hz2 W.heap.size _ (m - q) (X / 2^k % B^(m - q)) rfl ⟨hO.1, hO.2.alloc _⟩ wr.heap.size d rfl hdB (cell_new _ _ _ _ _ _ rfl rfl) (by omega) (by simp; omega) ?_)
            intro v' w' hown hbl hg hat
            have hb2 := (hb.alloc hgr (Obj.cells #[.int .u32 (d : Nat)] 77)).trans hbl
            have hN4 : Num w' mg 0 M X := ⟨HXL.out, fun i hi => by
              rw [World.cell?_of_block (hg.block mg (by simp; omega) (fun e => hne.out e.symm))]
              exact (hN3.alloc _).2 i hi⟩
            have hne2 := Lib.hid (show v'.ownBlock ≠ some mg from fun e => by
              rcases hat with h1 | h1
              · exact hne.out (h1 ▸ e)
              · rw [h1] at e; simp at e; omega)
            have hsz2 := Lib.hid (show w1.heap.size ≤ w'.heap.size by have h9 := hsz.out; have h8 := hg.size; (try simp at h8); omega)
            have hO2 : OwnL 77 W.heap.size w' v' (m + 1 - q) (X / 2^k % B^(m + 1 - q)) := by
              rw [show m + 1 - q = m - q + 1 by omega, mod_succ, HD.out]; exact hown
            clear hO hbl hg hat hown hne hN3 hsz hmg2
            go_wp2_with fail
            go_roundw
            case rel => exact ⟨m + 1, by omega, by omega, by go_num, hO2, hne2, hN4, hb2, hsz2⟩
            case measure => simp [intOf]; omega
        · have hmM2 : M = m := by omega
          subst hmM2
          have i1 : ¬ (M : Int) < M := by omega
          obtain ⟨T, hT⟩ : ∃ T, M - q = T := ⟨_, rfl⟩
          rw [down_last HXL.out HKK.out (by omega), hT] at hO
          obtain ⟨Z, hZ⟩ : ∃ Z, X / 2^k = Z := ⟨_, rfl⟩
          rw [hZ] at hO
          have HZE := Lib.hid hZ
          clear hZ
          obtain ⟨ob, og, oc, rfl, ho1, ho2, ho3, ho4, ho5⟩ := own_slice hO
          obtain rfl := ho1 (by omega)
          have cQ := hN3.cell0 (i := q) hqM
          have hx := dg_lt X q
          obtain ⟨x, hxe⟩ : ∃ x, dg X q = x := ⟨_, rfl⟩
          rw [hxe] at cQ hx
          have HX := Lib.hid hxe
          clear hxe
          have i5 : (0 : Int) ≤ q := by omega
          obtain ⟨n0, n1⟩ := Blk2 (HK.out _ hb)
          have M1 := Lib.hid (make1_any s (some ⟨og, 0, none⟩) og 0 T oc _ wr (fun _ => rfl) ho3 ho2 (by omega))
          clear hO ho1 ho3 ho4 ho5
          have HE2 := Lib.hid (lower_mod (X := X) HKK.out hp)
          cases l
          · rw [HX.out] at HE2
            have h1 : ¬ X % B^q ≠ 0 := by
              have := hE.out
              intro h
              rw [decide_eq_true h] at this; cases this
            by_cases hxp : x % 2^p = 0
            · have hz : X % 2^k = 0 := by
                by_cases h : X % 2^k = 0
                · exact h
                · rcases HE2.out.1 h with h3 | h3
                  · exact absurd h3 h1
                  · exact absurd hxp h3
              have HZ2 := Lib.hid hz
              have hd := and_mask hx hp
              rw [decide_eq_false (show ¬ x % 2^p ≠ 0 by omega)] at hd
              clear hz h1 hxp HE2
              cases s
              · go_wp2_with fail
                refine M1.out.mono ?_
                rintro e w4 ⟨u, rfl, hcan, hb4⟩
                obtain ⟨s1, q1, c1, rfl⟩ := can_agg hcan
                obtain ⟨nz, hnz⟩ : ∃ nz, nl (sg false Z).natAbs = nz := ⟨_, rfl⟩
                rw [hnz] at hcan ⊢
                have hb5 := hb.trans (hb4.mono hgr)
                go_upto_region 19 with fail
                generalize hV : World.alloc _ _ = V
                have hbV := Lib.hid (show Below W.heap.size W V by rw [← hV]; exact hb5.alloc hb5.size _)
                have B2 : Blk V w4.heap.size #[.bool s1, .slice q1 nz c1] := by rw [← hV]; exact blk_new rfl
                have hcV : IsCan W.heap.size V (.agg #[.bool s1, .slice q1 nz c1]) (sg false Z) := by rw [← hV]; exact (hcan.kept (bs_alloc (Below.refl _ _) _)).mono hgr
                clear hV
                obtain ⟨x0, x1⟩ := Blk2 B2
                obtain ⟨n0, n1⟩ := Blk2 (HK.out _ hbV.out)
                obtain ⟨r0, r1⟩ := Blk2 (HL.out _ hbV.out)
                obtain ⟨f0, f1⟩ := Blk2f (HL.out _ hbV.out)
                have HCV := Lib.hid hcV
                clear hcan hcV hnz
                go_wp2_with fail
                have h1 := HS.out
                have hfin : R = sg false Z := by rw [← HR.out, dn, HZE.out, if_neg (by simp), Int.sub_zero]
                exact bodyPost_ret (v := .agg #[.bool s1, .slice q1 nz c1]) (by simp [results, Try.results89, go_sem, r0, r1]) rfl
                  ⟨_, rfl, hfin ▸ ((HCV.out.set (by show w.heap.size + 1 < W.heap.size; omega) _).set (by show w.heap.size + 1 < W.heap.size; omega) _).mono (by omega), bs_set (bs_set (HBW.out.trans (hbV.out.mono (by omega))) (by show w.heap.size ≤ w.heap.size + 1; omega) _) (by show w.heap.size ≤ w.heap.size + 1; omega) _⟩
              · go_wp2_with fail
                refine M1.out.mono ?_
                rintro e w4 ⟨u, rfl, hcan, hb4⟩
                obtain ⟨s1, q1, c1, rfl⟩ := can_agg hcan
                obtain ⟨nz, hnz⟩ : ∃ nz, nl (sg true Z).natAbs = nz := ⟨_, rfl⟩
                rw [hnz] at hcan ⊢
                have hb5 := hb.trans (hb4.mono hgr)
                go_upto_region 19 with fail
                generalize hV : World.alloc _ _ = V
                have hbV := Lib.hid (show Below W.heap.size W V by rw [← hV]; exact hb5.alloc hb5.size _)
                have B2 : Blk V w4.heap.size #[.bool s1, .slice q1 nz c1] := by rw [← hV]; exact blk_new rfl
                have hcV : IsCan W.heap.size V (.agg #[.bool s1, .slice q1 nz c1]) (sg true Z) := by rw [← hV]; exact (hcan.kept (bs_alloc (Below.refl _ _) _)).mono hgr
                clear hV
                obtain ⟨x0, x1⟩ := Blk2 B2
                obtain ⟨n0, n1⟩ := Blk2 (HK.out _ hbV.out)
                obtain ⟨r0, r1⟩ := Blk2 (HL.out _ hbV.out)
                obtain ⟨f0, f1⟩ := Blk2f (HL.out _ hbV.out)
                have HCV := Lib.hid hcV
                clear hcan hcV hnz
                go_wp2_with fail
                have h1 := HS.out
                have hfin : R = sg true Z := by rw [← HR.out, dn, HZE.out, if_neg (by rw [HZ2.out]; simp), Int.sub_zero]
                exact bodyPost_ret (v := .agg #[.bool s1, .slice q1 nz c1]) (by simp [results, Try.results89, go_sem, r0, r1]) rfl
                  ⟨_, rfl, hfin ▸ ((HCV.out.set (by show w.heap.size + 1 < W.heap.size; omega) _).set (by show w.heap.size + 1 < W.heap.size; omega) _).mono (by omega), bs_set (bs_set (HBW.out.trans (hbV.out.mono (by omega))) (by show w.heap.size ≤ w.heap.size + 1; omega) _) (by show w.heap.size ≤ w.heap.size + 1; omega) _⟩
            · have hd := and_mask hx hp
              have HNZ := Lib.hid (HE2.out.2 (Or.inr hxp))
              rw [decide_eq_true hxp] at hd
              clear h1 hxp HE2
              cases s
              · go_wp2_with fail
                refine M1.out.mono ?_
                rintro e w4 ⟨u, rfl, hcan, hb4⟩
                obtain ⟨s1, q1, c1, rfl⟩ := can_agg hcan
                obtain ⟨nz, hnz⟩ : ∃ nz, nl (sg false Z).natAbs = nz := ⟨_, rfl⟩
                rw [hnz] at hcan ⊢
                have hb5 := hb.trans (hb4.mono hgr)
                go_upto_region 19 with fail
                generalize hV : World.alloc _ _ = V
                have hbV := Lib.hid (show Below W.heap.size W V by rw [← hV]; exact hb5.alloc hb5.size _)
                have B2 : Blk V w4.heap.size #[.bool s1, .slice q1 nz c1] := by rw [← hV]; exact blk_new rfl
                have hcV : IsCan W.heap.size V (.agg #[.bool s1, .slice q1 nz c1]) (sg false Z) := by rw [← hV]; exact (hcan.kept (bs_alloc (Below.refl _ _) _)).mono hgr
                clear hV
                obtain ⟨x0, x1⟩ := Blk2 B2
                obtain ⟨n0, n1⟩ := Blk2 (HK.out _ hbV.out)
                obtain ⟨r0, r1⟩ := Blk2 (HL.out _ hbV.out)
                obtain ⟨f0, f1⟩ := Blk2f (HL.out _ hbV.out)
                have HCV := Lib.hid hcV
                clear hcan hcV hnz
                go_wp2_with fail
                have h1 := HS.out
                have hfin : R = sg false Z := by rw [← HR.out, dn, HZE.out, if_neg (by simp), Int.sub_zero]
                exact bodyPost_ret (v := .agg #[.bool s1, .slice q1 nz c1]) (by simp [results, Try.results89, go_sem, r0, r1]) rfl
                  ⟨_, rfl, hfin ▸ ((HCV.out.set (by show w.heap.size + 1 < W.heap.size; omega) _).set (by show w.heap.size + 1 < W.heap.size; omega) _).mono (by omega), bs_set (bs_set (HBW.out.trans (hbV.out.mono (by omega))) (by show w.heap.size ≤ w.heap.size + 1; omega) _) (by show w.heap.size ≤ w.heap.size + 1; omega) _⟩
              · go_wp2_with fail
                refine M1.out.mono ?_
                rintro e w4 ⟨u, rfl, hcan, hb4⟩
                obtain ⟨s1, q1, c1, rfl⟩ := can_agg hcan
                obtain ⟨nz, hnz⟩ : ∃ nz, nl (sg true Z).natAbs = nz := ⟨_, rfl⟩
                rw [hnz] at hcan ⊢
                have hb5 := hb.trans (hb4.mono hgr)
                go_upto_region 19 with fail
                generalize hV : World.alloc _ _ = V
                have hbV := Lib.hid (show Below W.heap.size W V by rw [← hV]; exact hb5.alloc hb5.size _)
                have B2 : Blk V w4.heap.size #[.bool s1, .slice q1 nz c1] := by rw [← hV]; exact blk_new rfl
                have hcV : IsCan W.heap.size V (.agg #[.bool s1, .slice q1 nz c1]) (sg true Z) := by rw [← hV]; exact (hcan.kept (bs_alloc (Below.refl _ _) _)).mono hgr
                clear hV
                obtain ⟨x0, x1⟩ := Blk2 B2
                obtain ⟨n0, n1⟩ := Blk2 (HK.out _ hbV.out)
                obtain ⟨r0, r1⟩ := Blk2 (HL.out _ hbV.out)
                obtain ⟨f0, f1⟩ := Blk2f (HL.out _ hbV.out)
                have HCV := Lib.hid hcV
                clear hcan hcV hnz
                have HV2 := Lib.hid (fun w3 (h : Below V.heap.size V w3) => Blk2 (B2.kept h))
                have HZL : Hid (nl (sg true Z).natAbs ≤ 100000) := Lib.hid (by
                  rw [sg_natAbs, ← HZE.out]
                  exact Nat.le_trans (nl_mono (Nat.div_le_self _ _)) (by rw [HMM.out]; exact hs))
                have hz9 : w4.heap.size ≠ w.heap.size + 1 := by have h1 := HS.out; have h2 := hb5.size; omega
                clear B2
                go_wp2_with fail
                go_region_held3 (fun w' => w'.cell? ⟨w4.heap.size, 0, none⟩ = some (.bool s1) ∧ w'.cell? ⟨w4.heap.size, 1, none⟩ = some (.slice q1 nz c1))
                  (first | (refine ⟨cell_other (cell_other (HV2.out _ hqq).1 ?_) ?_, cell_other (cell_other (HV2.out _ hqq).2 ?_) ?_⟩ <;> exact hz9) | exact HV2.out _ hqq | exact HV2.out _ hq | exact HV2.out _ (Below.refl _ _) | exact HV2.out _ (bs_drew (Below.refl _ _)))
                  (first
                    | (go_at_call 83; refine (minus_ref (.agg #[.bool s1, .slice q1 nz c1]) _ (sg true Z) 1 _ (HCV.out.int.kept hq) hc5.int HZL.out (Nat.le_trans (nl_le (k := 1) (by decide)) (by decide))).mono ?_; rintro e w6 ⟨u6, rfl, hc6, hb6⟩
                       have hqq := bs_trans hq hb6
                       obtain ⟨s6, q6, c6, rfl⟩ := can_agg hc6
                       have hq5 := hq.size
                       have HC6 := Lib.hid (hc6.mono hq5)
                       obtain ⟨r0, r1⟩ := Blk2 (HL.out _ (hbV.out.trans (hqq.mono hbV.out.size)))
                       obtain ⟨f0, f1⟩ := Blk2f (HL.out _ (hbV.out.trans (hqq.mono hbV.out.size)))
                       clear hc6)
                    | (go_at_call 31; refine (of_ref 1 _ (by decide) (by decide)).mono ?_; rintro e w5 ⟨u5, rfl, hc5, hb6⟩
                       have hq := bs_trans (bs_drew (Below.refl V.heap.size V)) hb6
                       obtain ⟨s5, q5, c5, rfl⟩ := can_agg hc5)
                    | fail "no arm")
                go_wp2_with fail
                have h1 := HS.out
                have h2 := hbV.out.size
                have hfin : R = sg true Z - 1 := by rw [← HR.out, dn, HZE.out, if_pos (by simp; exact HNZ.out)]
                subst hfin
                exact bodyPost_ret (v := .agg #[.bool s6, .slice q6 (nl (sg true Z - 1).natAbs) c6]) (by simp [results, Try.results89, go_sem, r0, r1]) rfl
                  ⟨_, rfl, ((HC6.out.set (by show w.heap.size + 1 < V.heap.size; omega) _).set (by show w.heap.size + 1 < V.heap.size; omega) _).mono (by omega), bs_set (bs_set (HBW.out.trans ((hbV.out.trans (hqq.mono hbV.out.size)).mono (by omega))) (by show w.heap.size ≤ w.heap.size + 1; omega) _) (by show w.heap.size ≤ w.heap.size + 1; omega) _⟩
          · have h1 : X % B^q ≠ 0 := by
              have := hE.out
              intro h
              rw [decide_eq_false (by simp [h])] at this; cases this
            have HNZ := Lib.hid (HE2.out.2 (Or.inl h1))
            clear h1 HE2
            cases s
            · go_wp2_with fail
              refine M1.out.mono ?_
              rintro e w4 ⟨u, rfl, hcan, hb4⟩
              obtain ⟨s1, q1, c1, rfl⟩ := can_agg hcan
              obtain ⟨nz, hnz⟩ : ∃ nz, nl (sg false Z).natAbs = nz := ⟨_, rfl⟩
              rw [hnz] at hcan ⊢
              have hb5 := hb.trans (hb4.mono hgr)
              go_upto_region 19 with fail
              generalize hV : World.alloc _ _ = V
              have hbV := Lib.hid (show Below W.heap.size W V by rw [← hV]; exact hb5.alloc hb5.size _)
              have B2 : Blk V w4.heap.size #[.bool s1, .slice q1 nz c1] := by rw [← hV]; exact blk_new rfl
              have hcV : IsCan W.heap.size V (.agg #[.bool s1, .slice q1 nz c1]) (sg false Z) := by rw [← hV]; exact (hcan.kept (bs_alloc (Below.refl _ _) _)).mono hgr
              clear hV
              obtain ⟨x0, x1⟩ := Blk2 B2
              obtain ⟨n0, n1⟩ := Blk2 (HK.out _ hbV.out)
              obtain ⟨r0, r1⟩ := Blk2 (HL.out _ hbV.out)
              obtain ⟨f0, f1⟩ := Blk2f (HL.out _ hbV.out)
              have HCV := Lib.hid hcV
              clear hcan hcV hnz
              go_wp2_with fail
              have h1 := HS.out
              have hfin : R = sg false Z := by rw [← HR.out, dn, HZE.out, if_neg (by simp), Int.sub_zero]
              exact bodyPost_ret (v := .agg #[.bool s1, .slice q1 nz c1]) (by simp [results, Try.results89, go_sem, r0, r1]) rfl
                ⟨_, rfl, hfin ▸ ((HCV.out.set (by show w.heap.size + 1 < W.heap.size; omega) _).set (by show w.heap.size + 1 < W.heap.size; omega) _).mono (by omega), bs_set (bs_set (HBW.out.trans (hbV.out.mono (by omega))) (by show w.heap.size ≤ w.heap.size + 1; omega) _) (by show w.heap.size ≤ w.heap.size + 1; omega) _⟩
            · go_wp2_with fail
              refine M1.out.mono ?_
              rintro e w4 ⟨u, rfl, hcan, hb4⟩
              obtain ⟨s1, q1, c1, rfl⟩ := can_agg hcan
              obtain ⟨nz, hnz⟩ : ∃ nz, nl (sg true Z).natAbs = nz := ⟨_, rfl⟩
              rw [hnz] at hcan ⊢
              have hb5 := hb.trans (hb4.mono hgr)
              go_upto_region 19 with fail
              generalize hV : World.alloc _ _ = V
              have hbV := Lib.hid (show Below W.heap.size W V by rw [← hV]; exact hb5.alloc hb5.size _)
              have B2 : Blk V w4.heap.size #[.bool s1, .slice q1 nz c1] := by rw [← hV]; exact blk_new rfl
              have hcV : IsCan W.heap.size V (.agg #[.bool s1, .slice q1 nz c1]) (sg true Z) := by rw [← hV]; exact (hcan.kept (bs_alloc (Below.refl _ _) _)).mono hgr
              clear hV
              obtain ⟨x0, x1⟩ := Blk2 B2
              obtain ⟨n0, n1⟩ := Blk2 (HK.out _ hbV.out)
              obtain ⟨r0, r1⟩ := Blk2 (HL.out _ hbV.out)
              obtain ⟨f0, f1⟩ := Blk2f (HL.out _ hbV.out)
              have HCV := Lib.hid hcV
              clear hcan hcV hnz
              have HV2 := Lib.hid (fun w3 (h : Below V.heap.size V w3) => Blk2 (B2.kept h))
              have HZL : Hid (nl (sg true Z).natAbs ≤ 100000) := Lib.hid (by
                rw [sg_natAbs, ← HZE.out]
                exact Nat.le_trans (nl_mono (Nat.div_le_self _ _)) (by rw [HMM.out]; exact hs))
              have hz9 : w4.heap.size ≠ w.heap.size + 1 := by have h1 := HS.out; have h2 := hb5.size; omega
              clear B2
              go_wp2_with fail
              go_region_held3 (fun w' => w'.cell? ⟨w4.heap.size, 0, none⟩ = some (.bool s1) ∧ w'.cell? ⟨w4.heap.size, 1, none⟩ = some (.slice q1 nz c1))
                (first | (refine ⟨cell_other (cell_other (HV2.out _ hqq).1 ?_) ?_, cell_other (cell_other (HV2.out _ hqq).2 ?_) ?_⟩ <;> exact hz9) | exact HV2.out _ hqq | exact HV2.out _ hq | exact HV2.out _ (Below.refl _ _) | exact HV2.out _ (bs_drew (Below.refl _ _)))
                (first
                  | (go_at_call 83; refine (minus_ref (.agg #[.bool s1, .slice q1 nz c1]) _ (sg true Z) 1 _ (HCV.out.int.kept hq) hc5.int HZL.out (Nat.le_trans (nl_le (k := 1) (by decide)) (by decide))).mono ?_; rintro e w6 ⟨u6, rfl, hc6, hb6⟩
                     have hqq := bs_trans hq hb6
                     obtain ⟨s6, q6, c6, rfl⟩ := can_agg hc6
                     have hq5 := hq.size
                     have HC6 := Lib.hid (hc6.mono hq5)
                     obtain ⟨r0, r1⟩ := Blk2 (HL.out _ (hbV.out.trans (hqq.mono hbV.out.size)))
                     obtain ⟨f0, f1⟩ := Blk2f (HL.out _ (hbV.out.trans (hqq.mono hbV.out.size)))
                     clear hc6)
                  | (go_at_call 31; refine (of_ref 1 _ (by decide) (by decide)).mono ?_; rintro e w5 ⟨u5, rfl, hc5, hb6⟩
                     have hq := bs_trans (bs_drew (Below.refl V.heap.size V)) hb6
                     obtain ⟨s5, q5, c5, rfl⟩ := can_agg hc5)
                  | fail "no arm")
              go_wp2_with fail
              have h1 := HS.out
              have h2 := hbV.out.size
              have hfin : R = sg true Z - 1 := by rw [← HR.out, dn, HZE.out, if_pos (by simp; exact HNZ.out)]
              subst hfin
              exact bodyPost_ret (v := .agg #[.bool s6, .slice q6 (nl (sg true Z - 1).natAbs) c6]) (by simp [results, Try.results89, go_sem, r0, r1]) rfl
                ⟨_, rfl, ((HC6.out.set (by show w.heap.size + 1 < V.heap.size; omega) _).set (by show w.heap.size + 1 < V.heap.size; omega) _).mono (by omega), bs_set (bs_set (HBW.out.trans ((hbV.out.trans (hqq.mono hbV.out.size)).mono (by omega))) (by show w.heap.size ≤ w.heap.size + 1; omega) _) (by show w.heap.size ≤ w.heap.size + 1; omega) _⟩
end Go.Proofs.Ytdgfmkideghhaaa

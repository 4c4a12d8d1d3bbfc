/-
  The verifier's divMag by two or more limbs.
  The verifier's Div.
-/
import Derived.Test.YtdgfmkideghhaaaM23
import Derived.Test.YtdgfmkideghhaaaM37
import Derived.Test.YtdgfmkideghhaaaM45
namespace PB
open Go Go.RowKit
theorem two_zeros (w : World) (T : TypeId) : Num (w.alloc (.cells #[.int .u32 0, .int .u32 0] T)) w.heap.size 0 2 0 := by
  refine ⟨Bp _, fun i hi => ?_⟩
  rw [Nat.zero_add, dg_zero]
  have h : i = 0 ∨ i = 1 := by omega
  rcases h with rfl | rfl
  · exact cell_new _ _ _ _ _ _ rfl rfl
  · exact cell_new _ _ _ _ _ _ rfl rfl
end PB
namespace Go.Proofs.Ytdgfmkideghhaaa
open Go.RowKit PB

theorem field_limbs (w : World) (b : Bool) (q : Option Addr) (n c : Nat) : (Instr.field 24 (.agg #[.bool b, .slice q n c]) 1).run Try.prog w = .ok (.slice q n c) w := by kernel_rfl

set_option maxHeartbeats 6400000 in
set_option maxRecDepth 100000 in
theorem divmag_many (basex basey : Option Addr) (bx ox X cx by_ oy Y cy m : Nat) (w : World) (hbx : nl X ≠ 0 → basex = some ⟨bx, ox, none⟩) (hby : nl Y ≠ 0 → basey = some ⟨by_, oy, none⟩)
    (hX : Num w bx ox (nl X) X) (hY : Num w by_ oy (nl Y) Y) (hcx : nl X ≤ cx) (hcy : nl Y ≤ cy) (hc : nl X ≤ 90000) (hYm : nl Y = m + 2) (hle : Y ≤ X) :
    Calls Try.prog 129 #[.slice basex (nl X) cx, .slice basey (nl Y) cy] w (RetDM w X Y) := by
  have hcm : ¬ cmpi (X : Int) Y < 0 := by unfold cmpi; rw [if_neg (by omega)]; split <;> decide
  obtain ⟨i0, hi, hz0, hz1, hz2⟩ := info_parts info51
  have hnm : m + 2 ≤ nl X := by have := nl_mono hle; omega
  obtain rfl := hbx (by omega)
  obtain rfl := hby (by omega)
  have ORD := Lib.hid (cmpmag_any (some ⟨bx, ox, none⟩) (some ⟨by_, oy, none⟩) bx ox X cx by_ oy Y cy w (fun _ => rfl) (fun _ => rfl) hX hY (by omega) (by omega))
  have UP1 := Lib.hid (fun W s Z (h : Below w.heap.size w W) (hs : s < 32) (hZ : Y * 2^s = Z) => up_own false (some ⟨by_, oy, none⟩) by_ oy (nl Y) cy Y s 0 s W (fun _ => rfl) (hY.kept h) hcy (by omega) (by omega) (by omega) hs (by omega) Z (Lib.hid hZ))
  have UP2 := Lib.hid (fun W s Z (h : Below w.heap.size w W) (hs : s < 32) (hZ : X * 2^s = Z) => up_own false (some ⟨bx, ox, none⟩) bx ox (nl X) cx X s 0 s W (fun _ => rfl) (hX.kept h) hcx (by omega) (by omega) (by omega) hs (by omega) Z (Lib.hid hZ))
  have HYT := Lib.hid (nl_top (X := Y) (by rintro rfl; rw [nl_zero] at hYm; omega))
  have HYN := Lib.hid (lt_nl Y)
  have HXN := Lib.hid (lt_nl X)
  rw [hYm] at ORD UP1 HYT HYN hY hcy ⊢
  obtain ⟨N, hN⟩ : ∃ N, nl X = N := ⟨_, rfl⟩
  rw [hN] at ORD UP2 HXN hX hcx hc hnm ⊢
  have HNX := Lib.hid hN
  have HNY := Lib.hid hYm
  have cT := hY.cell (i := m + 1) (by omega)
  obtain ⟨t, ht⟩ : ∃ t, dg Y (m + 1) = t := ⟨_, rfl⟩
  have htB : t < 4294967296 := ht ▸ dg_lt _ _
  have ht0 : Hid (t ≠ 0) := Lib.hid (ht ▸ HYT.out)
  have HT := Lib.hid ht
  rw [ht] at cT
  have HCT := Lib.hid (fun W (h : Below w.heap.size w W) => show W.cell? ⟨by_, oy + (m + 1), none⟩ = some (.int .u32 t) by rw [h.cell (p := ⟨by_, oy + (m + 1), none⟩) (hY.block_lt (by omega))]; exact cT)
  clear hN hYm ht hbx hby hle HYT cT
  have hfd := field_limbs
  go_enter Try.func129, Try.ntmps129
  go_wp2_with (go_at_call 94; refine ORD.out.mono ?_; rintro e w' ⟨rfl, n1, rfl⟩)
  have HB0 := Lib.hid (show Below w.heap.size w (w.drewN n1) from below_drewN (Below.refl _ _) _)
  generalize w.drewN n1 = w0 at HB0 ⊢
  have cT := HCT.out w0 HB0.out
  have j1 : (m : Int) + 1 < m + 2 := by omega
  have j2 : (0 : Int) ≤ (m : Int) + 1 := by omega
  have j3 : (m : Int) ≤ 100000 := by omega
  have j4 : ((m : Int) + 2 == 1) = false := by simp; omega
  go_loopw [9] (fun sv wr => ∃ s : Nat, s ≤ 31 ∧ sv = .int .i64 s ∧ Hid (t * 2^s < B) ∧ w0 = wr) (fun sv _ => 32 - (intOf sv).toNat)
  case atStart => exact ⟨0, by omega, rfl, Lib.hid (by rw [Nat.pow_zero, Nat.mul_one]; exact htB), rfl⟩
  case round =>
    obtain ⟨s, hs, rfl, hE, rfl⟩ := hrel
    have j5 : (s : Int) ≤ 31 := by omega
    have hd : (bits BinOp.and IntKind.u32 ((t : Int) * 2^s % 4294967296) 2147483648 == 0) = decide (t * 2^s < 2147483648) := by
      rw [← dm_bit hE.out, show (t : Int) * 2^s % 4294967296 = ((t * 2^s : Nat) : Int) by
        have h1 : ((t * 2^s : Nat) : Int) = (t : Int) * 2^s := by simp
        have h2 := hE.out
        rw [← h1]; unfold B at h2; omega]
    by_cases hlt : t * 2^s < 2147483648
    · rw [decide_eq_true hlt] at hd
      have hs2 : Hid (t * 2^(s+1) < B) := Lib.hid (by rw [Nat.pow_succ, ← Nat.mul_assoc]; unfold B; omega)
      have hs3 : Hid (s + 1 ≤ 31) := Lib.hid (by
        rcases Nat.lt_or_ge s 31 with h | h
        · omega
        · have h1 : (2:Nat)^31 ≤ 2^s := Nat.pow_le_pow_right (by decide) h
          have h2 : 1 * 2^s ≤ t * 2^s := Nat.mul_le_mul_right _ (by have := ht0.out; omega)
          omega)
      clear hlt
      go_wp2_with fail
      go_roundw
      case rel => exact ⟨s + 1, hs3.out, by go_num, hs2, trivial⟩
      case measure => simp [intOf]; omega
    · rw [decide_eq_false hlt] at hd
      obtain ⟨Z, hZ⟩ : ∃ Z, Y * 2^s = Z := ⟨_, rfl⟩
      obtain ⟨V, hV⟩ : ∃ V, X * 2^s = V := ⟨_, rfl⟩
      have hp2 : 0 < 2^s := Nat.pow_pos (by decide)
      have hYs := split Y (m + 1)
      have hYd : Y / B^(m+1) = t := by rw [← HT.out]; unfold dg; exact (Nat.mod_eq_of_lt (Nat.div_lt_of_lt_mul (by rw [← pow_succ]; exact HYN.out))).symm
      rw [hYd] at hYs
      have HZB : Hid (2147483648 * B^(m+1) ≤ Z) := Lib.hid (by
        rw [← hZ, hYs, Nat.add_mul, Nat.mul_right_comm]
        have := Nat.mul_le_mul_right (B^(m+1)) (show 2147483648 ≤ t * 2^s by omega)
        omega)
      have HZL : Hid (Z < B^(m+2)) := Lib.hid (by
        have h1 : Y + 1 ≤ (t + 1) * B^(m+1) := by
          have := mod_lt_pow Y (m+1)
          rw [Nat.add_mul]; omega
        have h2 : (Y + 1) * 2^s ≤ (t + 1) * B^(m+1) * 2^s := Nat.mul_le_mul_right _ h1
        have h3 : (t + 1) * 2^s ≤ B := by
          have h4 := hE.out
          have h5 : B = 2^(32-s) * 2^s := by rw [← Nat.pow_add, show 32 - s + s = 32 by omega]; rfl
          rw [h5] at h4 ⊢
          exact Nat.mul_le_mul_right _ (Nat.lt_of_mul_lt_mul_right h4)
        have h6 : (t + 1) * 2^s * B^(m+1) ≤ B * B^(m+1) := Nat.mul_le_mul_right _ h3
        rw [Nat.mul_right_comm] at h2
        rw [← hZ, show m + 2 = (m + 1) + 1 from rfl, pow_succ (m+1), Nat.mul_comm (B^(m+1))]
        rw [Nat.add_mul, Nat.one_mul] at h2
        omega)
      have HVL : Hid (V < 2147483648 * B^N) := Lib.hid (by
        have h1 : (2:Nat)^s ≤ 2^31 := Nat.pow_le_pow_right (by decide) hs
        have h2 : X * 2^s < B^N * 2^s := Nat.mul_lt_mul_of_pos_right HXN.out hp2
        have h3 : B^N * 2^s ≤ B^N * 2^31 := Nat.mul_le_mul_left _ h1
        rw [← hV]; omega)
      have HZN : Hid (nl Z = m + 2) := Lib.hid (by
        have h1 := nl_le HZL.out
        have h2 : ¬ nl Z ≤ m + 1 := fun h => by
          have h3 := nl_le_iff.1 h
          have h4 := HZB.out
          have := Bp (m+1)
          omega
        omega)
      have HVX : Hid (N ≤ nl V ∧ nl V ≤ N + 1) := Lib.hid (by
        constructor
        · rw [← HNX.out]; exact nl_mono (by rw [← hV]; exact Nat.le_mul_of_pos_right _ hp2)
        · refine nl_le (Nat.lt_of_lt_of_le HVL.out ?_)
          rw [pow_succ, Nat.mul_comm]
          exact Nat.mul_le_mul_left _ (by decide))
      have HZE := Lib.hid hZ
      have HVE := Lib.hid hV
      clear hYs hYd hlt hp2 hZ hV
      obtain ⟨nv, hnv⟩ : ∃ nv, nl V = nv := ⟨_, rfl⟩
      rw [hnv] at HVX
      have HNV := Lib.hid hnv
      have HW := Lib.hid hs
      go_wp2_with fail
      refine (UP1.out w0 s Z HB0.out (by omega) HZE.out).mono ?_
      rintro e w1 ⟨s1, vb, vc, rfl, hv, hb1⟩
      rw [HZN.out] at hv ⊢
      obtain ⟨vb, vg, vc, hvv, hv1, hv2, hv3, hv4, hv5⟩ := own_slice hv
      cases hvv
      obtain rfl := hv1 (by omega)
      have hbb1 := Lib.hid (HB0.out.trans (hb1.mono HB0.out.size))
      clear hv hv1 hv4 hb1 cT
      go_wp2_with fail
      refine (UP2.out w1 s V hbb1.out (by omega) HVE.out).mono ?_
      rintro e w2 ⟨s2, ub, uc, rfl, hu, hb2⟩
      have hbb2 := Lib.hid (hbb1.out.trans (hb2.mono hbb1.out.size))
      have hv6 := hv3.kept hb2
      have hvu := Lib.hid (show vg < w1.heap.size from hv3.block_lt (by omega))
      have HUN := Lib.hid (show w1.heap.size ≤ w2.heap.size from hb2.size)
      rw [HNV.out] at hu ⊢
      have hun := HUN.out
      have k1 : nv ≤ 100001 := by have := HVX.out.2; omega
      have k2 : N ≤ nv := HVX.out.1
      clear hb2 hv3
      go_wp2_with (at_builtin; refine wpList_append_limbs _ rfl _ _ 22 rfl 77 i0 Try.underlying22 hi hz0 hz1 hz2 w1.heap.size _ nv V rfl ⟨hu.1, hu.2.alloc _⟩ (some ⟨w2.heap.size, 0, none⟩) w2.heap.size 0 2 2 0 rfl (fun _ => rfl) (two_zeros w2 _) (by omega) (by simp; omega) ?_)
      intro v' w' hown hbl
      obtain ⟨ub, ug, uc, rfl, hu1, hu2, hu3, hu4, hu5⟩ := own_slice hown
      obtain rfl := hu1 (by omega)
      have hug := hu5 (by omega)
      have hbl2 : Below w1.heap.size w2 w' := (bs_alloc (Below.refl _ _) _ : Below w2.heap.size w2 _).mono hun |>.trans hbl
      have hbb3 := Lib.hid (hbb2.out.trans ((hbl2.mono hbb1.out.size)))
      have hv7 := Lib.hid (hv6.below hbl2 (fun _ => hvu.out))
      obtain ⟨D, hD⟩ : ∃ D, N = m + 1 + D := ⟨N - m - 1, by omega⟩
      have hu3' := hu3.fewer (k := N + 1) (by omega) (Nat.lt_of_lt_of_le HVL.out (by rw [pow_succ, Nat.mul_comm]; exact Nat.mul_le_mul_left _ (by decide)))
      have hu4' := hu4.part (k := 0) (m := N + 1) (by omega)
      have k3 : (N : Int) + 1 ≤ uc := by omega
      have k4 : (m : Int) + 2 + 1 ≤ N + 1 := by omega
      have k5 : ¬ (N : Int) + 1 < m + 2 + 1 := by omega
      have k6 : (N : Int) ≤ 100000 := by omega
      have k7 : max (N : Int) ((m : Int) + 2) = N := by omega
      have HD := Lib.hid hD
      clear hD hown hbl hbl2 hu hu1 hu3 hu4 hu5 hv6
      go_wp2_with (at_make; refine wpList_make_num _ rfl _ _ 22 rfl 77 info51 Try.underlying22 .i64 .i64 _ _ D rfl rfl (by have := HD.out; omega) (by have := HD.out; omega) (by have := HD.out; omega) ?_)
      intro w3 hb3 hs3 ho3 hf3 _
      have hug2 := hu3'.block_lt (by omega)
      have hu := hu3'.kept hb3
      have hf : Free w3 ug 0 (N + 1) := hu4'.below hb3 (fun _ => hug2)
      have hvn := hv7.out.kept hb3
      have hvg := hvu.out
      obtain ⟨G, hG⟩ : ∃ G, w'.heap.size = G := ⟨_, rfl⟩
      have hww : w1.heap.size ≤ w'.heap.size := by omega
      have hbb4 := hbb3.out.trans (hb3.mono hbb3.out.size)
      have n1 : vg ≠ ug := by omega
      have n2 : vg ≠ G := by omega
      have n3 : ug ≠ G := by omega
      have n4 : w.heap.size ≤ ug := by have := hbb1.out.size; omega
      have n5 : w.heap.size ≤ G := by have := hbb3.out.size; omega
      go_wp2_with fail
      rw [hG] at ho3 hf3 ⊢
      clear hb3 hs3 hu3' hu4' hv7 hbb3 hbb2 hbb1 hww hG hug hug2 hun HUN hvu hvg hu2 hv5 hnv HNV HVX k1 k2 k7 hd hE j5 HB0 HCT UP1 UP2 ORD hcx hX hY HYN hcy ht0 HT htB hfd
      go_loopw [14] (fun iv wr => ∃ J R Q : Nat, J ≤ D ∧ iv = .int .i64 ((J : Int) - 1) ∧ Num wr ug 0 (N + 1) R ∧ Free wr ug 0 (N + 1) ∧ Num wr G 0 D (Q * B^J) ∧ Free wr G 0 D ∧ Num wr vg 0 (m + 2) Z ∧ Hid (R + Q * Z * B^J = V) ∧ Hid (R < Z * B^J) ∧ Below w.heap.size w wr) (fun iv _ => (intOf iv + 1).toNat)
      case atStart =>
        refine ⟨D, V, 0, Nat.le_refl _, ?_, hu, hf, ho3.val (by simp), hf3, hvn, Lib.hid (by simp), Lib.hid ?_, hbb4⟩
        · have := HD.out
          exact congrArg (Value.int IntKind.i64) (by omega)
        · have h1 := HVL.out
          have h2 : 2147483648 * B^(m+1) * B^D ≤ Z * B^D := Nat.mul_le_mul_right _ HZB.out
          rw [HD.out, pow_add] at h1
          rw [Nat.mul_assoc] at h2
          omega
      case round =>
        clear hu hf ho3 hf3 hvn hbb4
        obtain ⟨J, R, Q, hJ, rfl, hR, hRF, hO, hOF, hV, hE, hL, hb⟩ := hrel
        by_cases h0 : J = 0
        · subst h0
          have hz : decide ((0 : Int) ≤ ((0 : Nat) : Int) - 1) = false := by decide
          have hQn : Num wr G 0 D Q := hO.val (by rw [Nat.pow_zero, Nat.mul_one])
          go_wp2_with fail
          refine (mag_any (some ⟨G, 0, none⟩) G 0 D D Q wr (fun _ => rfl) hQn (Nat.le_refl _) (by have := HD.out; omega)).mono ?_
          rintro e w4 ⟨vq, rfl, hq, hb4⟩
          have HQ := Lib.hid (cansl_own hq)
          have HB4 := Lib.hid (hb.trans (hb4.mono hb.size))
          have HR4 := Lib.hid (hR.kept hb4)
          clear hq hb4 hQn
          have hfd := field_limbs
          go_wp2_with fail
          refine (down_ref (.agg #[.bool false, .slice (some ⟨ug, 0, none⟩) (N + 1) uc]) R s w4 ⟨false, _, ug, 0, N + 1, uc, R, rfl, fun _ => rfl, HR4.out, by omega, by omega, rfl⟩ (Nat.le_trans (nl_le HR4.out.lt) (by omega)) (by omega)).mono ?_
          rintro e w5 ⟨u, rfl, hcan, hb5⟩
          obtain ⟨sb, qb, qg, qo, X2, qc, rfl, h1, h2, h3, h4, h5, _⟩ := hcan
          have hf := fin_div (X := X) (Y := Y) (R := R) (Q := Q) (u := s) (by rw [HZE.out, HVE.out, ← hE.out, Nat.pow_zero, Nat.mul_one]) (by rw [HZE.out]; simpa using hL.out)
          have hX2 : X2 = X % Y := by
            rw [← hf.2]
            have h6 := congrArg Int.natAbs h5
            rw [sg_natAbs, ← Int.natCast_ediv, Int.natAbs_natCast] at h6
            exact h6.symm
          have HQ5 := Lib.hid (show CanSl w5 vq (X / Y) by rw [← hf.1]; exact HQ.out.kept hb5)
          have HR5 := Lib.hid (show CanSl w5 (.slice qb (nl X2) qc) (X % Y) by rw [← hX2]; exact ⟨qb, qg, qo, qc, rfl, h1, h2, h3⟩)
          have HB5 := HB4.out.trans (hb5.mono HB4.out.size)
          clear h1 h2 h3 h4 h5 hf hX2 hb5 HQ
          go_wp2_with fail
          go_ret2
          exact ⟨_, _, rfl, HQ5.out, HR5.out, HB5⟩
        · obtain ⟨j, rfl⟩ : ∃ j, J = j + 1 := ⟨J - 1, by omega⟩
          have e1 : (((j + 1 : Nat) : Int) - 1) = j := by omega
          rw [e1]
          clear e1 h0
          refine dm_round _ _ _ _ _ _ _ _ _ _ _ _ _ _ _ _ _ _ _ _ _ _ _ _ _ _ _ _ _ _ _ _ _ _ _ _ _ _ _ _ _ _ _ _ _ _ _ _ _ _ _ _ _ _ _ _ _ _ _ _ _ _ _ _ _ _ _ _ _ _ _ _ _ _ _ _ _ _ _ _ _ _ _ _ _ _ _ _ _ _ _ _ _ _ _ _ _ _ _ _ _ _ _ _ _ _ _ _ _ _ _ _ _ _ _ _ _ _ _ _ _ _ _ _ _ _ _ _ _ _ _ _ _ _ _ _ _ _ _ _ _ _ _ _ _ _ _ _ _ _ _ _ _ _ _ _ _ _ _ _ _ _ _ _ _ _ _ _ _ _ _ _ _ _ _ _ _ _ _ _ _ _ _ _ _ _ _ _ _ _ _ _ _ _ _ _ _ _ _ _ _ _ _ _ _ _ _ _ _ _ _ _ _ _ _ _ _ _ _ _ _ _ _ _ _ _ _ _ _ _ _ _ _ _ _ _ _ _ _ _ _ _ _ _ _ _ _ _ _ _ _ _ _ _ _ _ _ _ _ _ _ _ _ _ _ _ _ _ _ _ _ _ _ _ _ _ _ _ _ _ _ _ _ _ _ _ _ _ _ _ _ _ _ _ _ _ _ _ _ _ _ _ vg ug G m N D j R Q Z V vc uc w wr _ HD.out hc n1 n2 n3 n4 n5 HZB HZL hJ hR hRF hO hOF hV hE hL hb ?_
          intro f15 f16 f17 f18 f19 f20 f21 f22 f23 f24 f119 f120 f121 f122 f123 f124 f125 f126 f127 f128 f129 f130 f131 f132 f133 f134 f135 f136 f137 f138 f139 f140 f141 f142 f143 f144 f145 f146 f147 f148 f149 f150 f151 f152 f153 f154 f155 f156 f157 f158 f159 f160 f161 f162 f163 f164 f165 f166 f167 f168 f169 f170 f171 f172 f173 f174 f175 f176 f177 f178 f179 f180 f181 f182 f183 f184 f185 f186 f187 f188 f189 f190 f191 f192 f193 f194 f195 f196 f197 f198 f199 f200 f201 f202 f203 f204 f205 f206 f207 f208 f209 f210 f211 f212 f213 f214 f215 f216 f217 f218 f219 f220 f221 f222 f223 f224 f225 f226 f227 f228 f229 f230 f231 f232 f233 f234 f235 f236 f237 f238 f239 f240 f241 f242 f243 f244 f245 f246 f247 f248 f249 f250 f251 f252 f253 f254 f255 f256 f257 f258 f259 f260 f261 f262 f263 f264 f265 f266 f267 f268 f269 f270 f271 f272 f273 f274 f275 f276 f277 f278 f279 f280 f281 f282 f283 f284 f285 f286 f287 f288 f289 f290 f291 f292 f293 f294 f295 f296 f297 f298 f299 R' Q' w9 h1 h2 h3 h4 h5 h6 h7 h8
          dsimp only
          refine ⟨⟨_, _, _, _, _, _, _, _, _, _, _, _, _, _, _, _, _, _, _, _, _, _, _, _, _, _, _, _, _, _, _, _, _, _, _, _, _, _, _, _, _, _, _, _, _, _, _, _, _, _, _, _, _, _, _, _, _, _, _, _, _, _, _, _, _, _, _, _, _, _, _, _, _, _, _, _, _, _, _, _, _, _, _, _, _, _, _, _, _, _, _, _, _, _, _, _, _, _, _, _, _, _, _, _, _, _, _, _, _, _, _, _, _, _, _, _, _, _, _, _, _, _, _, _, _, _, _, _, _, _, _, _, _, _, _, _, _, _, _, _, _, _, _, _, _, _, _, _, _, _, _, _, _, _, _, _, _, _, _, _, _, _, _, _, _, _, _, _, _, _, _, _, _, _, _, _, _, _, _, _, _, _, _, _, _, _, _, _, _, _, _, _, ⟨j, R', Q', by omega, rfl, h1, h2, h3, h4, h5, h6, h7, h8⟩, rfl⟩, ?_⟩
          show (((j : Int) - 1 + 1).toNat) < (((j : Int) + 1)).toNat
          omega
theorem divmag_ref (vx vy : Value) (X Y : Nat) (w : World) (hx : CanSl w vx X) (hy : CanSl w vy Y) (hc : nl X ≤ 90000) (hc' : nl Y ≤ 90000) (hY : Y ≠ 0) :
    Calls Try.prog 129 #[vx, vy] w (RetDM w X Y) := by
  obtain ⟨basex, bx, ox, cx, rfl, hbx, hX, hcx⟩ := hx
  obtain ⟨basey, by_, oy, cy, rfl, hby, hYn, hcy⟩ := hy
  by_cases hlt : X < Y
  · exact divmag_lt basex basey bx ox X cx by_ oy Y cy w hbx hby hX hYn (by omega) (by omega) hcx hlt
  · have hz : nl Y ≠ 0 := mt nl_eq_zero.1 hY
    by_cases h1 : nl Y = 1
    · obtain rfl := hby hz
      exact divmag_one basex bx ox X cx by_ oy Y cy w hbx hX hYn (by omega) h1 (by omega)
    · exact divmag_many basex basey bx ox X cx by_ oy Y cy (nl Y - 2) w hbx hby hX hYn hcx hcy hc (by omega) (by omega)
end Go.Proofs.Ytdgfmkideghhaaa

namespace PB
open Go Go.RowKit
/-- The call returns two canonical Ints. -/
def RetIntInt (w : World) (z1 z2 : Int) (e : Ending) (w' : World) : Prop :=
  ∃ v1 v2, e = .returned (.tuple #[v1, v2]) ∧ IsCan w.heap.size w' v1 z1 ∧ IsCan w.heap.size w' v2 z2 ∧ Below w.heap.size w w'
theorem nl_div_le (X Y : Nat) : nl (X / Y) ≤ nl X := nl_mono (Nat.div_le_self X Y)
theorem nl_mod_le (X Y : Nat) : nl (X % Y) ≤ nl X := nl_mono (Nat.mod_le X Y)
end PB
namespace Go.Proofs.Ytdgfmkideghhaaa
open Go.RowKit PB

set_option maxHeartbeats 3200000 in
set_option maxRecDepth 100000 in
theorem div_ref (v1 v2 : Value) (z1 z2 : Int) (w : World) (h1 : IsInt w v1 z1) (h2 : IsInt w v2 z2) (hs : nl z1.natAbs ≤ 90000) (hs' : nl z2.natAbs ≤ 90000) (h0 : z2 ≠ 0) :
    Calls Try.prog 86 #[v1, v2] w (RetIntInt w (z1.tdiv z2) (z1.tmod z2)) := by
  obtain ⟨s, base, b, off, n, c, X, rfl, hb, hX, hn, hl, rfl⟩ := h1
  obtain ⟨t, base', b', off', n', c', Y, rfl, hb', hY, hn', hl', rfl⟩ := h2
  rw [sg_natAbs] at hs hs'
  have hY0 : Y ≠ 0 := fun h => h0 (sg_zero.2 h)
  rw [← sg_tdiv, ← sg_tmod]
  obtain ⟨st, hst⟩ : ∃ st, (!(s == t)) = st := ⟨_, rfl⟩
  rw [hst]
  have HB := Lib.hid hb
  have HB' := Lib.hid hb'
  have HD := Lib.hid (fun vx vy W (hx : CanSl W vx X) (hy : CanSl W vy Y) => divmag_ref vx vy X Y W hx hy hs hs' hY0)
  have HQL := Lib.hid (nl_div_le X Y)
  have HRL := Lib.hid (nl_mod_le X Y)
  clear hb hb' h0
  obtain ⟨Q, hQ⟩ : ∃ Q, X / Y = Q := ⟨_, rfl⟩
  obtain ⟨R, hR⟩ : ∃ R, X % Y = R := ⟨_, rfl⟩
  have HDQ : Hid (∀ (W : World) (e : Ending) (w' : World), RetDM W X Y e w' → ∃ vq vr, e = .returned (.tuple #[vq, vr]) ∧ CanSl w' vq Q ∧ CanSl w' vr R ∧ Below W.heap.size W w') := Lib.hid (fun W e w' h => by unfold RetDM at h; rwa [hQ, hR] at h)
  rw [hQ] at HQL ⊢
  rw [hR] at HRL ⊢
  clear hQ hR
  go_enter Try.func86, Try.ntmps86
  go_wp2_with fail
  generalize hW : World.alloc _ _ = W
  have B0 : Blk W w.heap.size #[.bool s, .slice base n c] := by rw [← hW]; exact (((blk_new rfl).alloc _).alloc _).alloc _
  have B1 : Blk W (w.heap.size + 1) #[.bool t, .slice base' n' c'] := by rw [← hW]; exact ((blk_new (by simp)).alloc _).alloc _
  have B2 : Blk W (w.heap.size + 1 + 1) #[.bool false, .slice none 0 0] := by rw [← hW]; exact (blk_new (by simp)).alloc _
  have B3 : Blk W (w.heap.size + 1 + 1 + 1) #[.bool false, .slice none 0 0] := by rw [← hW]; exact blk_new (by simp)
  have hbW : Below w.heap.size w W := by rw [← hW]; exact ((((Below.refl _ _).alloc (Nat.le_refl _) _).alloc (by simp) _).alloc (by simp; omega) _).alloc (by simp; omega) _
  have HS := Lib.hid (show W.heap.size = w.heap.size + 4 by rw [← hW]; simp)
  clear hW
  have HK := Lib.hid (show ∀ w1, Below W.heap.size W w1 → (w1.cell? ⟨w.heap.size, 0, none⟩ = some (.bool s) ∧ w1.cell? ⟨w.heap.size, 1, none⟩ = some (.slice base n c)) ∧ (w1.cell? ⟨w.heap.size + 1, 0, none⟩ = some (.bool t) ∧ w1.cell? ⟨w.heap.size + 1, 1, none⟩ = some (.slice base' n' c')) from
    fun w1 h => ⟨Blk2 (B0.kept h), Blk2 (B1.kept h)⟩)
  have HL := Lib.hid (show ∀ w3, Below W.heap.size W w3 → Blk w3 (w.heap.size + 1 + 1) #[.bool false, .slice none 0 0] ∧ Blk w3 (w.heap.size + 1 + 1 + 1) #[.bool false, .slice none 0 0] from fun w3 h => ⟨B2.kept h, B3.kept h⟩)
  obtain ⟨⟨a0, a1⟩, b0, b1⟩ := HK.out _ (Below.refl _ _)
  have HXW := Lib.hid (fun W1 (h : Below W.heap.size W W1) => (hX.kept hbW).kept h)
  have HYW := Lib.hid (fun W1 (h : Below W.heap.size W W1) => (hY.kept hbW).kept h)
  have HBW := Lib.hid hbW
  clear B0 B1 B2 B3 hbW
  go_region_held3 (fun w' => (w'.cell? ⟨w.heap.size, 0, none⟩ = some (.bool s) ∧ w'.cell? ⟨w.heap.size, 1, none⟩ = some (.slice base n c)) ∧ (w'.cell? ⟨w.heap.size + 1, 0, none⟩ = some (.bool t) ∧ w'.cell? ⟨w.heap.size + 1, 1, none⟩ = some (.slice base' n' c')))
    (first | exact ⟨⟨a0, a1⟩, b0, b1⟩ | exact HK.out _ hq3 | exact HK.out _ hq2 | exact HK.out _ hq1)
    (first
      | (go_at_call_of 91 (Value.slice base n c); refine (mag_any base b off n c X _ HB.out (HXW.out _ (by first | exact Below.refl _ _ | exact (Below.refl _ _).drew)) hn hl).mono ?_; rintro e w1 ⟨v1, rfl, hown1, hb1⟩
         have hq1 : Below W.heap.size W w1 := (by first | exact hb1 | exact below_undrew hb1)
         have HC1 := Lib.hid (cansl_own hown1)
         clear hown1)
      | (go_at_call_of 91 (Value.slice base' n' c'); refine (mag_any base' b' off' n' c' Y _ HB'.out (HYW.out _ (by exact hq1)) hn' hl').mono ?_; rintro e w2 ⟨v2, rfl, hown2, hb2⟩
         have hq2 : Below W.heap.size W w2 := hq1.trans (hb2.mono hq1.size)
         have HC2 := Lib.hid (cansl_own hown2)
         have HC3 := Lib.hid (HC1.out.kept hb2)
         clear hown2)
      | (go_at_call 129; refine (HD.out _ _ _ (by exact HC3.out) (by exact HC2.out)).mono ?_; intro e w3 hret; obtain ⟨vq, vr, rfl, hq, hr, hb3⟩ := HDQ.out _ _ _ hret; clear hret
         have hq3 : Below W.heap.size W w3 := hq2.trans ((by first | exact hb3.mono hq2.size | exact (below_undrew hb3).mono hq2.size))))
  obtain ⟨qb, qg, qo, qc, rfl, hQ1, hQ2, hQ3⟩ := hq
  obtain ⟨rb, rg, ro, rc, rfl, hR1, hR2, hR3⟩ := hr
  have HQ1 := Lib.hid hQ1
  have HR1 := Lib.hid hR1
  obtain ⟨⟨a0, a1⟩, b0, b1⟩ := HK.out _ hq3
  have HM := Lib.hid hq3.size
  have HK' := Lib.hid (fun w4 (h : Below w3.heap.size w3 w4) => HK.out w4 (hq3.trans (h.mono hq3.size)))
  have HL' := Lib.hid (fun w4 (h : Below w3.heap.size w3 w4) => HL.out w4 (hq3.trans (h.mono hq3.size)))
  have HB3 := Lib.hid (HBW.out.trans (hq3.mono (by have := HS.out; omega)))
  have HR2 := Lib.hid (fun w4 (h : Below w3.heap.size w3 w4) => hR2.kept h)
  have HST := Lib.hid (show ∀ (w4 : World) (g j : Nat) (u : Value), ((w4.cell? ⟨w.heap.size, 0, none⟩ = some (.bool s) ∧ w4.cell? ⟨w.heap.size, 1, none⟩ = some (.slice base n c)) ∧ (w4.cell? ⟨w.heap.size + 1, 0, none⟩ = some (.bool t) ∧ w4.cell? ⟨w.heap.size + 1, 1, none⟩ = some (.slice base' n' c'))) → w.heap.size + 1 < g → (((w4.setCell ⟨g, j, none⟩ u).cell? ⟨w.heap.size, 0, none⟩ = some (.bool s) ∧ (w4.setCell ⟨g, j, none⟩ u).cell? ⟨w.heap.size, 1, none⟩ = some (.slice base n c)) ∧ ((w4.setCell ⟨g, j, none⟩ u).cell? ⟨w.heap.size + 1, 0, none⟩ = some (.bool t) ∧ (w4.setCell ⟨g, j, none⟩ u).cell? ⟨w.heap.size + 1, 1, none⟩ = some (.slice base' n' c'))) from
    fun w4 g j u h hg => ⟨⟨cell_other h.1.1 (show w.heap.size ≠ g by omega), cell_other h.1.2 (show w.heap.size ≠ g by omega)⟩, cell_other h.2.1 (show w.heap.size + 1 ≠ g by omega), cell_other h.2.2 (show w.heap.size + 1 ≠ g by omega)⟩)
  clear hq3 hb3 hq2 hb2 hq1 hb1 HC1 HC2 HC3 HK HL HXW HYW HD HDQ HB HB' hX hY hQ1 hR1 hR2
  go_wp2_with fail
  go_region_held3 (fun w' => (w'.cell? ⟨w.heap.size, 0, none⟩ = some (.bool s) ∧ w'.cell? ⟨w.heap.size, 1, none⟩ = some (.slice base n c)) ∧ (w'.cell? ⟨w.heap.size + 1, 0, none⟩ = some (.bool t) ∧ w'.cell? ⟨w.heap.size + 1, 1, none⟩ = some (.slice base' n' c')))
    (first | exact ⟨⟨a0, a1⟩, b0, b1⟩ | exact HK'.out _ hk4 | exact HK'.out _ hk3 | exact HST.out _ _ _ _ (HST.out _ _ _ _ (HK'.out _ hk4) (by omega)) (by omega) | exact HST.out _ _ _ _ (HST.out _ _ _ _ (HST.out _ _ _ _ (HST.out _ _ _ _ (HK'.out _ hk4) (by omega)) (by omega)) (by omega)) (by omega))
    (first
      | (go_at_call_of 90 (Value.slice qb (nl Q) qc); refine (make1_any st qb qg qo (nl Q) qc Q _ HQ1.out (by exact hQ2) hQ3 (by have := HQL.out; omega)).mono ?_; rintro e w4 ⟨u1, rfl, hcan1, hb4⟩
         have hk3 : Below w3.heap.size w3 w4 := (by first | exact hb4 | exact below_undrew hb4)
         obtain ⟨s1, p1, m1, rfl⟩ := can_agg hcan1
         have HV1 := Lib.hid (hcan1.mono (show w3.heap.size ≤ _ from Nat.le_refl _))
         clear hcan1)
      | (go_at_call_of 90 (Value.slice rb (nl R) rc); refine (make1_any s rb rg ro (nl R) rc R _ HR1.out (HR2.out _ hk3) hR3 (by have := HRL.out; omega)).mono ?_; rintro e w5 ⟨u2, rfl, hcan2, hb5⟩
         have hk4 : Below w3.heap.size w3 w5 := hk3.trans (hb5.mono hk3.size)
         obtain ⟨s2, p2, m2, rfl⟩ := can_agg hcan2
         have HV2 := Lib.hid (hcan2.mono (show w3.heap.size ≤ _ from hk3.size))
         have HV3 := Lib.hid (HV1.out.kept hb5)
         clear hcan2
         obtain ⟨c0, c1⟩ := Blk2 (HL'.out _ hk4).1
         obtain ⟨f0, f1⟩ := Blk2f (HL'.out _ hk4).1
         obtain ⟨d0, d1⟩ := Blk2 (HL'.out _ hk4).2
         obtain ⟨g0, g1⟩ := Blk2f (HL'.out _ hk4).2))
  go_wp2_with fail
  have h1 := HS.out
  have h2 := HM.out
  refine bodyPost_ret (v := .tuple #[.agg #[.bool s1, .slice p1 (nl (sg st Q).natAbs) m1], .agg #[.bool s2, .slice p2 (nl (sg s R).natAbs) m2]]) (by simp [results, Try.results86, go_sem, c0, c1, d0, d1]) rfl ⟨_, _, rfl, ?_, ?_, ?_⟩
  · exact ((((HV3.out.set (by show w.heap.size + 1 + 1 < w3.heap.size; omega) _).set (by show w.heap.size + 1 + 1 < w3.heap.size; omega) _).set (by show w.heap.size + 1 + 1 + 1 < w3.heap.size; omega) _).set (by show w.heap.size + 1 + 1 + 1 < w3.heap.size; omega) _).mono (by omega)
  · exact ((((HV2.out.set (by show w.heap.size + 1 + 1 < w3.heap.size; omega) _).set (by show w.heap.size + 1 + 1 < w3.heap.size; omega) _).set (by show w.heap.size + 1 + 1 + 1 < w3.heap.size; omega) _).set (by show w.heap.size + 1 + 1 + 1 < w3.heap.size; omega) _).mono (by omega)
  · exact ((((HB3.out.trans (hk4.mono (by omega))).setCell (by show w.heap.size ≤ w.heap.size + 1 + 1; omega) _).setCell (by show w.heap.size ≤ w.heap.size + 1 + 1; omega) _).setCell (by show w.heap.size ≤ w.heap.size + 1 + 1 + 1; omega) _).setCell (by show w.heap.size ≤ w.heap.size + 1 + 1 + 1; omega) _
end Go.Proofs.Ytdgfmkideghhaaa

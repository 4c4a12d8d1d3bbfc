/-
  A round of the verifier's division (written by wip/gendm.py).
-/
import Derived.Test.YtdgfmkideghhaaaM44
namespace Go.Proofs.Ytdgfmkideghhaaa
open Go.RowKit PB

set_option maxHeartbeats 12800000 in
set_option maxRecDepth 1000000 in
theorem dm_round (a0 a1 a2 a3 a4 a5 a6 a7 a8 a9 a25 a26 a27 a28 a29 a30 a31 a32 a33 a34 a35 a36 a37 a38 a39 a40 a41 a42 a43 a44 a45 a46 a47 a48 a49 a50 a51 a52 a53 a54 a55 a56 a57 a58 a59 a60 a61 a62 a63 a64 a65 a66 a67 a68 a69 a70 a71 a72 a73 a74 a75 a76 a77 a78 a79 a80 a81 a82 a83 a84 a85 a86 a87 a88 a89 a90 a91 a92 a93 a94 a95 a96 a97 a98 a99 a100 a101 a102 a103 a104 a105 a106 a107 a108 a109 a110 a111 a112 a113 a114 a115 a116 a117 a118 a300 a301 a302 a303 a304 a305 a306 u15 u16 u17 u18 u19 u20 u21 u22 u23 u24 u119 u120 u121 u122 u123 u124 u125 u126 u127 u128 u129 u130 u131 u132 u133 u134 u135 u136 u137 u138 u139 u140 u141 u142 u143 u144 u145 u146 u147 u148 u149 u150 u151 u152 u153 u154 u155 u156 u157 u158 u159 u160 u161 u162 u163 u164 u165 u166 u167 u168 u169 u170 u171 u172 u173 u174 u175 u176 u177 u178 u179 u180 u181 u182 u183 u184 u185 u186 u187 u188 u189 u190 u191 u192 u193 u194 u195 u196 u197 u198 u199 u200 u201 u202 u203 u204 u205 u206 u207 u208 u209 u210 u211 u212 u213 u214 u215 u216 u217 u218 u219 u220 u221 u222 u223 u224 u225 u226 u227 u228 u229 u230 u231 u232 u233 u234 u235 u236 u237 u238 u239 u240 u241 u242 u243 u244 u245 u246 u247 u248 u249 u250 u251 u252 u253 u254 u255 u256 u257 u258 u259 u260 u261 u262 u263 u264 u265 u266 u267 u268 u269 u270 u271 u272 u273 u274 u275 u276 u277 u278 u279 u280 u281 u282 u283 u284 u285 u286 u287 u288 u289 u290 u291 u292 u293 u294 u295 u296 u297 u298 u299 : Value) (vg ug G m N D j R Q Z V vc uc : Nat) (w wr : World) (Q0 : Exit → Act → World → Prop)
    (hND : N = m + 1 + D) (hc : N ≤ 90000) (n1 : vg ≠ ug) (n2 : vg ≠ G) (n3 : ug ≠ G) (n4 : w.heap.size ≤ ug) (n5 : w.heap.size ≤ G) (HZB : Hid (2147483648 * B^(m+1) ≤ Z)) (HZL : Hid (Z < B^(m+2))) (hJ : j + 1 ≤ D) (hR : Num wr ug 0 (N + 1) R) (hRF : Free wr ug 0 (N + 1)) (hO : Num wr G 0 D (Q * B^(j+1))) (hOF : Free wr G 0 D) (hV : Num wr vg 0 (m + 2) Z) (hE : Hid (R + Q * Z * B^(j+1) = V)) (hL : Hid (R < Z * B^(j+1))) (hb : Below w.heap.size w wr)
    (hK : ∀ (e15 e16 e17 e18 e19 e20 e21 e22 e23 e24 e119 e120 e121 e122 e123 e124 e125 e126 e127 e128 e129 e130 e131 e132 e133 e134 e135 e136 e137 e138 e139 e140 e141 e142 e143 e144 e145 e146 e147 e148 e149 e150 e151 e152 e153 e154 e155 e156 e157 e158 e159 e160 e161 e162 e163 e164 e165 e166 e167 e168 e169 e170 e171 e172 e173 e174 e175 e176 e177 e178 e179 e180 e181 e182 e183 e184 e185 e186 e187 e188 e189 e190 e191 e192 e193 e194 e195 e196 e197 e198 e199 e200 e201 e202 e203 e204 e205 e206 e207 e208 e209 e210 e211 e212 e213 e214 e215 e216 e217 e218 e219 e220 e221 e222 e223 e224 e225 e226 e227 e228 e229 e230 e231 e232 e233 e234 e235 e236 e237 e238 e239 e240 e241 e242 e243 e244 e245 e246 e247 e248 e249 e250 e251 e252 e253 e254 e255 e256 e257 e258 e259 e260 e261 e262 e263 e264 e265 e266 e267 e268 e269 e270 e271 e272 e273 e274 e275 e276 e277 e278 e279 e280 e281 e282 e283 e284 e285 e286 e287 e288 e289 e290 e291 e292 e293 e294 e295 e296 e297 e298 e299 : Value) (R' Q' : Nat) (w' : World), Num w' ug 0 (N + 1) R' → Free w' ug 0 (N + 1) → Num w' G 0 D (Q' * B^j) → Free w' G 0 D → Num w' vg 0 (m + 2) Z → Hid (R' + Q' * Z * B^j = V) → Hid (R' < Z * B^j) → Below w.heap.size w w' → Q0 .normal ⟨#[a0, a1, a2, a3, a4, a5, a6, a7, a8, a9, .slice (some ⟨vg, 0, none⟩) (m + 2) vc, .slice (some ⟨ug, 0, none⟩) (N + 1) uc, .int .i64 ((m : Int) + 2), .slice (some ⟨G, 0, none⟩) D D, .int .i64 ((j : Int) - 1), e15, e16, e17, e18, e19, e20, e21, e22, e23, e24, a25, a26, a27, a28, a29, a30, a31, a32, a33, a34, a35, a36, a37, a38, a39, a40, a41, a42, a43, a44, a45, a46, a47, a48, a49, a50, a51, a52, a53, a54, a55, a56, a57, a58, a59, a60, a61, a62, a63, a64, a65, a66, a67, a68, a69, a70, a71, a72, a73, a74, a75, a76, a77, a78, a79, a80, a81, a82, a83, a84, a85, a86, a87, a88, a89, a90, a91, a92, a93, a94, a95, a96, a97, a98, a99, a100, a101, a102, a103, a104, a105, a106, a107, a108, a109, a110, a111, a112, a113, a114, a115, a116, a117, a118, e119, e120, e121, e122, e123, e124, e125, e126, e127, e128, e129, e130, e131, e132, e133, e134, e135, e136, e137, e138, e139, e140, e141, e142, e143, e144, e145, e146, e147, e148, e149, e150, e151, e152, e153, e154, e155, e156, e157, e158, e159, e160, e161, e162, e163, e164, e165, e166, e167, e168, e169, e170, e171, e172, e173, e174, e175, e176, e177, e178, e179, e180, e181, e182, e183, e184, e185, e186, e187, e188, e189, e190, e191, e192, e193, e194, e195, e196, e197, e198, e199, e200, e201, e202, e203, e204, e205, e206, e207, e208, e209, e210, e211, e212, e213, e214, e215, e216, e217, e218, e219, e220, e221, e222, e223, e224, e225, e226, e227, e228, e229, e230, e231, e232, e233, e234, e235, e236, e237, e238, e239, e240, e241, e242, e243, e244, e245, e246, e247, e248, e249, e250, e251, e252, e253, e254, e255, e256, e257, e258, e259, e260, e261, e262, e263, e264, e265, e266, e267, e268, e269, e270, e271, e272, e273, e274, e275, e276, e277, e278, e279, e280, e281, e282, e283, e284, e285, e286, e287, e288, e289, e290, e291, e292, e293, e294, e295, e296, e297, e298, e299, a300, a301, a302, a303, a304, a305, a306], []⟩ w') :
    Code.wp Try.prog dmBody Q0 ⟨#[a0, a1, a2, a3, a4, a5, a6, a7, a8, a9, .slice (some ⟨vg, 0, none⟩) (m + 2) vc, .slice (some ⟨ug, 0, none⟩) (N + 1) uc, .int .i64 ((m : Int) + 2), .slice (some ⟨G, 0, none⟩) D D, .int .i64 (j : Int), u15, u16, u17, u18, u19, u20, u21, u22, u23, u24, a25, a26, a27, a28, a29, a30, a31, a32, a33, a34, a35, a36, a37, a38, a39, a40, a41, a42, a43, a44, a45, a46, a47, a48, a49, a50, a51, a52, a53, a54, a55, a56, a57, a58, a59, a60, a61, a62, a63, a64, a65, a66, a67, a68, a69, a70, a71, a72, a73, a74, a75, a76, a77, a78, a79, a80, a81, a82, a83, a84, a85, a86, a87, a88, a89, a90, a91, a92, a93, a94, a95, a96, a97, a98, a99, a100, a101, a102, a103, a104, a105, a106, a107, a108, a109, a110, a111, a112, a113, a114, a115, a116, a117, a118, u119, u120, u121, u122, u123, u124, u125, u126, u127, u128, u129, u130, u131, u132, u133, u134, u135, u136, u137, u138, u139, u140, u141, u142, u143, u144, u145, u146, u147, u148, u149, u150, u151, u152, u153, u154, u155, u156, u157, u158, u159, u160, u161, u162, u163, u164, u165, u166, u167, u168, u169, u170, u171, u172, u173, u174, u175, u176, u177, u178, u179, u180, u181, u182, u183, u184, u185, u186, u187, u188, u189, u190, u191, u192, u193, u194, u195, u196, u197, u198, u199, u200, u201, u202, u203, u204, u205, u206, u207, u208, u209, u210, u211, u212, u213, u214, u215, u216, u217, u218, u219, u220, u221, u222, u223, u224, u225, u226, u227, u228, u229, u230, u231, u232, u233, u234, u235, u236, u237, u238, u239, u240, u241, u242, u243, u244, u245, u246, u247, u248, u249, u250, u251, u252, u253, u254, u255, u256, u257, u258, u259, u260, u261, u262, u263, u264, u265, u266, u267, u268, u269, u270, u271, u272, u273, u274, u275, u276, u277, u278, u279, u280, u281, u282, u283, u284, u285, u286, u287, u288, u289, u290, u291, u292, u293, u294, u295, u296, u297, u298, u299, a300, a301, a302, a303, a304, a305, a306], []⟩ wr := by
  have HK := Lib.hid hK
  clear hK
  conv => arg 2; whnf
  have hZ0 : 0 < Z := Nat.lt_of_lt_of_le (Nat.mul_pos (by decide) (Bp (m+1))) HZB.out
  have hst := dm_step (n := m + 2) HZL.out hZ0 hE.out hL.out
  have HS1 := Lib.hid hst.1
  have HS2 := Lib.hid hst.2.1
  have HS3 := Lib.hid hst.2.2.1
  have HS4 := Lib.hid hst.2.2.2
  have q1 : j + (m + 2) < N + 1 := by omega
  obtain ⟨P, hP⟩ : ∃ P, R / B^j = P := ⟨_, rfl⟩
  rw [hP] at HS1 HS2 HS3 HS4
  obtain ⟨x0, hx0⟩ : ∃ x, dg P m = x := ⟨_, rfl⟩
  obtain ⟨x1, hx1⟩ : ∃ x, dg P (m + 1) = x := ⟨_, rfl⟩
  obtain ⟨x2, hx2⟩ : ∃ x, dg P (m + 2) = x := ⟨_, rfl⟩
  obtain ⟨y0, hy0⟩ : ∃ x, dg Z m = x := ⟨_, rfl⟩
  obtain ⟨y1, hy1⟩ : ∃ x, dg Z (m + 1) = x := ⟨_, rfl⟩
  have d0 : wr.cell? ⟨ug, j + m, none⟩ = some (.int .u32 x0) := by rw [← hx0, ← hP, dg_div]; exact hR.cell0 (by omega)
  have d1 : wr.cell? ⟨ug, j + (m + 1), none⟩ = some (.int .u32 x1) := by rw [← hx1, ← hP, dg_div]; exact hR.cell0 (by omega)
  have d2 : wr.cell? ⟨ug, j + (m + 2), none⟩ = some (.int .u32 x2) := by rw [← hx2, ← hP, dg_div]; exact hR.cell0 (by omega)
  have v0 : wr.cell? ⟨vg, m, none⟩ = some (.int .u32 y0) := by rw [← hy0]; exact hV.cell0 (by omega)
  have v1 : wr.cell? ⟨vg, m + 1, none⟩ = some (.int .u32 y1) := by rw [← hy1]; exact hV.cell0 (by omega)
  have b0 : x0 < B := hx0 ▸ dg_lt _ _
  have b1 : x1 < B := hx1 ▸ dg_lt _ _
  have b2 : x2 < B := hx2 ▸ dg_lt _ _
  have b3 : y0 < B := hy0 ▸ dg_lt _ _
  have b4 : y1 < B := hy1 ▸ dg_lt _ _
  have EST := Lib.hid (dm_est HS1.out HZL.out HZB.out (by rw [hx2, hx1]) hx0 hy1 hy0)
  have HX0 := Lib.hid hx0
  have HX1 := Lib.hid hx1
  have HX2 := Lib.hid hx2
  have HP := Lib.hid hP
  have r1 : (j : Int) ≤ 90000 := by omega
  have r2 : (0 : Int) ≤ j := by omega
  have r3 : (0 : Int) ≤ m := by omega
  have r4 : (m : Int) ≤ 90000 := by omega
  have r5 : (j : Int) + (m + 2) < N + 1 := by omega
  have r6 : (j : Int) + (m + 2) - 1 < N + 1 := by omega
  have r7 : (m : Int) + 2 - 1 < m + 2 := by omega
  have r8 : (0 : Int) ≤ (j : Int) + (m + 2) - 1 := by omega
  have r9 : (0 : Int) ≤ (m : Int) + 2 - 1 := by omega
  have r10 : (0 : Int) < y1 := by have := EST.out.2.2.2.1; omega
  have hjN : j + m + 2 ≤ N := by omega
  have HND := Lib.hid hND
  clear hND hst hP hx0 hx1 hx2 hy0 hy1 q1
  go_wp2_with fail
  go_quiet (fail)
  rw [est_l b2 b1]
  obtain ⟨T, hT⟩ : ∃ T, x2 * B + x1 = T := ⟨_, rfl⟩
  rw [hT] at EST ⊢
  have hTB : T < 18446744073709551616 := by rw [← hT]; unfold B at *; omega
  have t1 : (T : Int) < 18446744073709551616 := by omega
  have t2 : (0 : Int) ≤ T := by omega
  have t3 : (y1 : Int) < 4294967296 := by unfold B at b4; omega
  have t4 : (0 : Int) ≤ (T : Int) / y1 := by rw [← Int.natCast_ediv]; exact Int.natCast_nonneg _
  have t5 : (T : Int) / y1 ≤ T := by rw [← Int.natCast_ediv]; have := Nat.div_le_self T y1; omega
  clear hT hTB
  go_wp2_with fail
  go_quiet (fail)
  rw [World.drewN_drewN]
  generalize hwq : wr.drewN _ = wq
  replace hR : Num wq ug 0 (N + 1) R := by rw [← hwq]; exact hR.drewN
  replace hRF : Free wq ug 0 (N + 1) := by rw [← hwq]; exact hRF
  replace hO : Num wq G 0 D (Q * B^(j+1)) := by rw [← hwq]; exact hO.drewN
  replace hOF : Free wq G 0 D := by rw [← hwq]; exact hOF
  replace hV : Num wq vg 0 (m + 2) Z := by rw [← hwq]; exact hV.drewN
  replace hb : Below w.heap.size w wq := by rw [← hwq]; exact below_drewN hb _
  replace d0 : wq.cell? ⟨ug, j + m, none⟩ = some (.int .u32 x0) := by rw [← hwq]; exact d0
  replace d2 : wq.cell? ⟨ug, j + (m + 2), none⟩ = some (.int .u32 x2) := by rw [← hwq]; exact d2
  replace v0 : wq.cell? ⟨vg, m, none⟩ = some (.int .u32 y0) := by rw [← hwq]; exact v0
  replace v1 : wq.cell? ⟨vg, m + 1, none⟩ = some (.int .u32 y1) := by rw [← hwq]; exact v1
  clear hwq d1
  go_upto_block 6 with fail
  refine dm_est_loop _ _ _ _ _ _ _ _ _ _ _ _ _ _ _ _ _ _ _ _ _ _ _ _ _ _ _ _ _ _ _ _ _ _ _ _ _ _ _ _ _ _ _ _ _ _ _ _ _ _ _ _ _ _ _ _ _ _ _ _ _ _ _ _ _ _ _ _ _ _ _ _ _ _ _ _ _ _ _ _ _ _ _ _ _ _ _ _ _ _ _ _ _ _ _ _ _ _ _ _ _ _ _ _ _ _ _ _ _ _ _ _ _ _ _ _ _ _ _ _ _ _ _ _ _ _ _ _ _ _ _ _ _ _ _ _ _ _ _ _ _ _ _ _ _ _ _ _ _ _ _ _ _ _ _ _ _ _ _ _ _ _ _ _ _ _ _ _ _ _ _ _ _ _ _ _ _ _ _ _ _ _ _ _ _ _ _ _ _ _ _ _ _ _ _ _ _ _ _ _ _ _ _ _ _ _ _ _ _ _ _ _ _ _ _ _ _ _ _ _ _ _ _ _ _ _ _ _ _ _ _ _ _ _ _ _ _ _ _ _ _ _ _ _ _ _ _ _ _ _ _ _ _ _ _ _ _ _ _ _ _ _ _ _ _ _ _ _ _ _ _ _ _ _ _ _ _ _ _ _ _ _ _ _ _ _ _ _ _ _ _ _ _ _ _ _ _ _ _ _ _ vg ug m N j vc uc P Z T x0 y0 y1 wq _ hjN hc d0 v0 v1 b0 b3 b4 EST ?_
  intro f17 f156 f157 f158 f159 f160 f161 f162 f163 f164 f165 f166 f167 f168 f169 f170 f171 f172 f173 f174 f175 f176 f177 f178 f179 f180 f181 f182 f183 f184 f185 f186 f187 f188 f189 f190 f191 f192 f193 f194 f195 q nq' hq hq2 hq3
  dsimp only
  have HQ2 := Lib.hid hq2
  have HQ3 := Lib.hid hq3
  have HQ1 := Lib.hid hq
  have f2 := hRF.part (k := j) (m := m + 2 + 1) (by omega)
  rw [Nat.zero_add] at f2
  have hPn : Num wq ug j (m + 2 + 1) P := by
    have h1 := (hR.high (k := j) (by omega)).fewer (k := m + 2 + 1) (by omega) (by rw [HP.out]; exact HS2.out)
    rw [HP.out, Nat.zero_add] at h1
    exact h1
  generalize hwz : wq.drewN nq' = wz
  replace hR : Num wz ug 0 (N + 1) R := by rw [← hwz]; exact hR.drewN
  replace hRF : Free wz ug 0 (N + 1) := by rw [← hwz]; exact hRF
  replace hO : Num wz G 0 D (Q * B^(j+1)) := by rw [← hwz]; exact hO.drewN
  replace hOF : Free wz G 0 D := by rw [← hwz]; exact hOF
  replace hV : Num wz vg 0 (m + 2) Z := by rw [← hwz]; exact hV.drewN
  replace hb : Below w.heap.size w wz := by rw [← hwz]; exact below_drewN hb _
  replace hPn : Num wz ug j (m + 2 + 1) P := by rw [← hwz]; exact hPn.drewN
  replace f2 : Free wz ug j (m + 2 + 1) := by rw [← hwz]; exact f2
  clear hwz d0 d2 v0 v1 hq2 hq3 t1 t2 t3 t4 t5 r7 r8 r9 r10 r6
  go_upto_block 8 with fail
  refine dm_sub_loop _ _ _ _ _ _ _ _ _ _ _ _ _ _ _ _ _ _ _ _ _ _ _ _ _ _ _ _ _ _ _ _ _ _ _ _ _ _ _ _ _ _ _ _ _ _ _ _ _ _ _ _ _ _ _ _ _ _ _ _ _ _ _ _ _ _ _ _ _ _ _ _ _ _ _ _ _ _ _ _ _ _ _ _ _ _ _ _ _ _ _ _ _ _ _ _ _ _ _ _ _ _ _ _ _ _ _ _ _ _ _ _ _ _ _ _ _ _ _ _ _ _ _ _ _ _ _ _ _ _ _ _ _ _ _ _ _ _ _ _ _ _ _ _ _ _ _ _ _ _ _ _ _ _ _ _ _ _ _ _ _ _ _ _ _ _ _ _ _ _ _ _ _ _ _ _ _ _ _ _ _ _ _ _ _ _ _ _ _ _ _ _ _ _ _ _ _ _ _ _ _ _ _ _ _ _ _ _ _ _ _ _ _ _ _ _ _ _ _ _ _ _ _ _ _ _ _ _ _ _ _ _ _ _ _ _ _ _ _ _ _ _ _ _ _ _ _ _ _ _ _ _ _ _ _ _ _ _ _ _ _ _ _ _ _ _ _ _ _ _ _ _ _ _ _ _ _ _ _ _ _ _ _ _ _ _ _ _ _ _ _ _ _ _ _ _ _ _ _ vg ug m N j vc uc P Z q wz _ hjN hc n1 hq hPn f2 hV ?_
  intro f20 f21 f196 f197 f198 f199 f200 f201 f202 f203 f204 f205 f206 f207 f208 f209 f210 f211 f212 f213 f214 f215 f216 f217 f218 f219 f220 f221 f222 f223 f224 f225 f226 f227 f228 f229 f230 f231 f232 bb cc S w8 hbb hcc hS hSE hN8 hw8
  dsimp only
  have hPZ : P / Z < B := EST.out.2.2.2.2.2
  have FIN : Hid (∀ w9, Wr wz w9 ug j (j + (m + 2 + 1)) → Num w9 ug j (m + 2 + 1) (P % Z) → Num (w9.setCell ⟨G, j, none⟩ (.int .u32 (P / Z : Nat))) ug 0 (N + 1) (R % B^j + P % Z * B^j) ∧ Free (w9.setCell ⟨G, j, none⟩ (.int .u32 (P / Z : Nat))) ug 0 (N + 1) ∧ Num (w9.setCell ⟨G, j, none⟩ (.int .u32 (P / Z : Nat))) G 0 D ((Q * B + P / Z) * B^j) ∧ Free (w9.setCell ⟨G, j, none⟩ (.int .u32 (P / Z : Nat))) G 0 D ∧ Num (w9.setCell ⟨G, j, none⟩ (.int .u32 (P / Z : Nat))) vg 0 (m + 2) Z ∧ Below w.heap.size w (w9.setCell ⟨G, j, none⟩ (.int .u32 (P / Z : Nat)))) := Lib.hid (by
    intro w9 hw h9
    have hR0 : R / B^(j + (m + 2 + 1)) = 0 := by
      apply Nat.div_eq_of_lt
      refine Nat.lt_of_lt_of_le hL.out ?_
      rw [show j + (m + 2 + 1) = (m + 2) + (j + 1) by omega, pow_add (m + 2) (j + 1)]
      exact Nat.mul_le_mul_right _ (Nat.le_of_lt HZL.out)
    have h1 := hR.splice hw h9 (by omega)
    rw [hR0, Nat.zero_mul, Nat.add_zero] at h1
    have h3 := (hw.num hO (fun _ => Or.inl (Ne.symm n3))).set0 (k := j) (d := P / Z) (by omega) hPZ
    rw [low_put0] at h3
    exact ⟨h1.other _ (fun _ => n3), (hw.free hRF).set _ _, h3, (hw.free hOF).set _ _, (hw.num hV (fun _ => Or.inl n1)).other _ (fun _ => n2), (hb.trans (hw.below n4)).setCell n5 _⟩)
  have hPt : P / B^(m+2) = x2 := by
    rw [← HX2.out]; unfold dg
    exact (Nat.mod_eq_of_lt (Nat.div_lt_of_lt_mul (by rw [← pow_succ]; exact HS2.out))).symm
  have eP := split P (m + 2)
  rw [hPt] at eP hN8
  have c8 := hN8.cell (i := m + 2) (by omega)
  rw [show dg (S + x2 * B^(m+2)) (m+2) = x2 by have h := low_dg (P := P) hS; rw [hPt] at h; rw [h]; exact HX2.out] at c8
  have f8 := (hw8.free f2).at (i := m + 2) (by omega)
  have cG := (hw8.num hO (fun _ => Or.inl (Ne.symm n3))).cell0 (i := j) (by omega)
  have n3' := Ne.symm n3
  have fG := (hw8.free hOF).at0 (i := j) (by omega)
  have w1 : IntKind.u64.wrap (x2 : Int) = x2 := by rw [IntKind.wrap_u64]; unfold B at *; omega
  have l1 := sub64_lo b2 hcc hbb
  have l2 := sub64_hi b2 hcc hbb
  obtain ⟨d, hd⟩ : ∃ d : Nat, IntKind.u64.wrap (IntKind.u64.wrap ((x2 : Int) - cc) - bb) = (d : Int) := ⟨(IntKind.u64.wrap (IntKind.u64.wrap ((x2 : Int) - cc) - bb)).toNat, by rw [IntKind.wrap_u64]; omega⟩
  rw [hd] at l1 l2
  obtain ⟨lo, hlo⟩ : ∃ lo, subLo x2 cc bb = lo := ⟨_, rfl⟩
  rw [hlo] at l1
  have HLO := Lib.hid hlo
  have loB : lo < B := hlo ▸ subLo_lt _ _ _
  have hnb := sub_neg b2 hcc hbb
  rw [← l2] at hnb
  have i1 : (j : Int) < D := by omega
  have hq5 : (q : Int) % 4294967296 = q := by unfold B at hq; omega
  have HSE := Lib.hid hSE
  have HS' := Lib.hid hS
  have HEP := Lib.hid eP
  have HW8 := Lib.hid hw8
  have HN8 := Lib.hid hN8
  have HOO := Lib.hid hO
  have HOF := Lib.hid hOF
  clear hR hRF hO hOF hb hlo hPt eP hSE hS hw8 hN8 hPn l2
  by_cases hcb : x2 < cc + bb
  · rw [decide_eq_true hcb] at hnb
    have hq0 : 0 < q := by
      apply Nat.pos_of_ne_zero
      intro h
      have h1 := HSE.out
      have h2 := HS'.out
      have h3 : 1 * B^(m+2) ≤ (cc + bb) * B^(m+2) := Nat.mul_le_mul_right _ (by omega)
      rw [h, Nat.zero_mul, Nat.add_zero] at h1
      have h4 : (cc + bb) * B^(m+2) ≤ S := by rw [h1]; exact Nat.le_add_left _ _
      rw [Nat.one_mul] at h3
      exact Nat.lt_irrefl _ (Nat.lt_of_le_of_lt (Nat.le_trans h3 h4) h2)
    have w6 : IntKind.u64.wrap ((q : Int) - 1) = (q : Int) - 1 := by rw [IntKind.wrap_u64]; unfold B at hq; omega
    have w7 : ((q : Int) - 1) % 4294967296 = (q : Int) - 1 := by unfold B at hq; omega
    have HCB := Lib.hid hcb
    have HQP := Lib.hid hq0
    have hP9 : Num (w8.setCell ⟨ug, j + (m + 2), none⟩ (.int .u32 (lo : Nat))) ug j (m + 2 + 1) (S + lo * B^(m+2)) := by
      have h := HN8.out.set (k := m + 2) (d := lo) (by omega) loB
      rw [top_put HS'.out b2] at h
      exact h
    have hF9 := (HW8.out.free f2).set ⟨ug, j + (m + 2), none⟩ (.int .u32 (lo : Nat))
    have hV9 := (HW8.out.num hV (fun _ => Or.inl n1)).other (a := ⟨ug, j + (m + 2), none⟩) (.int .u32 (lo : Nat)) (fun _ => n1)
    have hW9 := HW8.out.set (j + (m + 2)) (.int .u32 (lo : Nat)) (by omega) (by omega)
    clear hcb hq0
    go_upto_block 10 with fail
    generalize (w8.setCell ⟨ug, j + (m + 2), none⟩ (.int .u32 (lo : Nat))) = w9 at *
    refine dm_add_loop _ _ _ _ _ _ _ _ _ _ _ _ _ _ _ _ _ _ _ _ _ _ _ _ _ _ _ _ _ _ _ _ _ _ _ _ _ _ _ _ _ _ _ _ _ _ _ _ _ _ _ _ _ _ _ _ _ _ _ _ _ _ _ _ _ _ _ _ _ _ _ _ _ _ _ _ _ _ _ _ _ _ _ _ _ _ _ _ _ _ _ _ _ _ _ _ _ _ _ _ _ _ _ _ _ _ _ _ _ _ _ _ _ _ _ _ _ _ _ _ _ _ _ _ _ _ _ _ _ _ _ _ _ _ _ _ _ _ _ _ _ _ _ _ _ _ _ _ _ _ _ _ _ _ _ _ _ _ _ _ _ _ _ _ _ _ _ _ _ _ _ _ _ _ _ _ _ _ _ _ _ _ _ _ _ _ _ _ _ _ _ _ _ _ _ _ _ _ _ _ _ _ _ _ _ _ _ _ _ _ _ _ _ _ _ _ _ _ _ _ _ _ _ _ _ _ _ _ _ _ _ _ _ _ _ _ _ _ _ _ _ _ _ _ _ _ _ _ _ _ _ _ _ _ _ _ _ _ _ _ _ _ _ _ _ _ _ _ _ _ _ _ _ _ _ _ _ _ _ _ _ _ _ _ _ _ _ _ _ _ _ _ _ _ _ _ _ _ _ _ _ vg ug m N j vc uc (S + lo * B^(m+2)) Z w9 _ hjN hc n1 hP9 hF9 hV9 ?_
    intro f24 f256 f257 f258 f259 f260 f261 f262 f263 f264 f265 f266 f267 f268 f269 f270 f271 f272 f273 f274 f275 f276 f277 f278 f279 f280 f281 f282 f283 f284 c2 S' w10 hc2 hS2 hSE2 hN10 hw10
    dsimp only
    have hlm : (S + lo * B^(m+2)) % B^(m+2) = S := by rw [Nat.add_mul_mod_self_right]; exact mod_of_lt HS'.out
    have hld : (S + lo * B^(m+2)) / B^(m+2) = lo := by rw [Nat.add_mul_div_right _ _ (Bp _), Nat.div_eq_of_lt HS'.out, Nat.zero_add]
    rw [hlm] at hSE2
    rw [hld] at hN10
    have kp := digit_back2 HEP.out HSE.out HS'.out (Nat.le_of_lt HZL.out) HQ3.out hZ0 HCB.out hSE2 hS2 hc2
    have HKP := Lib.hid kp
    have hlo1 : lo = 4294967295 := by
      have h1 := kp.2.2.1
      rw [← HLO.out]; unfold subLo; omega
    have w8' : ((lo : Int) + c2) % 4294967296 = 0 := by
      have h1 := kp.2.2.2
      rw [hlo1, h1]; rfl
    have w9' : (c2 : Int) % 4294967296 = c2 := by omega
    have c10 := hN10.cell (i := m + 2) (by omega)
    rw [show dg (S' + lo * B^(m+2)) (m+2) = lo by
      have h := dg_add_hi (i := 0) (d := lo) hS2
      rw [Nat.add_zero] at h
      rw [h]; unfold dg; rw [Nat.pow_zero, Nat.div_one, Nat.mod_eq_of_lt loB]] at c10
    have f10 := (hw10.free hF9).at (i := m + 2) (by omega)
    have cG := ((hW9.trans hw10).num HOO.out (fun _ => Or.inl (Ne.symm n3))).cell0 (i := j) (by omega)
    have fG := ((hW9.trans hw10).free HOF.out).at0 (i := j) (by omega)
    have hWW := Lib.hid ((hW9.trans hw10).set (j + (m + 2)) (.int .u32 0) (by omega) (by omega))
    have hNN := Lib.hid (show Num (w10.setCell ⟨ug, j + (m + 2), none⟩ (.int .u32 (0 : Nat))) ug j (m + 2 + 1) (P % Z) by
      have h := hN10.set (k := m + 2) (d := 0) (by omega) (by decide)
      rw [top_put hS2 loB, Nat.zero_mul, Nat.add_zero, kp.2.1] at h
      exact h)
    clear kp hlo1 hSE2 hS2 hc2 hN10 hw10 hlm hld hP9 hF9 hV9 hW9
    go_wp2_with fail
    rw [show (q : Int) - 1 = ((P / Z : Nat) : Int) by have h1 := HKP.out.1; have h2 := HQP.out; omega]
    obtain ⟨z1, z2, z3, z4, z5, z6⟩ := FIN.out _ hWW.out hNN.out
    exact HK.out _ _ _ _ _ _ _ _ _ _ _ _ _ _ _ _ _ _ _ _ _ _ _ _ _ _ _ _ _ _ _ _ _ _ _ _ _ _ _ _ _ _ _ _ _ _ _ _ _ _ _ _ _ _ _ _ _ _ _ _ _ _ _ _ _ _ _ _ _ _ _ _ _ _ _ _ _ _ _ _ _ _ _ _ _ _ _ _ _ _ _ _ _ _ _ _ _ _ _ _ _ _ _ _ _ _ _ _ _ _ _ _ _ _ _ _ _ _ _ _ _ _ _ _ _ _ _ _ _ _ _ _ _ _ _ _ _ _ _ _ _ _ _ _ _ _ _ _ _ _ _ _ _ _ _ _ _ _ _ _ _ _ _ _ _ _ _ _ _ _ _ _ _ _ _ _ _ _ _ _ _ _ _ _ _ _ _ _ _ _ _ _ _ _ z1 z2 z3 z4 z5 HS3 HS4 z6
  · rw [decide_eq_false hcb] at hnb
    have kp := digit_keep2 HEP.out HSE.out (Nat.le_of_lt HZL.out) HQ2.out hZ0 (Bp (m+2)) hcb
    have HKP := Lib.hid kp
    have HLZ : Hid (lo = 0) := Lib.hid (by have := kp.2.2; rw [← HLO.out]; unfold subLo; omega)
    clear kp hcb
    go_wp2_with fail
    rw [HLZ.out, HKP.out.1]
    obtain ⟨z1, z2, z3, z4, z5, z6⟩ := FIN.out (w8.setCell ⟨ug, j + (m + 2), none⟩ (.int .u32 (0 : Nat))) (HW8.out.set _ _ (by omega) (by omega)) (by
      have h := HN8.out.set (k := m + 2) (d := 0) (by omega) (by decide)
      rw [top_put HS'.out b2, Nat.zero_mul, Nat.add_zero, HKP.out.2.1] at h
      exact h)
    exact HK.out _ _ _ _ _ _ _ _ _ _ _ _ _ _ _ _ _ _ _ _ _ _ _ _ _ _ _ _ _ _ _ _ _ _ _ _ _ _ _ _ _ _ _ _ _ _ _ _ _ _ _ _ _ _ _ _ _ _ _ _ _ _ _ _ _ _ _ _ _ _ _ _ _ _ _ _ _ _ _ _ _ _ _ _ _ _ _ _ _ _ _ _ _ _ _ _ _ _ _ _ _ _ _ _ _ _ _ _ _ _ _ _ _ _ _ _ _ _ _ _ _ _ _ _ _ _ _ _ _ _ _ _ _ _ _ _ _ _ _ _ _ _ _ _ _ _ _ _ _ _ _ _ _ _ _ _ _ _ _ _ _ _ _ _ _ _ _ _ _ _ _ _ _ _ _ _ _ _ _ _ _ _ _ _ _ _ _ _ _ _ _ _ _ _ z1 z2 z3 z4 z5 HS3 HS4 z6
end Go.Proofs.Ytdgfmkideghhaaa

/-
  The loop of the verifier's division that adds back (written by wip/gendm.py).
-/
import Derived.Test.YtdgfmkideghhaaaM43
namespace Go.Proofs.Ytdgfmkideghhaaa
open Go.RowKit PB

set_option maxHeartbeats 12800000 in
set_option maxRecDepth 1000000 in
theorem dm_add_loop (a0 a1 a2 a3 a4 a5 a6 a7 a8 a9 a13 a15 a16 a17 a18 a19 a20 a21 a22 a25 a26 a27 a28 a29 a30 a31 a32 a33 a34 a35 a36 a37 a38 a39 a40 a41 a42 a43 a44 a45 a46 a47 a48 a49 a50 a51 a52 a53 a54 a55 a56 a57 a58 a59 a60 a61 a62 a63 a64 a65 a66 a67 a68 a69 a70 a71 a72 a73 a74 a75 a76 a77 a78 a79 a80 a81 a82 a83 a84 a85 a86 a87 a88 a89 a90 a91 a92 a93 a94 a95 a96 a97 a98 a99 a100 a101 a102 a103 a104 a105 a106 a107 a108 a109 a110 a111 a112 a113 a114 a115 a116 a117 a118 a119 a120 a121 a122 a123 a124 a125 a126 a127 a128 a129 a130 a131 a132 a133 a134 a135 a136 a137 a138 a139 a140 a141 a142 a143 a144 a145 a146 a147 a148 a149 a150 a151 a152 a153 a154 a155 a156 a157 a158 a159 a160 a161 a162 a163 a164 a165 a166 a167 a168 a169 a170 a171 a172 a173 a174 a175 a176 a177 a178 a179 a180 a181 a182 a183 a184 a185 a186 a187 a188 a189 a190 a191 a192 a193 a194 a195 a196 a197 a198 a199 a200 a201 a202 a203 a204 a205 a206 a207 a208 a209 a210 a211 a212 a213 a214 a215 a216 a217 a218 a219 a220 a221 a222 a223 a224 a225 a226 a227 a228 a229 a230 a231 a232 a233 a234 a235 a236 a237 a238 a239 a240 a241 a242 a243 a244 a245 a246 a247 a248 a249 a250 a251 a252 a253 a254 a255 a285 a286 a287 a288 a289 a290 a291 a292 a293 a294 a295 a296 a297 a298 a299 a300 a301 a302 a303 a304 a305 a306 u256 u257 u258 u259 u260 u261 u262 u263 u264 u265 u266 u267 u268 u269 u270 u271 u272 u273 u274 u275 u276 u277 u278 u279 u280 u281 u282 u283 u284 : Value) (vg ug m N j vc uc P Z : Nat) (wq : World) (Q0 : Exit → Act → World → Prop)
    (hjN : j + m + 2 ≤ N) (hc : N ≤ 90000) (n1 : vg ≠ ug) (hP : Num wq ug j (m + 2 + 1) P) (hF : Free wq ug j (m + 2 + 1)) (hV : Num wq vg 0 (m + 2) Z)
    (hK : ∀ (e24 e256 e257 e258 e259 e260 e261 e262 e263 e264 e265 e266 e267 e268 e269 e270 e271 e272 e273 e274 e275 e276 e277 e278 e279 e280 e281 e282 e283 e284 : Value) (cc S : Nat) (w' : World), cc < 2 → S < B^(m+2) → S + cc * B^(m+2) = P % B^(m+2) + Z → Num w' ug j (m + 2 + 1) (S + P / B^(m+2) * B^(m+2)) → Wr wq w' ug j (j + (m + 2 + 1)) → Q0 .normal ⟨#[a0, a1, a2, a3, a4, a5, a6, a7, a8, a9, .slice (some ⟨vg, 0, none⟩) (m + 2) vc, .slice (some ⟨ug, 0, none⟩) (N + 1) uc, .int .i64 ((m : Int) + 2), a13, .int .i64 (j : Int), a15, a16, a17, a18, a19, a20, a21, a22, .int .u64 (cc : Int), e24, a25, a26, a27, a28, a29, a30, a31, a32, a33, a34, a35, a36, a37, a38, a39, a40, a41, a42, a43, a44, a45, a46, a47, a48, a49, a50, a51, a52, a53, a54, a55, a56, a57, a58, a59, a60, a61, a62, a63, a64, a65, a66, a67, a68, a69, a70, a71, a72, a73, a74, a75, a76, a77, a78, a79, a80, a81, a82, a83, a84, a85, a86, a87, a88, a89, a90, a91, a92, a93, a94, a95, a96, a97, a98, a99, a100, a101, a102, a103, a104, a105, a106, a107, a108, a109, a110, a111, a112, a113, a114, a115, a116, a117, a118, a119, a120, a121, a122, a123, a124, a125, a126, a127, a128, a129, a130, a131, a132, a133, a134, a135, a136, a137, a138, a139, a140, a141, a142, a143, a144, a145, a146, a147, a148, a149, a150, a151, a152, a153, a154, a155, a156, a157, a158, a159, a160, a161, a162, a163, a164, a165, a166, a167, a168, a169, a170, a171, a172, a173, a174, a175, a176, a177, a178, a179, a180, a181, a182, a183, a184, a185, a186, a187, a188, a189, a190, a191, a192, a193, a194, a195, a196, a197, a198, a199, a200, a201, a202, a203, a204, a205, a206, a207, a208, a209, a210, a211, a212, a213, a214, a215, a216, a217, a218, a219, a220, a221, a222, a223, a224, a225, a226, a227, a228, a229, a230, a231, a232, a233, a234, a235, a236, a237, a238, a239, a240, a241, a242, a243, a244, a245, a246, a247, a248, a249, a250, a251, a252, a253, a254, a255, e256, e257, e258, e259, e260, e261, e262, e263, e264, e265, e266, e267, e268, e269, e270, e271, e272, e273, e274, e275, e276, e277, e278, e279, e280, e281, e282, e283, e284, a285, a286, a287, a288, a289, a290, a291, a292, a293, a294, a295, a296, a297, a298, a299, a300, a301, a302, a303, a304, a305, a306], []⟩ w') :
    Code.wp Try.prog (dmBlock 10) Q0 ⟨#[a0, a1, a2, a3, a4, a5, a6, a7, a8, a9, .slice (some ⟨vg, 0, none⟩) (m + 2) vc, .slice (some ⟨ug, 0, none⟩) (N + 1) uc, .int .i64 ((m : Int) + 2), a13, .int .i64 (j : Int), a15, a16, a17, a18, a19, a20, a21, a22, .int .u64 0, .int .i64 0, a25, a26, a27, a28, a29, a30, a31, a32, a33, a34, a35, a36, a37, a38, a39, a40, a41, a42, a43, a44, a45, a46, a47, a48, a49, a50, a51, a52, a53, a54, a55, a56, a57, a58, a59, a60, a61, a62, a63, a64, a65, a66, a67, a68, a69, a70, a71, a72, a73, a74, a75, a76, a77, a78, a79, a80, a81, a82, a83, a84, a85, a86, a87, a88, a89, a90, a91, a92, a93, a94, a95, a96, a97, a98, a99, a100, a101, a102, a103, a104, a105, a106, a107, a108, a109, a110, a111, a112, a113, a114, a115, a116, a117, a118, a119, a120, a121, a122, a123, a124, a125, a126, a127, a128, a129, a130, a131, a132, a133, a134, a135, a136, a137, a138, a139, a140, a141, a142, a143, a144, a145, a146, a147, a148, a149, a150, a151, a152, a153, a154, a155, a156, a157, a158, a159, a160, a161, a162, a163, a164, a165, a166, a167, a168, a169, a170, a171, a172, a173, a174, a175, a176, a177, a178, a179, a180, a181, a182, a183, a184, a185, a186, a187, a188, a189, a190, a191, a192, a193, a194, a195, a196, a197, a198, a199, a200, a201, a202, a203, a204, a205, a206, a207, a208, a209, a210, a211, a212, a213, a214, a215, a216, a217, a218, a219, a220, a221, a222, a223, a224, a225, a226, a227, a228, a229, a230, a231, a232, a233, a234, a235, a236, a237, a238, a239, a240, a241, a242, a243, a244, a245, a246, a247, a248, a249, a250, a251, a252, a253, a254, a255, u256, u257, u258, u259, u260, u261, u262, u263, u264, u265, u266, u267, u268, u269, u270, u271, u272, u273, u274, u275, u276, u277, u278, u279, u280, u281, u282, u283, u284, a285, a286, a287, a288, a289, a290, a291, a292, a293, a294, a295, a296, a297, a298, a299, a300, a301, a302, a303, a304, a305, a306], []⟩ wq := by
  have HK := Lib.hid hK
  clear hK
  conv => arg 2; whnf
  have r1 : (j : Int) ≤ 90000 := by omega
  have r2 : (0 : Int) ≤ j := by omega
  have r4 : (m : Int) ≤ 90000 := by omega
  have r17 : (N : Int) ≤ 90000 := by omega
  go_wp2_with fail
  go_loopw [23, 24] (fun cv iv wr => ∃ k cc S : Nat, k ≤ m + 2 ∧ cc < 2 ∧ S < B^k ∧ cv = .int .u64 cc ∧ iv = .int .i64 k ∧ Hid (S + cc * B^k = P % B^k + Z % B^k) ∧ Num wr ug j (m + 2 + 1) (S + P / B^k * B^k) ∧ Wr wq wr ug j (j + (m + 2 + 1))) (fun _ i _ => m + 2 - (intOf i).toNat)
  case atStart => exact ⟨0, 0, 0, by omega, by omega, Bp _, rfl, rfl, Lib.hid (by simp [Nat.mod_one]), hP.val (by simp), Wr.refl _ _ _ _⟩
  case round =>
    obtain ⟨k, cc, S, hk, hcc, hSk, rfl, rfl, hE, hN, hw⟩ := hrel
    by_cases hlt : k < m + 2
    · have c1 := hN.cell (i := k) (by omega)
      rw [low_dg hSk, Nat.add_comm] at c1
      have c2 := (hw.num hV (fun _ => Or.inl n1)).cell0 (i := k) hlt
      have f1 := (hw.free hF).at (i := k) (by omega)
      rw [Nat.add_comm] at f1
      obtain ⟨x, hx⟩ : ∃ x, dg P k = x := ⟨_, rfl⟩
      obtain ⟨y, hy⟩ : ∃ y, dg Z k = y := ⟨_, rfl⟩
      have hxB : x < B := hx ▸ dg_lt P k
      have hyB : y < B := hy ▸ dg_lt Z k
      rw [hx] at c1
      rw [hy] at c2
      have HX := Lib.hid hx
      have HY := Lib.hid hy
      have HS := Lib.hid hSk
      have w1 : IntKind.u64.wrap (x : Int) = x := by rw [IntKind.wrap_u64]; unfold B at *; omega
      have w2 : IntKind.u64.wrap (y : Int) = y := by rw [IntKind.wrap_u64]; unfold B at *; omega
      have w3 : IntKind.u64.wrap ((x : Int) + y) = (x : Int) + y := by rw [IntKind.wrap_u64]; unfold B at *; omega
      have w4 : IntKind.u64.wrap ((cc : Int) + ((x : Int) + y)) = (cc : Int) + ((x : Int) + y) := by rw [IntKind.wrap_u64]; unfold B at *; omega
      have i1 : (k : Int) < m + 2 := by omega
      have i2 : (0 : Int) ≤ k := by omega
      have i3 : (k : Int) + j < N + 1 := by omega
      have i4 : (0 : Int) ≤ (k : Int) + j := by omega
      clear hx hy hSk
      go_wp2_with fail
      go_quiet (fail)
      go_wp2_with fail
      go_roundw
      case rel =>
        have e1 : ((cc : Int) + ((x : Int) + y)) % 4294967296 = (addLo x y cc : Nat) := by unfold addLo; omega
        have e2 : ((cc : Int) + ((x : Int) + y)) / 4294967296 = (addHi x y cc : Nat) := by unfold addHi; omega
        rw [e1, e2]
        refine ⟨k + 1, addHi x y cc, S + addLo x y cc * B^k, by omega, addHi_lt hxB hyB hcc, add_lt_pow HS.out (addLo_lt _ _ _), rfl, by go_num, Lib.hid ?_, ?_, ?_⟩
        · rw [mod_succ P, mod_succ Z, HX.out, HY.out, pow_succ]
          exact add_step hE.out (add_lo_hi _ _ _)
        · rw [← low_put HS.out, Nat.add_comm k j]
          exact hN.drewN.set (by omega) (addLo_lt _ _ _)
        · rw [Nat.add_comm k j]
          exact (hw.drewN _).set _ _ (by omega) (by omega)
      case measure => simp [intOf]; omega
    · obtain rfl : k = m + 2 := by omega
      have i1 : ¬ ((m + 2 : Nat) : Int) < (m : Int) + 2 := by omega
      go_wp2_with fail
      have h1 := hE.out
      rw [mod_of_lt hV.lt] at h1
      exact HK.out _ _ _ _ _ _ _ _ _ _ _ _ _ _ _ _ _ _ _ _ _ _ _ _ _ _ _ _ _ _ cc S wr hcc hSk h1 hN hw
end Go.Proofs.Ytdgfmkideghhaaa

/-
  A round of the verifier's long division (written by wip/gendm.py).
  The loop of the verifier's division that subtracts (written by wip/gendm.py).
-/
import Derived.BigQuiet
import Derived.Deep.CutBlock
import Derived.Deep.DeepCutAuto
import Derived.Test.YtdgfmkideghhaaaM42
namespace PB
open Go Go.RowKit
/-- The bodies of the loops of a code, the outermost ones, in their order. -/
def loopsOf : Code → List Code
  | .loop c => [c]
  | .seq a b => loopsOf a ++ loopsOf b
  | .block _ c => loopsOf c
  | .scope c => loopsOf c
  | .cond _ a b => loopsOf a ++ loopsOf b
  | _ => []
theorem dm_or {r x : Nat} (hr : r < B) (hx : x < B) : bits BinOp.or IntKind.u64 ((r : Int) * 4294967296) (IntKind.u64.wrap (x : Int)) = ((r * B + x : Nat) : Int) := by
  have e1 : IntKind.u64.wrap (x : Int) = x := by rw [IntKind.wrap_u64]; unfold B at *; omega
  have e2 : (r : Int) * 4294967296 = ((r * B : Nat) : Int) := by unfold B; omega
  rw [e1, e2, u64_or_nat _ _ (by unfold B at *; omega) (by unfold B at *; omega), show r * B ||| x = r * B + x from nat_join 32 (r * B) x (Nat.mul_mod_left _ _) hx]
theorem dm_mul {q y : Nat} (hq : q < B) (hy : y < B) : IntKind.u64.wrap ((q : Int) * IntKind.u64.wrap (y : Int)) = ((q * y : Nat) : Int) := by
  have h := mul_le hq hy
  have e2 : IntKind.u64.wrap (y : Int) = y := by rw [IntKind.wrap_u64]; unfold B at *; omega
  rw [e2, IntKind.wrap_u64, ← Int.natCast_mul]
  generalize q * y = p at *
  unfold B at *
  omega
theorem dm_cmp {r x q y : Nat} (hr : r < B) (hx : x < B) (hq : q < B) (hy : y < B) :
    decide (bits BinOp.or IntKind.u64 ((r : Int) * 4294967296) (IntKind.u64.wrap (x : Int)) < IntKind.u64.wrap ((q : Int) * IntKind.u64.wrap (y : Int))) = decide (r * B + x < q * y) := by
  rw [dm_or hr hx, dm_mul hq hy]
  apply decide_eq_decide.2
  exact Int.ofNat_lt
theorem top_put {S h d n : Nat} (hS : S < B^n) (hh : h < B) : put (S + h * B^n) n d = S + d * B^n := by
  unfold put
  rw [Nat.add_mul_mod_self_right, mod_of_lt hS, Nat.div_eq_of_lt (add_lt_pow hS hh), Nat.zero_mul, Nat.add_zero]
/-- The block of this number. -/
def findBlock (n : Nat) : Code → Option Code
  | .block k c => if k == n then some (.block k c) else findBlock n c
  | .loop c => findBlock n c
  | .scope c => findBlock n c
  | .seq a b => match findBlock n a with
    | some c => some c
    | none => findBlock n b
  | .cond _ a b => match findBlock n a with
    | some c => some c
    | none => findBlock n b
  | _ => none
end PB
namespace Go.Proofs.Ytdgfmkideghhaaa
open Go.RowKit PB
noncomputable def dmBody : Code := ((Try.f129.body.map loopsOf).getD []).getD 2 .skip
noncomputable def dmBlock (n : Nat) : Code := (findBlock n dmBody).getD .skip

set_option maxHeartbeats 12800000 in
set_option maxRecDepth 1000000 in
theorem dm_est_loop (a0 a1 a2 a3 a4 a5 a6 a7 a8 a9 a13 a15 a18 a19 a20 a21 a22 a23 a24 a25 a26 a27 a28 a29 a30 a31 a32 a33 a34 a35 a36 a37 a38 a39 a40 a41 a42 a43 a44 a45 a46 a47 a48 a49 a50 a51 a52 a53 a54 a55 a56 a57 a58 a59 a60 a61 a62 a63 a64 a65 a66 a67 a68 a69 a70 a71 a72 a73 a74 a75 a76 a77 a78 a79 a80 a81 a82 a83 a84 a85 a86 a87 a88 a89 a90 a91 a92 a93 a94 a95 a96 a97 a98 a99 a100 a101 a102 a103 a104 a105 a106 a107 a108 a109 a110 a111 a112 a113 a114 a115 a116 a117 a118 a119 a120 a121 a122 a123 a124 a125 a126 a127 a128 a129 a130 a131 a132 a133 a134 a135 a136 a137 a138 a139 a140 a141 a142 a143 a144 a145 a146 a147 a148 a149 a150 a151 a152 a153 a154 a155 a196 a197 a198 a199 a200 a201 a202 a203 a204 a205 a206 a207 a208 a209 a210 a211 a212 a213 a214 a215 a216 a217 a218 a219 a220 a221 a222 a223 a224 a225 a226 a227 a228 a229 a230 a231 a232 a233 a234 a235 a236 a237 a238 a239 a240 a241 a242 a243 a244 a245 a246 a247 a248 a249 a250 a251 a252 a253 a254 a255 a256 a257 a258 a259 a260 a261 a262 a263 a264 a265 a266 a267 a268 a269 a270 a271 a272 a273 a274 a275 a276 a277 a278 a279 a280 a281 a282 a283 a284 a285 a286 a287 a288 a289 a290 a291 a292 a293 a294 a295 a296 a297 a298 a299 a300 a301 a302 a303 a304 a305 a306 u156 u157 u158 u159 u160 u161 u162 u163 u164 u165 u166 u167 u168 u169 u170 u171 u172 u173 u174 u175 u176 u177 u178 u179 u180 u181 u182 u183 u184 u185 u186 u187 u188 u189 u190 u191 u192 u193 u194 u195 : Value) (vg ug m N j vc uc P Z T x0 y0 y1 : Nat) (wq : World) (Q0 : Exit → Act → World → Prop)
    (hjN : j + m + 2 ≤ N) (hc : N ≤ 90000) (d0 : wq.cell? ⟨ug, j + m, none⟩ = some (.int .u32 x0)) (v0 : wq.cell? ⟨vg, m, none⟩ = some (.int .u32 y0)) (v1 : wq.cell? ⟨vg, m + 1, none⟩ = some (.int .u32 y1)) (b0 : x0 < B) (b3 : y0 < B) (b4 : y1 < B) (EST : Hid (P / Z ≤ (T * B + x0) / (y1 * B + y0) ∧ (T * B + x0) / (y1 * B + y0) ≤ P / Z + 1 ∧ T < y1 * B + B ∧ 2147483648 ≤ y1 ∧ y1 < B ∧ P / Z < B))
    (hK : ∀ (e17 e156 e157 e158 e159 e160 e161 e162 e163 e164 e165 e166 e167 e168 e169 e170 e171 e172 e173 e174 e175 e176 e177 e178 e179 e180 e181 e182 e183 e184 e185 e186 e187 e188 e189 e190 e191 e192 e193 e194 e195 : Value) (q' nq' : Nat), q' < B → P / Z ≤ q' → q' ≤ P / Z + 1 → Q0 .normal ⟨#[a0, a1, a2, a3, a4, a5, a6, a7, a8, a9, .slice (some ⟨vg, 0, none⟩) (m + 2) vc, .slice (some ⟨ug, 0, none⟩) (N + 1) uc, .int .i64 ((m : Int) + 2), a13, .int .i64 (j : Int), a15, .int .u64 (q' : Int), e17, a18, a19, a20, a21, a22, a23, a24, a25, a26, a27, a28, a29, a30, a31, a32, a33, a34, a35, a36, a37, a38, a39, a40, a41, a42, a43, a44, a45, a46, a47, a48, a49, a50, a51, a52, a53, a54, a55, a56, a57, a58, a59, a60, a61, a62, a63, a64, a65, a66, a67, a68, a69, a70, a71, a72, a73, a74, a75, a76, a77, a78, a79, a80, a81, a82, a83, a84, a85, a86, a87, a88, a89, a90, a91, a92, a93, a94, a95, a96, a97, a98, a99, a100, a101, a102, a103, a104, a105, a106, a107, a108, a109, a110, a111, a112, a113, a114, a115, a116, a117, a118, a119, a120, a121, a122, a123, a124, a125, a126, a127, a128, a129, a130, a131, a132, a133, a134, a135, a136, a137, a138, a139, a140, a141, a142, a143, a144, a145, a146, a147, a148, a149, a150, a151, a152, a153, a154, a155, e156, e157, e158, e159, e160, e161, e162, e163, e164, e165, e166, e167, e168, e169, e170, e171, e172, e173, e174, e175, e176, e177, e178, e179, e180, e181, e182, e183, e184, e185, e186, e187, e188, e189, e190, e191, e192, e193, e194, e195, a196, a197, a198, a199, a200, a201, a202, a203, a204, a205, a206, a207, a208, a209, a210, a211, a212, a213, a214, a215, a216, a217, a218, a219, a220, a221, a222, a223, a224, a225, a226, a227, a228, a229, a230, a231, a232, a233, a234, a235, a236, a237, a238, a239, a240, a241, a242, a243, a244, a245, a246, a247, a248, a249, a250, a251, a252, a253, a254, a255, a256, a257, a258, a259, a260, a261, a262, a263, a264, a265, a266, a267, a268, a269, a270, a271, a272, a273, a274, a275, a276, a277, a278, a279, a280, a281, a282, a283, a284, a285, a286, a287, a288, a289, a290, a291, a292, a293, a294, a295, a296, a297, a298, a299, a300, a301, a302, a303, a304, a305, a306], []⟩ (wq.drewN nq')) :
    Code.wp Try.prog (dmBlock 6) Q0 ⟨#[a0, a1, a2, a3, a4, a5, a6, a7, a8, a9, .slice (some ⟨vg, 0, none⟩) (m + 2) vc, .slice (some ⟨ug, 0, none⟩) (N + 1) uc, .int .i64 ((m : Int) + 2), a13, .int .i64 (j : Int), a15, .int .u64 ((T : Int) / y1), .int .u64 ((T : Int) % y1), a18, a19, a20, a21, a22, a23, a24, a25, a26, a27, a28, a29, a30, a31, a32, a33, a34, a35, a36, a37, a38, a39, a40, a41, a42, a43, a44, a45, a46, a47, a48, a49, a50, a51, a52, a53, a54, a55, a56, a57, a58, a59, a60, a61, a62, a63, a64, a65, a66, a67, a68, a69, a70, a71, a72, a73, a74, a75, a76, a77, a78, a79, a80, a81, a82, a83, a84, a85, a86, a87, a88, a89, a90, a91, a92, a93, a94, a95, a96, a97, a98, a99, a100, a101, a102, a103, a104, a105, a106, a107, a108, a109, a110, a111, a112, a113, a114, a115, a116, a117, a118, a119, a120, a121, a122, a123, a124, a125, a126, a127, a128, a129, a130, a131, a132, a133, a134, a135, a136, a137, a138, a139, a140, a141, a142, a143, a144, a145, a146, a147, a148, a149, a150, a151, a152, a153, a154, a155, u156, u157, u158, u159, u160, u161, u162, u163, u164, u165, u166, u167, u168, u169, u170, u171, u172, u173, u174, u175, u176, u177, u178, u179, u180, u181, u182, u183, u184, u185, u186, u187, u188, u189, u190, u191, u192, u193, u194, u195, a196, a197, a198, a199, a200, a201, a202, a203, a204, a205, a206, a207, a208, a209, a210, a211, a212, a213, a214, a215, a216, a217, a218, a219, a220, a221, a222, a223, a224, a225, a226, a227, a228, a229, a230, a231, a232, a233, a234, a235, a236, a237, a238, a239, a240, a241, a242, a243, a244, a245, a246, a247, a248, a249, a250, a251, a252, a253, a254, a255, a256, a257, a258, a259, a260, a261, a262, a263, a264, a265, a266, a267, a268, a269, a270, a271, a272, a273, a274, a275, a276, a277, a278, a279, a280, a281, a282, a283, a284, a285, a286, a287, a288, a289, a290, a291, a292, a293, a294, a295, a296, a297, a298, a299, a300, a301, a302, a303, a304, a305, a306], []⟩ wq := by
  have HK := Lib.hid hK
  clear hK
  conv => arg 2; whnf
  have hy1p : 0 < y1 := by have := EST.out.2.2.2.1; omega
  have hV0 := Lib.hid (show 0 < y1 * B + y0 from Nat.lt_of_lt_of_le (Nat.mul_pos hy1p B_pos) (Nat.le_add_right _ _))
  have hb3 := Lib.hid b3
  have r1 : (j : Int) ≤ 90000 := by omega
  have r2 : (0 : Int) ≤ j := by omega
  have r3 : (0 : Int) ≤ m := by omega
  have r4 : (m : Int) ≤ 90000 := by omega
  have r5 : (j : Int) + (m + 2) < N + 1 := by omega
  have r17 : (N : Int) ≤ 90000 := by omega
  have r7 : (m : Int) + 2 - 1 < m + 2 := by omega
  have r9 : (0 : Int) ≤ (m : Int) + 2 - 1 := by omega
  have r11 : (j : Int) + (m + 2) - 2 < N + 1 := by omega
  have r12 : (0 : Int) ≤ (j : Int) + (m + 2) - 2 := by omega
  have r13 : (m : Int) < m + 2 := by omega
  have r16 : IntKind.i64.wrap (m : Int) = m := by
    have h := wrap_i64_ediv (m : Int) 1 (by omega) (by omega) (by omega)
    rwa [Int.ediv_one] at h
  have r18 : IntKind.i64.wrap ((j : Int) + (m + 2)) = (j : Int) + (m + 2) := by
    have h := wrap_i64_ediv ((j : Int) + (m + 2)) 1 (by omega) (by omega) (by omega)
    rwa [Int.ediv_one] at h
  have r19 : IntKind.i64.wrap ((j : Int) + (m + 2) - 2) = (j : Int) + m := by
    have h := wrap_i64_ediv ((j : Int) + (m + 2) - 2) 1 (by omega) (by omega) (by omega)
    rw [Int.ediv_one] at h
    omega
  have r14 : (j : Int) + m < N + 1 := by omega
  have r15 : (0 : Int) ≤ (j : Int) + m := by omega
  go_wp2_with fail
  go_loopw [16, 17] (fun q r wr => ∃ q' r' nq' : Nat, q = .int .u64 q' ∧ r = .int .u64 r' ∧ r' < B ∧ q' ≤ B + 1 ∧ Hid (q' * y1 + r' = T) ∧ Hid (P / Z ≤ q') ∧ wr = wq.drewN nq') (fun q _ _ => (intOf q).toNat)
  case atStart =>
    refine ⟨T / y1, T % y1, 0, congrArg _ (Int.natCast_ediv _ _).symm, congrArg _ (Int.natCast_emod _ _).symm, Nat.lt_trans (Nat.mod_lt _ hy1p) b4, est_q EST.out.2.2.1 EST.out.2.2.2.1, Lib.hid (Nat.div_add_mod' _ _), Lib.hid (Nat.le_trans EST.out.1 (est_start b0 hy1p)), rfl⟩
  case round =>
    obtain ⟨q', r', nq', rfl, rfl, hr, hq, hE1, hE2, rfl⟩ := hrel
    have g1 : (r' : Int) < 4294967296 := by unfold B at hr; omega
    have g2 : (0 : Int) ≤ r' := by omega
    by_cases hqB : B ≤ q'
    · have g3 : (4294967296 : Int) ≤ q' := by unfold B at hqB; omega
      have g4 : (q' : Int) ≤ 4294967297 := by unfold B at hq; omega
      have HE3 : Hid (P / Z ≤ q' - 1) := Lib.hid (by have := EST.out.2.2.2.2.2; omega)
      have HE4 : Hid ((q' - 1) * y1 + (r' + y1) = T) := Lib.hid (by
        have h1 := hE1.out
        obtain ⟨k, rfl⟩ : ∃ k, q' = k + 1 := ⟨q' - 1, by unfold B at hqB; omega⟩
        rw [Nat.add_mul, Nat.one_mul] at h1
        rw [Nat.add_sub_cancel]; omega)
      have HR := Lib.hid hr
      have HQ := Lib.hid hq
      clear hE1 hE2 hqB hr hq d0 v0 b0 b3 r11 r12 r13 r14 r15 r16 r18 r19
      have w1 : IntKind.u64.wrap (y1 : Int) = y1 := by rw [IntKind.wrap_u64]; unfold B at b4; omega
      have w2 : IntKind.u64.wrap ((r' : Int) + y1) = (r' : Int) + y1 := by rw [IntKind.wrap_u64]; have := HR.out; unfold B at *; omega
      have w3 : IntKind.u64.wrap ((q' : Int) - 1) = (q' : Int) - 1 := by rw [IntKind.wrap_u64]; omega
      by_cases hr2 : B ≤ r' + y1
      · have w4 : (4294967296 : Int) ≤ (r' : Int) + y1 := by unfold B at hr2; omega
        have hfin := est_over HE4.out EST.out.2.2.1 hr2 hy1p
        have HL := Lib.hid (show q' - 1 ≤ P / Z + 1 from Nat.le_trans (est_low HE4.out (est_brk hr2 hfin hb3.out) hV0.out) EST.out.2.1)
        have HF := Lib.hid hfin
        clear hr2 hfin
        go_wp2_with fail
        go_quiet (fail)
        go_wp2_with fail
        rw [show (q' : Int) - 1 = ((q' - 1 : Nat) : Int) by omega]
        exact HK.out _ _ _ _ _ _ _ _ _ _ _ _ _ _ _ _ _ _ _ _ _ _ _ _ _ _ _ _ _ _ _ _ _ _ _ _ _ _ _ _ _ (q' - 1) (nq' + nq) HF.out HE3.out HL.out
      · have w4 : decide ((4294967296 : Int) ≤ (r' : Int) + y1) = false := decide_eq_false (by unfold B at hr2; omega)
        have HR2 := Lib.hid (show r' + y1 < B by omega)
        clear hr2
        go_wp2_with fail
        go_quiet (fail)
        go_wp2_with fail
        go_roundw
        case rel =>
          exact ⟨q' - 1, r' + y1, nq' + nq, congrArg (Value.int IntKind.u64) (by omega), congrArg (Value.int IntKind.u64) (by omega), HR2.out, by have := HQ.out; omega, HE4, HE3, rfl⟩
        case measure => simp [intOf]; omega
    · have g3 : ¬ (4294967296 : Int) ≤ q' := by unfold B at hqB; omega
      have g4 : (q' : Int) < 4294967296 := by unfold B at hqB; omega
      have g5 : decide ((4294967296 : Int) ≤ q') = false := decide_eq_false g3
      have HR := Lib.hid hr
      have HQ := Lib.hid (show q' < B by omega)
      by_cases hc : r' * B + x0 < q' * y0
      · have T1 := Lib.hid ((dm_cmp hr b0 HQ.out b3).trans (decide_eq_true hc))
        have hpos : 0 < q' := by
          apply Nat.pos_of_ne_zero
          rintro rfl
          omega
        have HP := Lib.hid hpos
        have HM := Lib.hid (Nat.lt_of_le_of_lt EST.out.1 (est_more hE1.out hc hV0.out))
        have HE4 : Hid ((q' - 1) * y1 + (r' + y1) = T) := Lib.hid (by
          have h1 := hE1.out
          obtain ⟨k, rfl⟩ : ∃ k, q' = k + 1 := ⟨q' - 1, by omega⟩
          rw [Nat.add_mul, Nat.one_mul] at h1
          rw [Nat.add_sub_cancel]; omega)
        have w1 : IntKind.u64.wrap (y1 : Int) = y1 := by rw [IntKind.wrap_u64]; unfold B at b4; omega
        have w2 : IntKind.u64.wrap ((r' : Int) + y1) = (r' : Int) + y1 := by rw [IntKind.wrap_u64]; unfold B at *; omega
        have w3 : IntKind.u64.wrap ((q' : Int) - 1) = (q' : Int) - 1 := by rw [IntKind.wrap_u64]; omega
        clear hc hr hq hqB hE1 hE2 hpos
        by_cases hr2 : B ≤ r' + y1
        · have w4 : (4294967296 : Int) ≤ (r' : Int) + y1 := by unfold B at hr2; omega
          have hfin : q' - 1 < B := by have := HQ.out; omega
          have HL := Lib.hid (show q' - 1 ≤ P / Z + 1 from Nat.le_trans (est_low HE4.out (est_brk hr2 hfin b3) hV0.out) EST.out.2.1)
          have HF := Lib.hid hfin
          clear hr2 hfin
          go_wp2_with fail
          go_quiet (fail)
          rw [T1.out]
          go_wp2_with fail
          rw [show (q' : Int) - 1 = ((q' - 1 : Nat) : Int) by have := HP.out; omega]
          exact HK.out _ _ _ _ _ _ _ _ _ _ _ _ _ _ _ _ _ _ _ _ _ _ _ _ _ _ _ _ _ _ _ _ _ _ _ _ _ _ _ _ _ (q' - 1) (nq' + nq) HF.out (show P / Z ≤ q' - 1 by have := HM.out; omega) HL.out
        · have w4 : decide ((4294967296 : Int) ≤ (r' : Int) + y1) = false := decide_eq_false (by unfold B at hr2; omega)
          have HR2 := Lib.hid (show r' + y1 < B by omega)
          clear hr2
          go_wp2_with fail
          go_quiet (fail)
          rw [T1.out]
          go_wp2_with fail
          go_roundw
          case rel =>
            exact ⟨q' - 1, r' + y1, nq' + nq, congrArg (Value.int IntKind.u64) (by have := HP.out; omega), congrArg (Value.int IntKind.u64) (by omega), HR2.out, by have := HQ.out; omega, HE4, Lib.hid (show P / Z ≤ q' - 1 by have := HM.out; omega), rfl⟩
          case measure => simp [intOf]; have := HP.out; omega
      · have T1 := Lib.hid ((dm_cmp hr b0 HQ.out b3).trans (decide_eq_false hc))
        have HL := Lib.hid (Nat.le_trans (est_low hE1.out hc hV0.out) EST.out.2.1)
        clear hc hr hq hqB hE1
        go_wp2_with fail
        go_quiet (fail)
        rw [T1.out]
        go_wp2_with fail
        rw [World.drewN_drewN]
        exact HK.out _ _ _ _ _ _ _ _ _ _ _ _ _ _ _ _ _ _ _ _ _ _ _ _ _ _ _ _ _ _ _ _ _ _ _ _ _ _ _ _ _ q' (nq' + nq) HQ.out hE2.out HL.out
end Go.Proofs.Ytdgfmkideghhaaa

namespace Go.Proofs.Ytdgfmkideghhaaa
open Go.RowKit PB

set_option maxHeartbeats 12800000 in
set_option maxRecDepth 1000000 in
theorem dm_sub_loop (a0 a1 a2 a3 a4 a5 a6 a7 a8 a9 a13 a15 a17 a22 a23 a24 a25 a26 a27 a28 a29 a30 a31 a32 a33 a34 a35 a36 a37 a38 a39 a40 a41 a42 a43 a44 a45 a46 a47 a48 a49 a50 a51 a52 a53 a54 a55 a56 a57 a58 a59 a60 a61 a62 a63 a64 a65 a66 a67 a68 a69 a70 a71 a72 a73 a74 a75 a76 a77 a78 a79 a80 a81 a82 a83 a84 a85 a86 a87 a88 a89 a90 a91 a92 a93 a94 a95 a96 a97 a98 a99 a100 a101 a102 a103 a104 a105 a106 a107 a108 a109 a110 a111 a112 a113 a114 a115 a116 a117 a118 a119 a120 a121 a122 a123 a124 a125 a126 a127 a128 a129 a130 a131 a132 a133 a134 a135 a136 a137 a138 a139 a140 a141 a142 a143 a144 a145 a146 a147 a148 a149 a150 a151 a152 a153 a154 a155 a156 a157 a158 a159 a160 a161 a162 a163 a164 a165 a166 a167 a168 a169 a170 a171 a172 a173 a174 a175 a176 a177 a178 a179 a180 a181 a182 a183 a184 a185 a186 a187 a188 a189 a190 a191 a192 a193 a194 a195 a233 a234 a235 a236 a237 a238 a239 a240 a241 a242 a243 a244 a245 a246 a247 a248 a249 a250 a251 a252 a253 a254 a255 a256 a257 a258 a259 a260 a261 a262 a263 a264 a265 a266 a267 a268 a269 a270 a271 a272 a273 a274 a275 a276 a277 a278 a279 a280 a281 a282 a283 a284 a285 a286 a287 a288 a289 a290 a291 a292 a293 a294 a295 a296 a297 a298 a299 a300 a301 a302 a303 a304 a305 a306 u21 u196 u197 u198 u199 u200 u201 u202 u203 u204 u205 u206 u207 u208 u209 u210 u211 u212 u213 u214 u215 u216 u217 u218 u219 u220 u221 u222 u223 u224 u225 u226 u227 u228 u229 u230 u231 u232 : Value) (vg ug m N j vc uc P Z q : Nat) (wq : World) (Q0 : Exit → Act → World → Prop)
    (hjN : j + m + 2 ≤ N) (hc : N ≤ 90000) (n1 : vg ≠ ug) (hq : q < B) (hP : Num wq ug j (m + 2 + 1) P) (hF : Free wq ug j (m + 2 + 1)) (hV : Num wq vg 0 (m + 2) Z)
    (hK : ∀ (e20 e21 e196 e197 e198 e199 e200 e201 e202 e203 e204 e205 e206 e207 e208 e209 e210 e211 e212 e213 e214 e215 e216 e217 e218 e219 e220 e221 e222 e223 e224 e225 e226 e227 e228 e229 e230 e231 e232 : Value) (bb cc S : Nat) (w' : World), bb < 2 → cc < B → S < B^(m+2) → S + q * Z = P % B^(m+2) + (cc + bb) * B^(m+2) → Num w' ug j (m + 2 + 1) (S + P / B^(m+2) * B^(m+2)) → Wr wq w' ug j (j + (m + 2 + 1)) → Q0 .normal ⟨#[a0, a1, a2, a3, a4, a5, a6, a7, a8, a9, .slice (some ⟨vg, 0, none⟩) (m + 2) vc, .slice (some ⟨ug, 0, none⟩) (N + 1) uc, .int .i64 ((m : Int) + 2), a13, .int .i64 (j : Int), a15, .int .u64 (q : Int), a17, .int .u64 (bb : Int), .int .u64 (cc : Int), e20, e21, a22, a23, a24, a25, a26, a27, a28, a29, a30, a31, a32, a33, a34, a35, a36, a37, a38, a39, a40, a41, a42, a43, a44, a45, a46, a47, a48, a49, a50, a51, a52, a53, a54, a55, a56, a57, a58, a59, a60, a61, a62, a63, a64, a65, a66, a67, a68, a69, a70, a71, a72, a73, a74, a75, a76, a77, a78, a79, a80, a81, a82, a83, a84, a85, a86, a87, a88, a89, a90, a91, a92, a93, a94, a95, a96, a97, a98, a99, a100, a101, a102, a103, a104, a105, a106, a107, a108, a109, a110, a111, a112, a113, a114, a115, a116, a117, a118, a119, a120, a121, a122, a123, a124, a125, a126, a127, a128, a129, a130, a131, a132, a133, a134, a135, a136, a137, a138, a139, a140, a141, a142, a143, a144, a145, a146, a147, a148, a149, a150, a151, a152, a153, a154, a155, a156, a157, a158, a159, a160, a161, a162, a163, a164, a165, a166, a167, a168, a169, a170, a171, a172, a173, a174, a175, a176, a177, a178, a179, a180, a181, a182, a183, a184, a185, a186, a187, a188, a189, a190, a191, a192, a193, a194, a195, e196, e197, e198, e199, e200, e201, e202, e203, e204, e205, e206, e207, e208, e209, e210, e211, e212, e213, e214, e215, e216, e217, e218, e219, e220, e221, e222, e223, e224, e225, e226, e227, e228, e229, e230, e231, e232, a233, a234, a235, a236, a237, a238, a239, a240, a241, a242, a243, a244, a245, a246, a247, a248, a249, a250, a251, a252, a253, a254, a255, a256, a257, a258, a259, a260, a261, a262, a263, a264, a265, a266, a267, a268, a269, a270, a271, a272, a273, a274, a275, a276, a277, a278, a279, a280, a281, a282, a283, a284, a285, a286, a287, a288, a289, a290, a291, a292, a293, a294, a295, a296, a297, a298, a299, a300, a301, a302, a303, a304, a305, a306], []⟩ w') :
    Code.wp Try.prog (dmBlock 8) Q0 ⟨#[a0, a1, a2, a3, a4, a5, a6, a7, a8, a9, .slice (some ⟨vg, 0, none⟩) (m + 2) vc, .slice (some ⟨ug, 0, none⟩) (N + 1) uc, .int .i64 ((m : Int) + 2), a13, .int .i64 (j : Int), a15, .int .u64 (q : Int), a17, .int .u64 0, .int .u64 0, .int .i64 0, u21, a22, a23, a24, a25, a26, a27, a28, a29, a30, a31, a32, a33, a34, a35, a36, a37, a38, a39, a40, a41, a42, a43, a44, a45, a46, a47, a48, a49, a50, a51, a52, a53, a54, a55, a56, a57, a58, a59, a60, a61, a62, a63, a64, a65, a66, a67, a68, a69, a70, a71, a72, a73, a74, a75, a76, a77, a78, a79, a80, a81, a82, a83, a84, a85, a86, a87, a88, a89, a90, a91, a92, a93, a94, a95, a96, a97, a98, a99, a100, a101, a102, a103, a104, a105, a106, a107, a108, a109, a110, a111, a112, a113, a114, a115, a116, a117, a118, a119, a120, a121, a122, a123, a124, a125, a126, a127, a128, a129, a130, a131, a132, a133, a134, a135, a136, a137, a138, a139, a140, a141, a142, a143, a144, a145, a146, a147, a148, a149, a150, a151, a152, a153, a154, a155, a156, a157, a158, a159, a160, a161, a162, a163, a164, a165, a166, a167, a168, a169, a170, a171, a172, a173, a174, a175, a176, a177, a178, a179, a180, a181, a182, a183, a184, a185, a186, a187, a188, a189, a190, a191, a192, a193, a194, a195, u196, u197, u198, u199, u200, u201, u202, u203, u204, u205, u206, u207, u208, u209, u210, u211, u212, u213, u214, u215, u216, u217, u218, u219, u220, u221, u222, u223, u224, u225, u226, u227, u228, u229, u230, u231, u232, a233, a234, a235, a236, a237, a238, a239, a240, a241, a242, a243, a244, a245, a246, a247, a248, a249, a250, a251, a252, a253, a254, a255, a256, a257, a258, a259, a260, a261, a262, a263, a264, a265, a266, a267, a268, a269, a270, a271, a272, a273, a274, a275, a276, a277, a278, a279, a280, a281, a282, a283, a284, a285, a286, a287, a288, a289, a290, a291, a292, a293, a294, a295, a296, a297, a298, a299, a300, a301, a302, a303, a304, a305, a306], []⟩ wq := by
  have HK := Lib.hid hK
  clear hK
  conv => arg 2; whnf
  have r1 : (j : Int) ≤ 90000 := by omega
  have r2 : (0 : Int) ≤ j := by omega
  have r4 : (m : Int) ≤ 90000 := by omega
  have r17 : (N : Int) ≤ 90000 := by omega
  go_wp2_with fail
  go_loopw [18, 19, 20] (fun bv cv iv wr => ∃ k cc bb S : Nat, k ≤ m + 2 ∧ cc < B ∧ bb < 2 ∧ S < B^k ∧ bv = .int .u64 bb ∧ cv = .int .u64 cc ∧ iv = .int .i64 k ∧ Hid (S + q * (Z % B^k) = P % B^k + (cc + bb) * B^k) ∧ Num wr ug j (m + 2 + 1) (S + P / B^k * B^k) ∧ Wr wq wr ug j (j + (m + 2 + 1))) (fun _ _ i _ => m + 2 - (intOf i).toNat)
  case atStart => exact ⟨0, 0, 0, 0, by omega, by decide, by omega, Bp _, rfl, rfl, rfl, Lib.hid (by simp [Nat.mod_one]), hP.val (by simp), Wr.refl _ _ _ _⟩
  case round =>
    obtain ⟨k, cc, bb, S, hk, hcc, hbb, hSk, rfl, rfl, rfl, hE, hN, hw⟩ := hrel
    by_cases hlt : k < m + 2
    · have c1 := hN.cell (i := k) (by omega)
      rw [low_dg hSk, Nat.add_comm] at c1
      have c2 := (hw.num hV (fun _ => Or.inl n1)).cell0 (i := k) hlt
      have f1 := (hw.free hF).at (i := k) (by omega)
      rw [Nat.add_comm] at f1
      obtain ⟨p, hp⟩ : ∃ p, dg P k = p := ⟨_, rfl⟩
      obtain ⟨y, hy⟩ : ∃ y, dg Z k = y := ⟨_, rfl⟩
      have hpB : p < B := hp ▸ dg_lt P k
      have hyB : y < B := hy ▸ dg_lt Z k
      rw [hp] at c1
      rw [hy] at c2
      have HP := Lib.hid hp
      have HY := Lib.hid hy
      have HS := Lib.hid hSk
      obtain ⟨M, hM⟩ : ∃ M, q * y = M := ⟨_, rfl⟩
      have hMM : M ≤ (B - 1) * (B - 1) := hM ▸ Nat.mul_le_mul (by omega) (by omega)
      have w1 : IntKind.u64.wrap ((q : Int) * IntKind.u64.wrap (y : Int)) = (M : Int) := by rw [dm_mul hq hyB, hM]
      have w2 : IntKind.u64.wrap ((cc : Int) + M) = (cc : Int) + M := by rw [IntKind.wrap_u64]; unfold B at *; omega
      obtain ⟨lo, hlo⟩ : ∃ lo, (cc + M) % B = lo := ⟨_, rfl⟩
      have hloB : lo < B := hlo ▸ Nat.mod_lt _ (by decide)
      have w3 : bits BinOp.and IntKind.u64 ((cc : Int) + M) 4294967295 = (lo : Int) := by
        have e := u64_and_nat (cc + M) 4294967295 (by unfold B at *; omega) (by decide)
        rw [show ((cc + M : Nat) : Int) = (cc : Int) + M by simp, show ((4294967295 : Nat) : Int) = 4294967295 from rfl, show (4294967295 : Nat) = 2^32 - 1 from rfl, Nat.and_two_pow_sub_one_eq_mod] at e
        rw [e, ← hlo]; rfl
      have w4 : IntKind.u64.wrap (p : Int) = p := by rw [IntKind.wrap_u64]; unfold B at *; omega
      have HM := Lib.hid hM
      have HLO := Lib.hid hlo
      have i1 : (k : Int) < m + 2 := by omega
      have i2 : (0 : Int) ≤ k := by omega
      have i3 : (k : Int) + j < N + 1 := by omega
      have i4 : (0 : Int) ≤ (k : Int) + j := by omega
      clear hp hy hSk hM hlo
      go_wp2_with fail
      go_roundw
      case rel =>
        rw [sub64_lo hpB hloB hbb, sub64_hi hpB hloB hbb]
        refine ⟨k + 1, (cc + M) / B, subHi p lo bb, S + subLo p lo bb * B^k, by omega, Nat.div_lt_of_lt_mul (by unfold B at *; omega), subHi_lt _ _ _, add_lt_pow HS.out (subLo_lt _ _ _), rfl, congrArg (Value.int IntKind.u64) (by unfold B; omega), by go_num, Lib.hid ?_, ?_, ?_⟩
        · rw [mod_succ P, mod_succ Z, HP.out, HY.out, pow_succ]
          refine take_step hE.out ?_ (sub_lo_hi hpB hloB hbb)
          rw [← HLO.out, HM.out, Nat.mod_add_div', Nat.add_comm]
        · rw [← low_put HS.out, Nat.add_comm k j]
          exact hN.set (by omega) (subLo_lt _ _ _)
        · rw [Nat.add_comm k j]
          exact hw.set _ _ (by omega) (by omega)
      case measure => simp [intOf]; omega
    · obtain rfl : k = m + 2 := by omega
      have i1 : ¬ ((m + 2 : Nat) : Int) < (m : Int) + 2 := by omega
      go_wp2_with fail
      have h1 := hE.out
      rw [mod_of_lt hV.lt] at h1
      exact HK.out _ _ _ _ _ _ _ _ _ _ _ _ _ _ _ _ _ _ _ _ _ _ _ _ _ _ _ _ _ _ _ _ _ _ _ _ _ _ _ bb cc S wr hbb hcc hSk h1 hN hw
end Go.Proofs.Ytdgfmkideghhaaa

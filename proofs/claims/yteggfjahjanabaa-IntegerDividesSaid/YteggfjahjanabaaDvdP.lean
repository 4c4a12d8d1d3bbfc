/-
  DvdO DvdP
-/
import Derived.Test.YteggfjahjanabaaDivL
import Derived.Test.YteggfjahjanabaaFrame
import Derived.Test.YteggfjahjanabaaDvdZ
import Derived.Test.YteggfjahjanabaaDvd
/- The walk of IntegerDivides (written by wip/gendiv.py). -/
namespace Go.Proofs.Yteggfjahjanabaa
open Go.RowKit PB

set_option maxHeartbeats 12800000 in
set_option maxRecDepth 100000 in
theorem dvd_nil (sa sb sc : Bool) (qa qb qc : Option Addr) (na nb nc ca cb cc : Nat) (a b c : Int) (w : World)
    (ha : IsInt w (.agg #[.bool sa, .slice qa na ca]) a) (hb : IsInt w (.agg #[.bool sb, .slice qb nb cb]) b) (hc : IsInt w (.agg #[.bool sc, .slice qc nc cc]) c) (la : na ≤ 20) (lb : nb ≤ 20) (lc : nc ≤ 20) (hb0 : b = 0) :
    Calls Try.prog 6 #[.agg #[.bool sa, .slice qa na ca], .agg #[.bool sb, .slice qb nb cb], .agg #[.bool sc, .slice qc nc cc]] w fun e w' => e = .returned (.bool true) ∧ Below w.heap.size w w' := by
  have ka := Lib.hid (sm_int ha la)
  have i1 : decide ((20 : Int) < na) = false := decide_eq_false (by omega)
  have i2 : decide ((20 : Int) < nb) = false := decide_eq_false (by omega)
  have i3 : decide ((20 : Int) < nc) = false := decide_eq_false (by omega)
  have HB00 := Lib.hid hb0
  clear la lb lc hb0
  go_enter Try.func6, Try.ntmps6
  go_wp2_with fail
  generalize hW : World.alloc _ _ = W
  obtain ⟨N, hN⟩ : ∃ N, w.heap.size = N := ⟨_, rfl⟩
  have HB0 : Hid (Below w.heap.size w W) := Lib.hid (by rw [← hW]; exact bs_alloc (bs_alloc (bs_alloc (Below.refl _ _) _) _) _)
  have BL0 : Blk W w.heap.size #[.bool sa, .slice qa na ca] := by rw [← hW]; exact ((blk_new rfl).alloc _).alloc _
  have BL1 : Blk W (w.heap.size + 1) #[.bool sb, .slice qb nb cb] := by rw [← hW]; exact (blk_new (by simp)).alloc _
  have BL2 : Blk W (w.heap.size + 1 + 1) #[.bool sc, .slice qc nc cc] := by rw [← hW]; exact blk_new (by simp)
  rw [hN]
  have VA0 : Hid (Vars W [(N, a), (N + 1, b), (N + 1 + 1, c)]) := Lib.hid (by
    have h0 : Vars W [] := fun q hq => by cases hq
    refine ((h0.cons (p := N + 1 + 1) (z := c) ?_).cons (p := N + 1) (z := b) ?_).cons (p := N) (z := a) ?_
    · exact ⟨_, _, _, _, hN ▸ BL2, hc.kept HB0.out⟩
    · exact ⟨_, _, _, _, hN ▸ BL1, hb.kept HB0.out⟩
    · exact ⟨_, _, _, _, hN ▸ BL0, ha.kept HB0.out⟩)
  have HBL := Lib.hid (show Blk W N #[.bool sa, .slice qa na ca] ∧ Blk W (N + 1) #[.bool sb, .slice qb nb cb] ∧ Blk W (N + 1 + 1) #[.bool sc, .slice qc nc cc] from ⟨hN ▸ BL0, hN ▸ BL1, hN ▸ BL2⟩)
  clear hW BL0 BL1 BL2 ha hb hc
  refine (awake_any W).mono ?_
  rintro e u0 ⟨rfl, hb1⟩
  have HB : Hid (Below w.heap.size w u0) := Lib.hid (bs_trans HB0.out hb1)
  have VA := Lib.hid (VA0.out.kept hb1)
  obtain ⟨B0, B1, B2⟩ := HBL.out
  obtain ⟨a0, a1⟩ := Blk2 (B0.kept hb1)
  obtain ⟨b0, b1⟩ := Blk2 (B1.kept hb1)
  obtain ⟨c0, c1⟩ := Blk2 (B2.kept hb1)
  clear hb1 HB0 VA0 HBL B0 B1 B2
  go_upto_region 5 with fail
  clear a0 a1 b0 b1 c0 c1
  obtain ⟨s0, q0, n0, c0, f00, f01, _, _, I0⟩ := var_out (VA.out (N, a) (by simp))
  obtain ⟨s1, q1, n1, c1, f10, f11, _, _, I1⟩ := var_out (VA.out (N + 1, b) (by simp))
  have I1z : IsInt u0 (.agg #[.bool s1, .slice q1 n1 c1]) 0 := HB00.out ▸ I1
  go_wp2_with fail
  refine (quo_zero _ _ _ u0 I0 I1z (not_big ka.out (by decide))).mono ?_
  rintro e x7 ⟨v, v', rfl, hc, hc2, hx⟩
  obtain ⟨s7, q7, n7, c7, rfl, i⟩ := can_form hc
  obtain ⟨s8, q8, n8, c8, rfl, i2⟩ := can_form hc2
  have VB := Lib.hid (VA.out.kept hx)
  have HC := Lib.hid (bs_trans HB.out hx)
  clear hc hc2 hx I0 f00 f01 I1 f10 f11 I1z VA HB
  go_upto_region 6 with fail
  generalize hW : World.alloc _ _ = y7
  have hy : Below x7.heap.size x7 y7 := by rw [← hW]; exact bs_alloc (bs_alloc (Below.refl _ _) _) _
  have VA := Lib.hid (VB.out.kept hy)
  have HB := Lib.hid (bs_trans HC.out hy)
  clear hW hy VB HC i i2
  obtain ⟨s0, q0, n0, c0, f00, f01, _, _, I0⟩ := var_out (VA.out (N + 1, b) (by simp))
  go_wp2_with fail
  refine (sign_is y7 I0 (show b.sign = 0 by rw [HB00.out]; rfl)).mono ?_
  rintro e m0 ⟨rfl, hx⟩
  have VB := Lib.hid (VA.out.kept hx)
  have HC := Lib.hid (bs_trans HB.out hx)
  clear hx I0 f00 f01 VA HB
  have VA := VB
  have HB := HC
  clear VB HC
  go_wp2_with fail
  go_ret
  exact ⟨rfl, HB.out⟩

set_option maxHeartbeats 12800000 in
set_option maxRecDepth 100000 in
theorem dvd_a (sa sb sc : Bool) (qa qb qc : Option Addr) (na nb nc ca cb cc : Nat) (w : World) (la : ¬ na ≤ 20) :
    Calls Try.prog 6 #[.agg #[.bool sa, .slice qa na ca], .agg #[.bool sb, .slice qb nb cb], .agg #[.bool sc, .slice qc nc cc]] w fun e w' => e = .returned (.bool true) ∧ Below w.heap.size w w' := by
  have i1 : decide ((20 : Int) < na) = true := decide_eq_true (by omega)
  clear la
  go_enter Try.func6, Try.ntmps6
  go_wp2_with fail
  generalize hW : World.alloc _ _ = W
  obtain ⟨N, hN⟩ : ∃ N, w.heap.size = N := ⟨_, rfl⟩
  have HB0 : Hid (Below w.heap.size w W) := Lib.hid (by rw [← hW]; exact bs_alloc (bs_alloc (bs_alloc (Below.refl _ _) _) _) _)
  have BL0 : Blk W w.heap.size #[.bool sa, .slice qa na ca] := by rw [← hW]; exact ((blk_new rfl).alloc _).alloc _
  have BL1 : Blk W (w.heap.size + 1) #[.bool sb, .slice qb nb cb] := by rw [← hW]; exact (blk_new (by simp)).alloc _
  have BL2 : Blk W (w.heap.size + 1 + 1) #[.bool sc, .slice qc nc cc] := by rw [← hW]; exact blk_new (by simp)
  rw [hN]
  have HBL := Lib.hid (show Blk W N #[.bool sa, .slice qa na ca] ∧ Blk W (N + 1) #[.bool sb, .slice qb nb cb] ∧ Blk W (N + 1 + 1) #[.bool sc, .slice qc nc cc] from ⟨hN ▸ BL0, hN ▸ BL1, hN ▸ BL2⟩)
  clear hW BL0 BL1 BL2
  refine (awake_any W).mono ?_
  rintro e u0 ⟨rfl, hb1⟩
  have HB : Hid (Below w.heap.size w u0) := Lib.hid (bs_trans HB0.out hb1)

  obtain ⟨B0, B1, B2⟩ := HBL.out
  obtain ⟨a0, a1⟩ := Blk2 (B0.kept hb1)
  obtain ⟨b0, b1⟩ := Blk2 (B1.kept hb1)
  obtain ⟨c0, c1⟩ := Blk2 (B2.kept hb1)
  clear hb1 HB0 HBL B0 B1 B2
  go_wp2_with fail
  refine (awake_any u0).mono ?_
  rintro e u9 ⟨rfl, hx⟩
  have HB2 := bs_trans HB.out hx
  clear hx HB a0 a1 b0 b1 c0 c1
  go_wp2_with fail
  go_ret
  exact ⟨rfl, HB2⟩

set_option maxHeartbeats 12800000 in
set_option maxRecDepth 100000 in
theorem dvd_b (sa sb sc : Bool) (qa qb qc : Option Addr) (na nb nc ca cb cc : Nat) (w : World) (la : na ≤ 20) (lb : ¬ nb ≤ 20) :
    Calls Try.prog 6 #[.agg #[.bool sa, .slice qa na ca], .agg #[.bool sb, .slice qb nb cb], .agg #[.bool sc, .slice qc nc cc]] w fun e w' => e = .returned (.bool true) ∧ Below w.heap.size w w' := by
  have i1 : decide ((20 : Int) < na) = false := decide_eq_false (by omega)
  have i2 : decide ((20 : Int) < nb) = true := decide_eq_true (by omega)
  clear la lb
  go_enter Try.func6, Try.ntmps6
  go_wp2_with fail
  generalize hW : World.alloc _ _ = W
  obtain ⟨N, hN⟩ : ∃ N, w.heap.size = N := ⟨_, rfl⟩
  have HB0 : Hid (Below w.heap.size w W) := Lib.hid (by rw [← hW]; exact bs_alloc (bs_alloc (bs_alloc (Below.refl _ _) _) _) _)
  have BL0 : Blk W w.heap.size #[.bool sa, .slice qa na ca] := by rw [← hW]; exact ((blk_new rfl).alloc _).alloc _
  have BL1 : Blk W (w.heap.size + 1) #[.bool sb, .slice qb nb cb] := by rw [← hW]; exact (blk_new (by simp)).alloc _
  have BL2 : Blk W (w.heap.size + 1 + 1) #[.bool sc, .slice qc nc cc] := by rw [← hW]; exact blk_new (by simp)
  rw [hN]
  have HBL := Lib.hid (show Blk W N #[.bool sa, .slice qa na ca] ∧ Blk W (N + 1) #[.bool sb, .slice qb nb cb] ∧ Blk W (N + 1 + 1) #[.bool sc, .slice qc nc cc] from ⟨hN ▸ BL0, hN ▸ BL1, hN ▸ BL2⟩)
  clear hW BL0 BL1 BL2
  refine (awake_any W).mono ?_
  rintro e u0 ⟨rfl, hb1⟩
  have HB : Hid (Below w.heap.size w u0) := Lib.hid (bs_trans HB0.out hb1)

  obtain ⟨B0, B1, B2⟩ := HBL.out
  obtain ⟨a0, a1⟩ := Blk2 (B0.kept hb1)
  obtain ⟨b0, b1⟩ := Blk2 (B1.kept hb1)
  obtain ⟨c0, c1⟩ := Blk2 (B2.kept hb1)
  clear hb1 HB0 HBL B0 B1 B2
  go_wp2_with fail
  refine (awake_any u0).mono ?_
  rintro e u9 ⟨rfl, hx⟩
  have HB2 := bs_trans HB.out hx
  clear hx HB a0 a1 b0 b1 c0 c1
  go_wp2_with fail
  go_ret
  exact ⟨rfl, HB2⟩

set_option maxHeartbeats 12800000 in
set_option maxRecDepth 100000 in
theorem dvd_c (sa sb sc : Bool) (qa qb qc : Option Addr) (na nb nc ca cb cc : Nat) (w : World) (la : na ≤ 20) (lb : nb ≤ 20) (lc : ¬ nc ≤ 20) :
    Calls Try.prog 6 #[.agg #[.bool sa, .slice qa na ca], .agg #[.bool sb, .slice qb nb cb], .agg #[.bool sc, .slice qc nc cc]] w fun e w' => e = .returned (.bool true) ∧ Below w.heap.size w w' := by
  have i1 : decide ((20 : Int) < na) = false := decide_eq_false (by omega)
  have i2 : decide ((20 : Int) < nb) = false := decide_eq_false (by omega)
  have i3 : decide ((20 : Int) < nc) = true := decide_eq_true (by omega)
  clear la lb lc
  go_enter Try.func6, Try.ntmps6
  go_wp2_with fail
  generalize hW : World.alloc _ _ = W
  obtain ⟨N, hN⟩ : ∃ N, w.heap.size = N := ⟨_, rfl⟩
  have HB0 : Hid (Below w.heap.size w W) := Lib.hid (by rw [← hW]; exact bs_alloc (bs_alloc (bs_alloc (Below.refl _ _) _) _) _)
  have BL0 : Blk W w.heap.size #[.bool sa, .slice qa na ca] := by rw [← hW]; exact ((blk_new rfl).alloc _).alloc _
  have BL1 : Blk W (w.heap.size + 1) #[.bool sb, .slice qb nb cb] := by rw [← hW]; exact (blk_new (by simp)).alloc _
  have BL2 : Blk W (w.heap.size + 1 + 1) #[.bool sc, .slice qc nc cc] := by rw [← hW]; exact blk_new (by simp)
  rw [hN]
  have HBL := Lib.hid (show Blk W N #[.bool sa, .slice qa na ca] ∧ Blk W (N + 1) #[.bool sb, .slice qb nb cb] ∧ Blk W (N + 1 + 1) #[.bool sc, .slice qc nc cc] from ⟨hN ▸ BL0, hN ▸ BL1, hN ▸ BL2⟩)
  clear hW BL0 BL1 BL2
  refine (awake_any W).mono ?_
  rintro e u0 ⟨rfl, hb1⟩
  have HB : Hid (Below w.heap.size w u0) := Lib.hid (bs_trans HB0.out hb1)

  obtain ⟨B0, B1, B2⟩ := HBL.out
  obtain ⟨a0, a1⟩ := Blk2 (B0.kept hb1)
  obtain ⟨b0, b1⟩ := Blk2 (B1.kept hb1)
  obtain ⟨c0, c1⟩ := Blk2 (B2.kept hb1)
  clear hb1 HB0 HBL B0 B1 B2
  go_wp2_with fail
  refine (awake_any u0).mono ?_
  rintro e u9 ⟨rfl, hx⟩
  have HB2 := bs_trans HB.out hx
  clear hx HB a0 a1 b0 b1 c0 c1
  go_wp2_with fail
  go_ret
  exact ⟨rfl, HB2⟩
end Go.Proofs.Yteggfjahjanabaa

/- Stage 1, P1.3 and P1.6: at any three integers the law IntegerDivides returns true and leaves its inputs as they were. -/
namespace Go.Proofs.Yteggfjahjanabaa
open Go.ChangeShapes Go.WideShapes Go.ChangeAt Go.RowKit PB

theorem own0 : ownKnob Try.prog.godebug = none := by kernel_rfl
theorem laidOut0 : laidOutB Try.prog = true := by kernel_rfl
theorem dvd_any (sa sb sc : Bool) (qa qb qc : Option Addr) (na nb nc ca cb cc : Nat) (w : World)
    (ha : na ≤ 40 → ∃ z, IsInt w (.agg #[.bool sa, .slice qa na ca]) z) (hb : nb ≤ 40 → ∃ z, IsInt w (.agg #[.bool sb, .slice qb nb cb]) z) (hc : nc ≤ 40 → ∃ z, IsInt w (.agg #[.bool sc, .slice qc nc cc]) z) :
    Calls Try.prog 6 #[.agg #[.bool sa, .slice qa na ca], .agg #[.bool sb, .slice qb nb cb], .agg #[.bool sc, .slice qc nc cc]] w fun e w' => e = .returned (.bool true) ∧ Below w.heap.size w w' := by
  by_cases la : na ≤ 20
  · by_cases lb : nb ≤ 20
    · by_cases lc : nc ≤ 20
      · obtain ⟨a, ia⟩ := ha (by omega)
        obtain ⟨b, ib⟩ := hb (by omega)
        obtain ⟨c, ic⟩ := hc (by omega)
        by_cases h0 : b = 0
        · exact dvd_nil sa sb sc qa qb qc na nb nc ca cb cc a b c w ia ib ic la lb lc h0
        · by_cases h1 : a.tmod b = 0
          · exact dvd_zero sa sb sc qa qb qc na nb nc ca cb cc a b c w ia ib ic la lb lc h0 h1
          · exact dvd_pos sa sb sc qa qb qc na nb nc ca cb cc a b c w ia ib ic la lb lc h0 h1
      · exact dvd_c sa sb sc qa qb qc na nb nc ca cb cc w la lb lc
    · exact dvd_b sa sb sc qa qb qc na nb nc ca cb cc w la lb
  · exact dvd_a sa sb sc qa qb qc na nb nc ca cb cc w la

set_option maxRecDepth 100000 in
theorem dvd_lifted (os : Os) (started : os.Started) (H : Type) (enc : TypeId × Value → H) :
    ReturnsInHanded {} Try.checked os 6 .any (Rows.integerDividesSpec.pre6 enc Try.prog Try.f6 Rows.integerDividesRow.domain false) (Rows.integerDividesSpec.post enc Try.prog Try.f6 false true false false) := by
  refine returnsInHanded_of_change (C := Try.checked) own0 started (by kernel_rfl) Try.func6
    (ChangeSpec.witness6 (enc := enc) (C := Try.checked) false ⟨#[], #[.agg #[.bool false, .slice none 0 0], .agg #[.bool false, .slice none 0 0], .agg #[.bool false, .slice none 0 0]], []⟩ 8 (by kernel_rfl) (by kernel_rfl) (by kernel_rfl) (by kernel_rfl)) ?_
  intro W base args ds gs before hval0 hW hcnd _
  have hval : ∀ (j : Nat) t v, Try.f6.params[j]? = some t → args[j]? = some v → Value.okWide Try.prog W .any base t v := hval0
  have hW' := hW
  obtain ⟨p, q, hA0, hV, rfl, hfz, hnd⟩ := hW
  have hA : DataW.TrodAll enc Try.prog W 0 (fun _ => true) true Try.f6.params.toList args.toList ds p := hA0
  rw [Try.params6] at hA hval
  obtain ⟨v0, vs0, d0, ds0, p0, q0, hargs, rfl, rfl, h0, r0⟩ := trodAll_cons hA
  obtain ⟨v1, vs1, d1, ds1, p1, q1, rfl, rfl, rfl, h1, r1⟩ := trodAll_cons r0
  obtain ⟨v2, vs2, d2, ds2, p2, q2, rfl, rfl, rfl, h2, r2⟩ := trodAll_cons r1
  obtain ⟨rfl, rfl, rfl⟩ := trodAll_nil r2
  obtain rfl : args = #[v0, v1, v2] := by cases args; simp_all
  obtain ⟨rfl, rfl⟩ := trodVars_none hV
  have k0 := h0
  have k1 := h1
  have k2 := h2
  have lt0 : ∀ x ∈ p0, x.block < W.heap.size := by obtain ⟨m, hm⟩ := k0; exact DataW.trod_lt m _ _ _ hm
  have lt1 : ∀ x ∈ p1, x.block < W.heap.size := by obtain ⟨m, hm⟩ := k1; exact DataW.trod_lt m _ _ _ hm
  have lt2 : ∀ x ∈ p2, x.block < W.heap.size := by obtain ⟨m, hm⟩ := k2; exact DataW.trod_lt m _ _ _ hm
  obtain ⟨s0, a0, n0, c0, rfl, i0⟩ := open_arg (hval 0 _ v0 rfl rfl) h0
  obtain ⟨s1, a1, n1, c1, rfl, i1⟩ := open_arg (hval 1 _ v1 rfl rfl) h1
  obtain ⟨s2, a2, n2, c2, rfl, i2⟩ := open_arg (hval 2 _ v2 rfl rfl) h2
  clear hA0 hval0
  refine (dvd_any s0 s1 s2 a0 a1 a2 n0 n1 n2 c0 c1 c2 W i0 i1 i2).mono fun e W' ⟨he, bel⟩ => ?_
  subst he
  exact ⟨_, rfl, _, _, _, [], _, [], hW', trodAll_mk1 (shut_bool Try.underlying4 _), (trodAll_cons_mk (Below.trod laidOut0 (by kernel_rfl) (of_decide_eq_true (by kernel_rfl)) k0 bel lt0) (trodAll_cons_mk (Below.trod laidOut0 (by kernel_rfl) (of_decide_eq_true (by kernel_rfl)) k1 bel lt1) (trodAll_cons_mk (Below.trod laidOut0 (by kernel_rfl) (of_decide_eq_true (by kernel_rfl)) k2 bel lt2) trodAll_mk0))), rfl, bel.frame _, fun h => by cases h⟩

theorem dvd_holds : Rows.IntegerDividesSaid :=
  OpenClaim.holds_of_wide 6 Try.f6 rfl rfl rfl rfl rfl rfl rfl ⟨rfl, rfl, rfl, rfl, rfl⟩ rfl rfl rfl rfl rfl (by kernel_rfl) Try.func6 (by kernel_rfl)
    (of_decide_eq_true (by kernel_rfl)) (by unfold Func.isWrapper; first | (rw [if_pos (by decide +kernel)]; kernel_rfl) | (rw [if_neg (by decide +kernel)]; exact ⟨rfl, rfl⟩))
    (fun os started H enc _ => dvd_lifted os started H enc)
end Go.Proofs.Yteggfjahjanabaa

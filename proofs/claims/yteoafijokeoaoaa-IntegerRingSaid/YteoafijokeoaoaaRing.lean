/-
  The walk of IntegerRing (written by wip/genring.py).
-/
import Derived.Test.YteoafijokeoaoaaLawA
namespace Go.Proofs.Yteoafijokeoaoaa
open Go.RowKit PB

set_option maxHeartbeats 12800000 in
set_option maxRecDepth 100000 in
/-- All three inputs are small. -/
theorem ring_small (sa sb sc : Bool) (qa qb qc : Option Addr) (na nb nc ca cb cc : Nat) (a b c : Int) (w : World)
    (ha : IsInt w (.agg #[.bool sa, .slice qa na ca]) a) (hb : IsInt w (.agg #[.bool sb, .slice qb nb cb]) b) (hc : IsInt w (.agg #[.bool sc, .slice qc nc cc]) c) (la : na ≤ 40) (lb : nb ≤ 40) (lc : nc ≤ 40) :
    Calls Try.prog 5 #[.agg #[.bool sa, .slice qa na ca], .agg #[.bool sb, .slice qb nb cb], .agg #[.bool sc, .slice qc nc cc]] w fun e w' => e = .returned (.bool true) ∧ Below w.heap.size w w' := by
  have ka := Lib.hid (sm_int ha la)
  have kb := Lib.hid (sm_int hb lb)
  have kc := Lib.hid (sm_int hc lc)
  go_enter Try.func5, Try.ntmps5
  go_wp2_with fail
  generalize hW : World.alloc _ _ = W
  obtain ⟨N, hN⟩ : ∃ N, w.heap.size = N := ⟨_, rfl⟩
  have HB0 : Hid (Below w.heap.size w W) := Lib.hid (by rw [← hW]; exact below_one (below_one (below_one (Below.refl _ _) (Nat.le_refl _) _) (Nat.le_refl _) _) (Nat.le_refl _) _)
  have BL0 : Blk W w.heap.size #[.bool sa, .slice qa na ca] := by rw [← hW]; exact ((blk_new rfl).alloc _).alloc _
  have BL1 : Blk W (w.heap.size + 1) #[.bool sb, .slice qb nb cb] := by rw [← hW]; exact (blk_new (by simp)).alloc _
  have BL2 : Blk W (w.heap.size + 1 + 1) #[.bool sc, .slice qc nc cc] := by rw [← hW]; exact blk_new (by simp)
  rw [hN]
  have VA0 : Hid (Vars W [(N, a), (N + 1, b), (N + 1 + 1, c)]) := Lib.hid (by
    have h0 : Vars W [] := fun q hq => by cases hq
    refine ((h0.cons (p := N + 1 + 1) (z := c) ?_).cons (p := N + 1) (z := b) ?_).cons (p := N) (z := a) ?_
    · exact ⟨_, _, _, _, hN ▸ BL2, hc.kept HB0.out⟩
    · exact ⟨_, _, _, _, hN ▸ BL1, hb.kept HB0.out⟩
    · exact ⟨_, _, _, _, hN ▸ BL0, ha.kept HB0.out⟩)
  have HBL := Lib.hid (show Blk W N #[.bool sa, .slice qa na ca] ∧ Blk W (N + 1) #[.bool sb, .slice qb nb cb] ∧ Blk W (N + 1 + 1) #[.bool sc, .slice qc nc cc] from ⟨hN ▸ BL0, hN ▸ BL1, hN ▸ BL2⟩)
  clear hW BL0 BL1 BL2 ha hb hc
  refine (awake_any W).mono ?_
  rintro e u0 ⟨rfl, hb1⟩
  have HB1 : Hid (Below w.heap.size w u0) := Lib.hid (HB0.out.trans (hb1.mono HB0.out.size))
  have VA1 := Lib.hid (VA0.out.kept hb1)
  obtain ⟨B0, B1, B2⟩ := HBL.out
  have B0 := B0.kept hb1
  have B1 := B1.kept hb1
  have B2 := B2.kept hb1
  clear hb1 HB0 VA0 HBL
  have HK := Lib.hid (show ∀ w1, Below u0.heap.size u0 w1 → (w1.cell? ⟨N, 0, none⟩ = some (.bool sa) ∧ w1.cell? ⟨N, 1, none⟩ = some (.slice qa na ca)) ∧ (w1.cell? ⟨N + 1, 0, none⟩ = some (.bool sb) ∧ w1.cell? ⟨N + 1, 1, none⟩ = some (.slice qb nb cb)) ∧ (w1.cell? ⟨N + 1 + 1, 0, none⟩ = some (.bool sc) ∧ w1.cell? ⟨N + 1 + 1, 1, none⟩ = some (.slice qc nc cc)) from
    fun w1 h => ⟨Blk2 (B0.kept h), Blk2 (B1.kept h), Blk2 (B2.kept h)⟩)
  obtain ⟨⟨a0, a1⟩, ⟨b0, b1⟩, c0, c1⟩ := HK.out _ (Below.refl _ _)
  clear B0 B1 B2
  have F1 := Lib.hid (fun W => few_any sa qa na ca W)
  have F2 := Lib.hid (fun W => few_any sb qb nb cb W)
  have F3 := Lib.hid (fun W => few_any sc qc nc cc W)
  rw [decide_eq_true la] at F1
  rw [decide_eq_true lb] at F2
  rw [decide_eq_true lc] at F3
  have hq : Below u0.heap.size u0 u0 := Below.refl _ _
  clear la lb lc
  go_wp2_with fail
  refine (F1.out u0).mono ?_
  rintro e u1 ⟨rfl, hx⟩
  have VB := Lib.hid (VA1.out.kept hx)
  have HB2 : Hid (Below w.heap.size w u1) := Lib.hid (HB1.out.trans (hx.mono HB1.out.size))
  have hq2 : Below u0.heap.size u0 u1 := hq.trans (hx.mono hq.size)
  clear hq hx VA1 HB1 a0 a1 b0 b1 c0 c1
  have hq := hq2
  have HB1 := HB2
  have VA1 := VB
  clear hq2 HB2 VB
  obtain ⟨⟨a0, a1⟩, ⟨b0, b1⟩, c0, c1⟩ := HK.out _ hq
  go_wp2_with fail
  refine (F2.out u1).mono ?_
  rintro e u2 ⟨rfl, hx⟩
  have VB := Lib.hid (VA1.out.kept hx)
  have HB2 : Hid (Below w.heap.size w u2) := Lib.hid (HB1.out.trans (hx.mono HB1.out.size))
  have hq2 : Below u0.heap.size u0 u2 := hq.trans (hx.mono hq.size)
  clear hq hx VA1 HB1 a0 a1 b0 b1 c0 c1
  have hq := hq2
  have HB1 := HB2
  have VA1 := VB
  clear hq2 HB2 VB
  obtain ⟨⟨a0, a1⟩, ⟨b0, b1⟩, c0, c1⟩ := HK.out _ hq
  go_wp2_with fail
  refine (F3.out u2).mono ?_
  rintro e u3 ⟨rfl, hx⟩
  have VB := Lib.hid (VA1.out.kept hx)
  have HB2 : Hid (Below w.heap.size w u3) := Lib.hid (HB1.out.trans (hx.mono HB1.out.size))
  have hq2 : Below u0.heap.size u0 u3 := hq.trans (hx.mono hq.size)
  clear hq hx VA1 HB1 a0 a1 b0 b1 c0 c1
  have hq := hq2
  have HB1 := HB2
  have VA1 := VB
  clear hq2 HB2 VB
  obtain ⟨⟨a0, a1⟩, ⟨b0, b1⟩, c0, c1⟩ := HK.out _ hq
  clear hq HK F1 F2 F3 a0 a1 b0 b1 c0 c1
  have VA := VA1
  have HB := HB1
  clear VA1 HB1
  have k8 := Lib.hid (sm_add (sm_mono ka.out (show 40 ≤ 40 by decide)) (sm_mono kb.out (show 40 ≤ 40 by decide)))
  obtain ⟨s1, q1, n1, c1, f10, f11, _, _, I1⟩ := var_out (VA.out (N, a) (by simp))
  obtain ⟨s2, q2, n2, c2, f20, f21, _, _, I2⟩ := var_out (VA.out (N + 1, b) (by simp))
  go_wp2_with fail
  refine (add_sm u3 I1 I2 (sm_mono ka.out (by decide)) (sm_mono kb.out (by decide))).mono ?_
  rintro e x8 ⟨v, rfl, hc, hx⟩
  obtain ⟨s8, q8, n8, c8, rfl, i⟩ := can_form hc
  have VB := Lib.hid (VA.out.kept hx)
  have HC := Lib.hid (HB.out.trans (hx.mono HB.out.size))
  clear hc hx I1 I2 f10 f11 f20 f21 VA HB
  go_wp2_with fail
  generalize hW : World.alloc _ _ = y8
  obtain ⟨P8, hP⟩ : ∃ P, x8.heap.size = P := ⟨_, rfl⟩
  rw [hP]
  have hy : Below x8.heap.size x8 y8 := by rw [← hW]; exact (Below.refl _ _).alloc (Nat.le_refl _) _
  have bl : Blk y8 P8 #[.bool s8, .slice q8 n8 c8] := by rw [← hW, ← hP]; exact blk_new rfl
  have VA := Lib.hid ((VB.out.kept hy).cons ⟨_, _, _, _, bl, i.kept hy⟩)
  have HB := Lib.hid (HC.out.trans (hy.mono HC.out.size))
  clear hW hP hy VB HC i
  refine (plain_any s8 q8 n8 c8 y8).mono ?_
  rintro e z8 ⟨rfl, hz⟩
  have VB := Lib.hid (VA.out.kept hz)
  have HC := Lib.hid (HB.out.trans (hz.mono HB.out.size))
  obtain ⟨g0, g1⟩ := Blk2 (bl.kept hz)
  obtain ⟨g2, g3⟩ := Blk2f (bl.kept hz)
  have e0 := setCell_same g0
  have e1 := setCell_same g1
  clear hz VA HB bl
  have VA := VB
  have HB := HC
  clear VB HC
  have k10 := Lib.hid (sm_add (sm_mono kb.out (show 40 ≤ 40 by decide)) (sm_mono kc.out (show 40 ≤ 40 by decide)))
  obtain ⟨s1, q1, n1, c1, f10, f11, _, _, I1⟩ := var_out (VA.out (N + 1, b) (by simp))
  obtain ⟨s2, q2, n2, c2, f20, f21, _, _, I2⟩ := var_out (VA.out (N + 1 + 1, c) (by simp))
  go_wp2_with fail
  refine (add_sm z8 I1 I2 (sm_mono kb.out (by decide)) (sm_mono kc.out (by decide))).mono ?_
  rintro e x10 ⟨v, rfl, hc, hx⟩
  obtain ⟨s10, q10, n10, c10, rfl, i⟩ := can_form hc
  have VB := Lib.hid (VA.out.kept hx)
  have HC := Lib.hid (HB.out.trans (hx.mono HB.out.size))
  clear hc hx I1 I2 f10 f11 f20 f21 VA HB
  go_wp2_with fail
  generalize hW : World.alloc _ _ = y10
  obtain ⟨P10, hP⟩ : ∃ P, x10.heap.size = P := ⟨_, rfl⟩
  rw [hP]
  have hy : Below x10.heap.size x10 y10 := by rw [← hW]; exact (Below.refl _ _).alloc (Nat.le_refl _) _
  have bl : Blk y10 P10 #[.bool s10, .slice q10 n10 c10] := by rw [← hW, ← hP]; exact blk_new rfl
  have VA := Lib.hid ((VB.out.kept hy).cons ⟨_, _, _, _, bl, i.kept hy⟩)
  have HB := Lib.hid (HC.out.trans (hy.mono HC.out.size))
  clear hW hP hy VB HC i
  refine (plain_any s10 q10 n10 c10 y10).mono ?_
  rintro e z10 ⟨rfl, hz⟩
  have VB := Lib.hid (VA.out.kept hz)
  have HC := Lib.hid (HB.out.trans (hz.mono HB.out.size))
  obtain ⟨g0, g1⟩ := Blk2 (bl.kept hz)
  obtain ⟨g2, g3⟩ := Blk2f (bl.kept hz)
  have e0 := setCell_same g0
  have e1 := setCell_same g1
  clear hz VA HB bl
  have VA := VB
  have HB := HC
  clear VB HC
  have k11 := Lib.hid (sm_add (sm_mono k8.out (show 41 ≤ 41 by decide)) (sm_mono kc.out (show 40 ≤ 41 by decide)))
  obtain ⟨s1, q1, n1, c1, f10, f11, _, _, I1⟩ := var_out (VA.out (P8, (a + b)) (by simp))
  obtain ⟨s2, q2, n2, c2, f20, f21, _, _, I2⟩ := var_out (VA.out (N + 1 + 1, c) (by simp))
  go_wp2_with fail
  refine (add_sm z10 I1 I2 (sm_mono k8.out (by decide)) (sm_mono kc.out (by decide))).mono ?_
  rintro e x11 ⟨v, rfl, hc, hx⟩
  obtain ⟨s11, q11, n11, c11, rfl, i⟩ := can_form hc
  have VB := Lib.hid (VA.out.kept hx)
  have HC := Lib.hid (HB.out.trans (hx.mono HB.out.size))
  clear hc hx I1 I2 f10 f11 f20 f21 VA HB
  go_wp2_with fail
  generalize hW : World.alloc _ _ = y11
  obtain ⟨P11, hP⟩ : ∃ P, x11.heap.size = P := ⟨_, rfl⟩
  rw [hP]
  have hy : Below x11.heap.size x11 y11 := by rw [← hW]; exact (Below.refl _ _).alloc (Nat.le_refl _) _
  have bl : Blk y11 P11 #[.bool s11, .slice q11 n11 c11] := by rw [← hW, ← hP]; exact blk_new rfl
  have VA := Lib.hid ((VB.out.kept hy).cons ⟨_, _, _, _, bl, i.kept hy⟩)
  have HB := Lib.hid (HC.out.trans (hy.mono HC.out.size))
  clear hW hP hy VB HC i
  refine (plain_any s11 q11 n11 c11 y11).mono ?_
  rintro e z11 ⟨rfl, hz⟩
  have VB := Lib.hid (VA.out.kept hz)
  have HC := Lib.hid (HB.out.trans (hz.mono HB.out.size))
  obtain ⟨g0, g1⟩ := Blk2 (bl.kept hz)
  obtain ⟨g2, g3⟩ := Blk2f (bl.kept hz)
  have e0 := setCell_same g0
  have e1 := setCell_same g1
  clear hz VA HB bl
  have VA := VB
  have HB := HC
  clear VB HC
  have k12 := Lib.hid (sm_add (sm_mono ka.out (show 40 ≤ 41 by decide)) (sm_mono k10.out (show 41 ≤ 41 by decide)))
  obtain ⟨s1, q1, n1, c1, f10, f11, _, _, I1⟩ := var_out (VA.out (N, a) (by simp))
  obtain ⟨s2, q2, n2, c2, f20, f21, _, _, I2⟩ := var_out (VA.out (P10, (b + c)) (by simp))
  go_wp2_with fail
  refine (add_sm z11 I1 I2 (sm_mono ka.out (by decide)) (sm_mono k10.out (by decide))).mono ?_
  rintro e x12 ⟨v, rfl, hc, hx⟩
  obtain ⟨s12, q12, n12, c12, rfl, i⟩ := can_form hc
  have VB := Lib.hid (VA.out.kept hx)
  have HC := Lib.hid (HB.out.trans (hx.mono HB.out.size))
  clear hc hx I1 I2 f10 f11 f20 f21 VA HB
  go_wp2_with fail
  generalize hW : World.alloc _ _ = y12
  obtain ⟨P12, hP⟩ : ∃ P, x12.heap.size = P := ⟨_, rfl⟩
  rw [hP]
  have hy : Below x12.heap.size x12 y12 := by rw [← hW]; exact (Below.refl _ _).alloc (Nat.le_refl _) _
  have bl : Blk y12 P12 #[.bool s12, .slice q12 n12 c12] := by rw [← hW, ← hP]; exact blk_new rfl
  have VA := Lib.hid ((VB.out.kept hy).cons ⟨_, _, _, _, bl, i.kept hy⟩)
  have HB := Lib.hid (HC.out.trans (hy.mono HC.out.size))
  clear hW hP hy VB HC i
  refine (plain_any s12 q12 n12 c12 y12).mono ?_
  rintro e z12 ⟨rfl, hz⟩
  have VB := Lib.hid (VA.out.kept hz)
  have HC := Lib.hid (HB.out.trans (hz.mono HB.out.size))
  obtain ⟨g0, g1⟩ := Blk2 (bl.kept hz)
  obtain ⟨g2, g3⟩ := Blk2f (bl.kept hz)
  have e0 := setCell_same g0
  have e1 := setCell_same g1
  clear hz VA HB bl
  have VA := VB
  have HB := HC
  clear VB HC
  have k13 := Lib.hid (sm_mul ka.out kb.out)
  obtain ⟨s1, q1, n1, c1, f10, f11, _, _, I1⟩ := var_out (VA.out (N, a) (by simp))
  obtain ⟨s2, q2, n2, c2, f20, f21, _, _, I2⟩ := var_out (VA.out (N + 1, b) (by simp))
  go_wp2_with fail
  refine (mul_sm z12 I1 I2 (sm_mono ka.out (by decide)) (sm_mono kb.out (by decide))).mono ?_
  rintro e x13 ⟨v, rfl, hc, hx⟩
  obtain ⟨s13, q13, n13, c13, rfl, i⟩ := can_form hc
  have VB := Lib.hid (VA.out.kept hx)
  have HC := Lib.hid (HB.out.trans (hx.mono HB.out.size))
  clear hc hx I1 I2 f10 f11 f20 f21 VA HB
  go_wp2_with fail
  generalize hW : World.alloc _ _ = y13
  obtain ⟨P13, hP⟩ : ∃ P, x13.heap.size = P := ⟨_, rfl⟩
  rw [hP]
  have hy : Below x13.heap.size x13 y13 := by rw [← hW]; exact (Below.refl _ _).alloc (Nat.le_refl _) _
  have bl : Blk y13 P13 #[.bool s13, .slice q13 n13 c13] := by rw [← hW, ← hP]; exact blk_new rfl
  have VA := Lib.hid ((VB.out.kept hy).cons ⟨_, _, _, _, bl, i.kept hy⟩)
  have HB := Lib.hid (HC.out.trans (hy.mono HC.out.size))
  clear hW hP hy VB HC i
  refine (plain_any s13 q13 n13 c13 y13).mono ?_
  rintro e z13 ⟨rfl, hz⟩
  have VB := Lib.hid (VA.out.kept hz)
  have HC := Lib.hid (HB.out.trans (hz.mono HB.out.size))
  obtain ⟨g0, g1⟩ := Blk2 (bl.kept hz)
  obtain ⟨g2, g3⟩ := Blk2f (bl.kept hz)
  have e0 := setCell_same g0
  have e1 := setCell_same g1
  clear hz VA HB bl
  have VA := VB
  have HB := HC
  clear VB HC
  have k14 := Lib.hid (sm_mul kb.out ka.out)
  obtain ⟨s1, q1, n1, c1, f10, f11, _, _, I1⟩ := var_out (VA.out (N + 1, b) (by simp))
  obtain ⟨s2, q2, n2, c2, f20, f21, _, _, I2⟩ := var_out (VA.out (N, a) (by simp))
  go_wp2_with fail
  refine (mul_sm z13 I1 I2 (sm_mono kb.out (by decide)) (sm_mono ka.out (by decide))).mono ?_
  rintro e x14 ⟨v, rfl, hc, hx⟩
  obtain ⟨s14, q14, n14, c14, rfl, i⟩ := can_form hc
  have VB := Lib.hid (VA.out.kept hx)
  have HC := Lib.hid (HB.out.trans (hx.mono HB.out.size))
  clear hc hx I1 I2 f10 f11 f20 f21 VA HB
  go_wp2_with fail
  generalize hW : World.alloc _ _ = y14
  obtain ⟨P14, hP⟩ : ∃ P, x14.heap.size = P := ⟨_, rfl⟩
  rw [hP]
  have hy : Below x14.heap.size x14 y14 := by rw [← hW]; exact (Below.refl _ _).alloc (Nat.le_refl _) _
  have bl : Blk y14 P14 #[.bool s14, .slice q14 n14 c14] := by rw [← hW, ← hP]; exact blk_new rfl
  have VA := Lib.hid ((VB.out.kept hy).cons ⟨_, _, _, _, bl, i.kept hy⟩)
  have HB := Lib.hid (HC.out.trans (hy.mono HC.out.size))
  clear hW hP hy VB HC i
  refine (plain_any s14 q14 n14 c14 y14).mono ?_
  rintro e z14 ⟨rfl, hz⟩
  have VB := Lib.hid (VA.out.kept hz)
  have HC := Lib.hid (HB.out.trans (hz.mono HB.out.size))
  obtain ⟨g0, g1⟩ := Blk2 (bl.kept hz)
  obtain ⟨g2, g3⟩ := Blk2f (bl.kept hz)
  have e0 := setCell_same g0
  have e1 := setCell_same g1
  clear hz VA HB bl
  have VA := VB
  have HB := HC
  clear VB HC
  have k15 := Lib.hid (sm_mul ka.out kc.out)
  obtain ⟨s1, q1, n1, c1, f10, f11, _, _, I1⟩ := var_out (VA.out (N, a) (by simp))
  obtain ⟨s2, q2, n2, c2, f20, f21, _, _, I2⟩ := var_out (VA.out (N + 1 + 1, c) (by simp))
  go_wp2_with fail
  refine (mul_sm z14 I1 I2 (sm_mono ka.out (by decide)) (sm_mono kc.out (by decide))).mono ?_
  rintro e x15 ⟨v, rfl, hc, hx⟩
  obtain ⟨s15, q15, n15, c15, rfl, i⟩ := can_form hc
  have VB := Lib.hid (VA.out.kept hx)
  have HC := Lib.hid (HB.out.trans (hx.mono HB.out.size))
  clear hc hx I1 I2 f10 f11 f20 f21 VA HB
  go_wp2_with fail
  generalize hW : World.alloc _ _ = y15
  obtain ⟨P15, hP⟩ : ∃ P, x15.heap.size = P := ⟨_, rfl⟩
  rw [hP]
  have hy : Below x15.heap.size x15 y15 := by rw [← hW]; exact (Below.refl _ _).alloc (Nat.le_refl _) _
  have bl : Blk y15 P15 #[.bool s15, .slice q15 n15 c15] := by rw [← hW, ← hP]; exact blk_new rfl
  have VA := Lib.hid ((VB.out.kept hy).cons ⟨_, _, _, _, bl, i.kept hy⟩)
  have HB := Lib.hid (HC.out.trans (hy.mono HC.out.size))
  clear hW hP hy VB HC i
  refine (plain_any s15 q15 n15 c15 y15).mono ?_
  rintro e z15 ⟨rfl, hz⟩
  have VB := Lib.hid (VA.out.kept hz)
  have HC := Lib.hid (HB.out.trans (hz.mono HB.out.size))
  obtain ⟨g0, g1⟩ := Blk2 (bl.kept hz)
  obtain ⟨g2, g3⟩ := Blk2f (bl.kept hz)
  have e0 := setCell_same g0
  have e1 := setCell_same g1
  clear hz VA HB bl
  have VA := VB
  have HB := HC
  clear VB HC
  have k16 := Lib.hid (sm_mul ka.out k10.out)
  obtain ⟨s1, q1, n1, c1, f10, f11, _, _, I1⟩ := var_out (VA.out (N, a) (by simp))
  obtain ⟨s2, q2, n2, c2, f20, f21, _, _, I2⟩ := var_out (VA.out (P10, (b + c)) (by simp))
  go_wp2_with fail
  refine (mul_sm z15 I1 I2 (sm_mono ka.out (by decide)) (sm_mono k10.out (by decide))).mono ?_
  rintro e x16 ⟨v, rfl, hc, hx⟩
  obtain ⟨s16, q16, n16, c16, rfl, i⟩ := can_form hc
  have VB := Lib.hid (VA.out.kept hx)
  have HC := Lib.hid (HB.out.trans (hx.mono HB.out.size))
  clear hc hx I1 I2 f10 f11 f20 f21 VA HB
  go_wp2_with fail
  generalize hW : World.alloc _ _ = y16
  obtain ⟨P16, hP⟩ : ∃ P, x16.heap.size = P := ⟨_, rfl⟩
  rw [hP]
  have hy : Below x16.heap.size x16 y16 := by rw [← hW]; exact (Below.refl _ _).alloc (Nat.le_refl _) _
  have bl : Blk y16 P16 #[.bool s16, .slice q16 n16 c16] := by rw [← hW, ← hP]; exact blk_new rfl
  have VA := Lib.hid ((VB.out.kept hy).cons ⟨_, _, _, _, bl, i.kept hy⟩)
  have HB := Lib.hid (HC.out.trans (hy.mono HC.out.size))
  clear hW hP hy VB HC i
  refine (plain_any s16 q16 n16 c16 y16).mono ?_
  rintro e z16 ⟨rfl, hz⟩
  have VB := Lib.hid (VA.out.kept hz)
  have HC := Lib.hid (HB.out.trans (hz.mono HB.out.size))
  obtain ⟨g0, g1⟩ := Blk2 (bl.kept hz)
  obtain ⟨g2, g3⟩ := Blk2f (bl.kept hz)
  have e0 := setCell_same g0
  have e1 := setCell_same g1
  clear hz VA HB bl
  have VA := VB
  have HB := HC
  clear VB HC
  have k17 := Lib.hid (sm_add (sm_mono k13.out (show 80 ≤ 80 by decide)) (sm_mono k15.out (show 80 ≤ 80 by decide)))
  obtain ⟨s1, q1, n1, c1, f10, f11, _, _, I1⟩ := var_out (VA.out (P13, (a * b)) (by simp))
  obtain ⟨s2, q2, n2, c2, f20, f21, _, _, I2⟩ := var_out (VA.out (P15, (a * c)) (by simp))
  go_wp2_with fail
  refine (add_sm z16 I1 I2 (sm_mono k13.out (by decide)) (sm_mono k15.out (by decide))).mono ?_
  rintro e x17 ⟨v, rfl, hc, hx⟩
  obtain ⟨s17, q17, n17, c17, rfl, i⟩ := can_form hc
  have VB := Lib.hid (VA.out.kept hx)
  have HC := Lib.hid (HB.out.trans (hx.mono HB.out.size))
  clear hc hx I1 I2 f10 f11 f20 f21 VA HB
  go_wp2_with fail
  generalize hW : World.alloc _ _ = y17
  obtain ⟨P17, hP⟩ : ∃ P, x17.heap.size = P := ⟨_, rfl⟩
  rw [hP]
  have hy : Below x17.heap.size x17 y17 := by rw [← hW]; exact (Below.refl _ _).alloc (Nat.le_refl _) _
  have bl : Blk y17 P17 #[.bool s17, .slice q17 n17 c17] := by rw [← hW, ← hP]; exact blk_new rfl
  have VA := Lib.hid ((VB.out.kept hy).cons ⟨_, _, _, _, bl, i.kept hy⟩)
  have HB := Lib.hid (HC.out.trans (hy.mono HC.out.size))
  clear hW hP hy VB HC i
  refine (plain_any s17 q17 n17 c17 y17).mono ?_
  rintro e z17 ⟨rfl, hz⟩
  have VB := Lib.hid (VA.out.kept hz)
  have HC := Lib.hid (HB.out.trans (hz.mono HB.out.size))
  obtain ⟨g0, g1⟩ := Blk2 (bl.kept hz)
  obtain ⟨g2, g3⟩ := Blk2f (bl.kept hz)
  have e0 := setCell_same g0
  have e1 := setCell_same g1
  clear hz VA HB bl
  have VA := VB
  have HB := HC
  clear VB HC
  have k18 := Lib.hid (sm_sub (sm_mono k8.out (show 41 ≤ 41 by decide)) (sm_mono kb.out (show 40 ≤ 41 by decide)))
  obtain ⟨s1, q1, n1, c1, f10, f11, _, _, I1⟩ := var_out (VA.out (P8, (a + b)) (by simp))
  obtain ⟨s2, q2, n2, c2, f20, f21, _, _, I2⟩ := var_out (VA.out (N + 1, b) (by simp))
  go_wp2_with fail
  refine (sub_sm z17 I1 I2 (sm_mono k8.out (by decide)) (sm_mono kb.out (by decide))).mono ?_
  rintro e x18 ⟨v, rfl, hc, hx⟩
  obtain ⟨s18, q18, n18, c18, rfl, i⟩ := can_form hc
  have VB := Lib.hid (VA.out.kept hx)
  have HC := Lib.hid (HB.out.trans (hx.mono HB.out.size))
  clear hc hx I1 I2 f10 f11 f20 f21 VA HB
  go_wp2_with fail
  generalize hW : World.alloc _ _ = y18
  obtain ⟨P18, hP⟩ : ∃ P, x18.heap.size = P := ⟨_, rfl⟩
  rw [hP]
  have hy : Below x18.heap.size x18 y18 := by rw [← hW]; exact (Below.refl _ _).alloc (Nat.le_refl _) _
  have bl : Blk y18 P18 #[.bool s18, .slice q18 n18 c18] := by rw [← hW, ← hP]; exact blk_new rfl
  have VA := Lib.hid ((VB.out.kept hy).cons ⟨_, _, _, _, bl, i.kept hy⟩)
  have HB := Lib.hid (HC.out.trans (hy.mono HC.out.size))
  clear hW hP hy VB HC i
  refine (plain_any s18 q18 n18 c18 y18).mono ?_
  rintro e z18 ⟨rfl, hz⟩
  have VB := Lib.hid (VA.out.kept hz)
  have HC := Lib.hid (HB.out.trans (hz.mono HB.out.size))
  obtain ⟨g0, g1⟩ := Blk2 (bl.kept hz)
  obtain ⟨g2, g3⟩ := Blk2f (bl.kept hz)
  have e0 := setCell_same g0
  have e1 := setCell_same g1
  clear hz VA HB bl
  have VA := VB
  have HB := HC
  clear VB HC
  obtain ⟨s1, q1, n1, c1, f10, f11, _, _, I1⟩ := var_out (VA.out (P11, ((a + b) + c)) (by simp))
  obtain ⟨s2, q2, n2, c2, f20, f21, _, _, I2⟩ := var_out (VA.out (P12, (a + (b + c))) (by simp))
  go_wp2_with fail
  refine (cmp_eq z18 I1 I2 (Int.add_assoc a b c)).mono ?_
  rintro e m0 ⟨rfl, hx⟩
  have VB := Lib.hid (VA.out.kept hx)
  have HC := Lib.hid (HB.out.trans (hx.mono HB.out.size))
  clear g0 g1 g2 g3 e0 e1 hx I1 I2 f10 f11 f20 f21 VA HB
  have VA := VB
  have HB := HC
  clear VB HC
  obtain ⟨s1, q1, n1, c1, f10, f11, _, _, I1⟩ := var_out (VA.out (P13, (a * b)) (by simp))
  obtain ⟨s2, q2, n2, c2, f20, f21, _, _, I2⟩ := var_out (VA.out (P14, (b * a)) (by simp))
  go_wp2_with fail
  refine (cmp_eq m0 I1 I2 (Int.mul_comm a b)).mono ?_
  rintro e m1 ⟨rfl, hx⟩
  have VB := Lib.hid (VA.out.kept hx)
  have HC := Lib.hid (HB.out.trans (hx.mono HB.out.size))
  clear hx I1 I2 f10 f11 f20 f21 VA HB
  have VA := VB
  have HB := HC
  clear VB HC
  obtain ⟨s1, q1, n1, c1, f10, f11, _, _, I1⟩ := var_out (VA.out (P16, (a * (b + c))) (by simp))
  obtain ⟨s2, q2, n2, c2, f20, f21, _, _, I2⟩ := var_out (VA.out (P17, ((a * b) + (a * c))) (by simp))
  go_wp2_with fail
  refine (cmp_eq m1 I1 I2 (Int.mul_add a b c)).mono ?_
  rintro e m2 ⟨rfl, hx⟩
  have VB := Lib.hid (VA.out.kept hx)
  have HC := Lib.hid (HB.out.trans (hx.mono HB.out.size))
  clear hx I1 I2 f10 f11 f20 f21 VA HB
  have VA := VB
  have HB := HC
  clear VB HC
  obtain ⟨s1, q1, n1, c1, f10, f11, _, _, I1⟩ := var_out (VA.out (P18, ((a + b) - b)) (by simp))
  obtain ⟨s2, q2, n2, c2, f20, f21, _, _, I2⟩ := var_out (VA.out (N, a) (by simp))
  go_wp2_with fail
  refine (cmp_eq m2 I1 I2 (Int.add_sub_cancel a b)).mono ?_
  rintro e m3 ⟨rfl, hx⟩
  have VB := Lib.hid (VA.out.kept hx)
  have HC := Lib.hid (HB.out.trans (hx.mono HB.out.size))
  clear hx I1 I2 f10 f11 f20 f21 VA HB
  have VA := VB
  have HB := HC
  clear VB HC
  go_wp2_with fail
  go_ret
  exact ⟨rfl, HB.out⟩
end Go.Proofs.Yteoafijokeoaoaa

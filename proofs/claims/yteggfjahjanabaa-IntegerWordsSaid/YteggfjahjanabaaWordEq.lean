/-
  The walk of IntegerWords where x = y (written by wip/genwords.py).
-/
import Derived.Test.YteggfjahjanabaaWordL
namespace Go.Proofs.Yteggfjahjanabaa
open Go.RowKit PB

set_option maxHeartbeats 6400000 in
set_option maxRecDepth 100000 in
theorem words_eq (x y : Int) (w : World) (x1 : -9223372036854775808 ≤ x) (x2 : x ≤ 9223372036854775807) (y1 : -9223372036854775808 ≤ y) (y2 : y ≤ 9223372036854775807) (hrel : x = y) :
    Calls Try.prog 8 #[.int .i64 x, .int .i64 y] w fun e w' => e = .returned (.bool true) ∧ Below w.heap.size w w' := by
  have i1 : decide (x < y) = false := decide_eq_false (by omega)
  have i2 : decide (y < x) = false := decide_eq_false (by omega)
  have HREL := Lib.hid hrel
  have K1 := Lib.hid (wd_big x1 x2)
  have K2 := Lib.hid (wd_big y1 y2)
  clear hrel
  go_enter Try.func8, Try.ntmps8
  go_wp2_with fail
  refine (awake_any w).mono ?_
  rintro e u0 ⟨rfl, hb⟩
  go_wp2_with fail
  refine (of_any x u0 x1 x2).mono ?_
  rintro e u1 ⟨v, rfl, hc, hx⟩
  obtain ⟨sa, qa, na, ca, rfl, ia⟩ := can_form hc
  have hb := hb.trans (hx.mono hb.size)
  clear hc hx
  go_wp2_with fail
  refine (of_any y u1 y1 y2).mono ?_
  rintro e u2 ⟨v, rfl, hc, hx⟩
  obtain ⟨sb, qb, nb, cb, rfl, ib⟩ := can_form hc
  have hb := hb.trans (hx.mono hb.size)
  have ia := ia.kept hx
  clear hc hx
  go_upto_region 5 with fail
  generalize hW : World.alloc _ _ = W
  obtain ⟨P, hP⟩ : ∃ P, u2.heap.size = P := ⟨_, rfl⟩
  rw [hP]
  have B0 : Blk W P #[.bool sa, .slice qa na ca] := by rw [← hW, ← hP]; exact (blk_new rfl).alloc _
  have B1 : Blk W (P + 1) #[.bool sb, .slice qb nb cb] := by rw [← hW, ← hP]; exact blk_new (by simp)
  have hy : Below u2.heap.size u2 W := by rw [← hW]; exact ((Below.refl _ _).alloc (Nat.le_refl _) _).alloc (by simp) _
  have hb := hb.trans (hy.mono hb.size)
  have ia := ia.kept hy
  have ib := ib.kept hy
  have HB := Lib.hid hb
  have HK := Lib.hid (show ∀ w1, Below W.heap.size W w1 → (w1.cell? ⟨P, 0, none⟩ = some (.bool sa) ∧ w1.cell? ⟨P, 1, none⟩ = some (.slice qa na ca)) ∧ (w1.cell? ⟨P + 1, 0, none⟩ = some (.bool sb) ∧ w1.cell? ⟨P + 1, 1, none⟩ = some (.slice qb nb cb)) from
    fun w1 h => ⟨Blk2 (B0.kept h), Blk2 (B1.kept h)⟩)
  have C1 := Lib.hid (fun W' (h : Below W.heap.size W W') => cmp_eq W' (ia.kept h) (ib.kept h) HREL.out)
  have C2 := Lib.hid (fun W' (h : Below W.heap.size W W') => neg_any _ _ W' (ia.kept h))
  have C3 := Lib.hid (fun W' u (h : Below W.heap.size W W') (hu : IsInt W' u (-(-x))) => cmp_eq W' hu (ia.kept h) (Int.neg_neg x))
  have VA := Lib.hid (show ∀ w1, Below W.heap.size W w1 → Vars w1 [(P, x), (P + 1, y)] from fun w1 h => by
    have h0 : Vars w1 [] := fun q hq => by cases hq
    exact (h0.cons (p := P + 1) (z := y) ⟨_, _, _, _, B1.kept h, ib.kept h⟩).cons (p := P) (z := x) ⟨_, _, _, _, B0.kept h, ia.kept h⟩)
  obtain ⟨⟨a0, a1⟩, b0, b1⟩ := HK.out _ (Below.refl _ _)
  clear hW hP hy hb B0 B1 ia ib
  have hq0 : Below W.heap.size W W := Below.refl _ _
  go_wp2_with fail
  go_region_held3 (fun w' => (w'.cell? ⟨P, 0, none⟩ = some (.bool sa) ∧ w'.cell? ⟨P, 1, none⟩ = some (.slice qa na ca)) ∧ (w'.cell? ⟨P + 1, 0, none⟩ = some (.bool sb) ∧ w'.cell? ⟨P + 1, 1, none⟩ = some (.slice qb nb cb)))
    (first | exact ⟨⟨a0, a1⟩, b0, b1⟩ | exact HK.out _ hq)
    (first
      | (go_at_call_of 36 (Value.agg #[Value.bool s6, Value.slice q6 m6 k6]); refine (C3.out _ _ (by exact hq) (by exact hz6.out)).mono ?_; rintro e z4 ⟨rfl, hx4⟩; have hq : Below W.heap.size W z4 := hq.trans (hx4.mono hq.size))
      | (go_at_call_of 36 (Value.agg #[Value.bool sa, Value.slice qa na ca]); refine (C1.out _ (by first | exact hq0 | exact hq0.drew)).mono ?_; rintro e z1 ⟨rfl, hx1⟩; have hq : Below W.heap.size W z1 := (by first | exact hx1 | exact below_undrew hx1))
      | (go_at_call_of 28 (Value.agg #[Value.bool sa, Value.slice qa na ca]); refine (C2.out _ (by exact hq)).mono ?_; rintro e z2 ⟨n1, rfl, hy2, hx2⟩; have hq : Below W.heap.size W z2 := hq.trans (hx2.mono hq.size); obtain ⟨s5, q5, m5, k5, rfl, i5⟩ := can_form hy2; have hz := Lib.hid i5; clear i5 hy2)
      | (go_at_call_of 28 (Value.agg #[Value.bool s5, Value.slice q5 m5 k5]); refine (neg_any _ _ _ (by exact hz.out)).mono ?_; rintro e z3 ⟨n2, rfl, hy3, hx3⟩; have hq : Below W.heap.size W z3 := hq.trans (hx3.mono hq.size); obtain ⟨s6, q6, m6, k6, rfl, i6⟩ := can_form hy3; have hz6 := Lib.hid i6; clear i6 hy3))
  have VB := Lib.hid (VA.out _ hq)
  have HC := Lib.hid (HB.out.trans (hq.mono HB.out.size))
  clear hq hx1 hx2 hx3 hx4 hz hz6 HK C1 C2 C3 VA HB a0 a1 b0 b1 hq0
  obtain ⟨X33, hX33⟩ : ∃ X : Int, x / 8589934592 = X := ⟨_, rfl⟩
  obtain ⟨Y33, hY33⟩ : ∃ X : Int, y / 8589934592 = X := ⟨_, rfl⟩
  obtain ⟨X1, hX1⟩ : ∃ X : Int, x / 2 = X := ⟨_, rfl⟩
  obtain ⟨Y1, hY1⟩ : ∃ X : Int, y / 2 = X := ⟨_, rfl⟩
  have bx : Hid (-1073741824 ≤ X33 ∧ X33 ≤ 1073741823) := Lib.hid (by omega)
  have by_ : Hid (-1073741824 ≤ Y33 ∧ Y33 ≤ 1073741823) := Lib.hid (by omega)
  have bx1 : Hid (-4611686018427387904 ≤ X1 ∧ X1 ≤ 4611686018427387903) := Lib.hid (by omega)
  have by1 : Hid (-4611686018427387904 ≤ Y1 ∧ Y1 ≤ 4611686018427387903) := Lib.hid (by omega)
  go_wp2_with fail
  refine (of_any X33 z4 (by have := bx.out; omega) (by have := bx.out; omega)).mono ?_
  rintro e u3 ⟨v3, rfl, hc, hx⟩
  have I1 := hc.int
  have VA := Lib.hid (VB.out.kept hx)
  have HB := Lib.hid (HC.out.trans (hx.mono HC.out.size))
  clear hc hx VB HC
  go_wp2_with fail
  refine (of_any Y33 u3 (by have := by_.out; omega) (by have := by_.out; omega)).mono ?_
  rintro e u4 ⟨v4, rfl, hc, hx⟩
  have I2 := hc.int
  have I1 := I1.kept hx
  have VB := Lib.hid (VA.out.kept hx)
  have HC := Lib.hid (HB.out.trans (hx.mono HB.out.size))
  clear hc hx VA HB
  go_wp2_with fail
  refine (mul_sm u4 I1 I2 (sm_mono (wd_big (by have := bx.out; omega) (by have := bx.out; omega)) (by decide)) (sm_mono (wd_big (by have := by_.out; omega) (by have := by_.out; omega)) (by decide))).mono ?_
  rintro e u5 ⟨v5, rfl, hc, hx⟩
  obtain ⟨sp, qp, np, cp, rfl, i⟩ := can_form hc
  have VA := Lib.hid (VB.out.kept hx)
  have HB := Lib.hid (HC.out.trans (hx.mono HC.out.size))
  clear hc hx VB HC I1 I2
  go_upto_region 12 with fail
  generalize hW : World.alloc _ _ = Wp
  obtain ⟨Pp, hP⟩ : ∃ P, u5.heap.size = P := ⟨_, rfl⟩
  rw [hP]
  have hy : Below u5.heap.size u5 Wp := by rw [← hW]; exact (Below.refl _ _).alloc (Nat.le_refl _) _
  have bl : Blk Wp Pp #[.bool sp, .slice qp np cp] := by rw [← hW, ← hP]; exact blk_new rfl
  have VB := Lib.hid ((VA.out.kept hy).cons (p := Pp) (z := X33 * Y33) ⟨_, _, _, _, bl, i.kept hy⟩)
  have HC := Lib.hid (HB.out.trans (hy.mono HB.out.size))
  clear hW hP hy VA HB i bl
  go_wp2_with fail
  refine (of_any X1 Wp (by have := bx1.out; omega) (by have := bx1.out; omega)).mono ?_
  rintro e u3 ⟨v3, rfl, hc, hx⟩
  have I1 := hc.int
  have VA := Lib.hid (VB.out.kept hx)
  have HB := Lib.hid (HC.out.trans (hx.mono HC.out.size))
  clear hc hx VB HC
  go_wp2_with fail
  refine (of_any Y1 u3 (by have := by1.out; omega) (by have := by1.out; omega)).mono ?_
  rintro e u4 ⟨v4, rfl, hc, hx⟩
  have I2 := hc.int
  have I1 := I1.kept hx
  have VB := Lib.hid (VA.out.kept hx)
  have HC := Lib.hid (HB.out.trans (hx.mono HB.out.size))
  clear hc hx VA HB
  go_wp2_with fail
  refine (add_sm u4 I1 I2 (sm_mono (wd_big (by have := bx1.out; omega) (by have := bx1.out; omega)) (by decide)) (sm_mono (wd_big (by have := by1.out; omega) (by have := by1.out; omega)) (by decide))).mono ?_
  rintro e u5 ⟨v5, rfl, hc, hx⟩
  obtain ⟨ss, qs, ns, cs, rfl, i⟩ := can_form hc
  have VA := Lib.hid (VB.out.kept hx)
  have HB := Lib.hid (HC.out.trans (hx.mono HC.out.size))
  clear hc hx VB HC I1 I2
  go_upto_region 13 with fail
  generalize hW : World.alloc _ _ = Ws
  obtain ⟨Ps, hP⟩ : ∃ P, u5.heap.size = P := ⟨_, rfl⟩
  rw [hP]
  have hy : Below u5.heap.size u5 Ws := by rw [← hW]; exact (Below.refl _ _).alloc (Nat.le_refl _) _
  have bl : Blk Ws Ps #[.bool ss, .slice qs ns cs] := by rw [← hW, ← hP]; exact blk_new rfl
  have VB := Lib.hid ((VA.out.kept hy).cons (p := Ps) (z := X1 + Y1) ⟨_, _, _, _, bl, i.kept hy⟩)
  have HC := Lib.hid (HB.out.trans (hy.mono HB.out.size))
  clear hW hP hy VA HB i bl
  have M1 := Lib.hid (wd_mul bx.out.1 bx.out.2 by_.out.1 by_.out.2)
  have M2 : Hid (-9223372036854775808 ≤ X1 + Y1 ∧ X1 + Y1 ≤ 9223372036854775807) := Lib.hid (by have := bx1.out; have := by1.out; omega)
  have W1 : IntKind.i64.wrap (X33 * Y33) = X33 * Y33 := wd_wrap M1.out.1 M1.out.2
  have W2 : IntKind.i64.wrap (X1 + Y1) = X1 + Y1 := wd_wrap M2.out.1 M2.out.2
  obtain ⟨sae, qae, nae, cae, Ba, Ia⟩ := VB.out (Pp, X33 * Y33) (by simp)
  obtain ⟨sbe, qbe, nbe, cbe, Bb, Ib⟩ := VB.out (Ps, X1 + Y1) (by simp)
  have HK := Lib.hid (show ∀ w', Below Ws.heap.size Ws w' → (w'.cell? ⟨Pp, 0, none⟩ = some (.bool sae) ∧ w'.cell? ⟨Pp, 1, none⟩ = some (.slice qae nae cae)) ∧ (w'.cell? ⟨Ps, 0, none⟩ = some (.bool sbe) ∧ w'.cell? ⟨Ps, 1, none⟩ = some (.slice qbe nbe cbe)) from
    fun w1 h => ⟨Blk2 (Ba.kept h), Blk2 (Bb.kept h)⟩)
  have Ca := Lib.hid (fun W' v (h : Below Ws.heap.size Ws W') (hv : IsInt W' v (X33 * Y33)) => cmp_eq W' (Ia.kept h) hv rfl)
  have Oa := Lib.hid (fun W' => of_any (X33 * Y33) W' M1.out.1 M1.out.2)
  have Cb := Lib.hid (fun W' v (h : Below Ws.heap.size Ws W') (hv : IsInt W' v (X1 + Y1)) => cmp_eq W' (Ib.kept h) hv rfl)
  have Ob := Lib.hid (fun W' => of_any (X1 + Y1) W' M2.out.1 M2.out.2)
  obtain ⟨⟨a0, a1⟩, b0, b1⟩ := HK.out _ (Below.refl _ _)
  clear Ba Ia Bb Ib
  have hq : Below Ws.heap.size Ws Ws := Below.refl _ _
  have hqd : Below Ws.heap.size Ws Ws.drew := below_drewN (Below.refl _ _) 1
  go_region_held3 (fun w' => (w'.cell? ⟨Pp, 0, none⟩ = some (.bool sae) ∧ w'.cell? ⟨Pp, 1, none⟩ = some (.slice qae nae cae)) ∧ (w'.cell? ⟨Ps, 0, none⟩ = some (.bool sbe) ∧ w'.cell? ⟨Ps, 1, none⟩ = some (.slice qbe nbe cbe)))
    (first | exact HK.out _ hq | exact HK.out _ hqd)
    (first
      | (go_at_call_of 36 (Value.agg #[Value.bool sbe, Value.slice qbe nbe cbe]); refine (Cb.out _ _ (by exact hq) (by exact hzb.out)).mono ?_; rintro e zb ⟨rfl, hxb⟩; have hq : Below Ws.heap.size Ws zb := hq.trans (hxb.mono hq.size))
      | (go_at_call_of 30 (Value.int IntKind.i64 (X1 + Y1)); refine (Ob.out _).mono ?_; rintro e xb ⟨vb, rfl, hyb, hxb⟩; have hq : Below Ws.heap.size Ws xb := (by first | exact hxb | exact below_undrew hxb | exact hq.trans (hxb.mono hq.size)); obtain ⟨sx, qx, nx, cx, rfl, ix⟩ := can_form hyb; have hzb := Lib.hid ix; clear ix hyb)
      | (go_at_call_of 36 (Value.agg #[Value.bool sae, Value.slice qae nae cae]); refine (Ca.out _ _ (by exact hq) (by exact hza.out)).mono ?_; rintro e za ⟨rfl, hxa⟩; have hq : Below Ws.heap.size Ws za := hq.trans (hxa.mono hq.size))
      | (go_at_call_of 30 (Value.int IntKind.i64 (X33 * Y33)); refine (Oa.out _).mono ?_; rintro e xa ⟨va, rfl, hya, hxa⟩; have hq : Below Ws.heap.size Ws xa := (by first | exact hxa | exact below_undrew hxa | exact hq.trans (hxa.mono hq.size)); obtain ⟨sx, qx, nx, cx, rfl, ix⟩ := can_form hya; have hza := Lib.hid ix; clear ix hya))
  have VA := Lib.hid (VB.out.kept hq)
  have HB := Lib.hid (HC.out.trans (hq.mono HC.out.size))
  clear hq hqd hxa hza hxb hzb Ca Cb Oa Ob HK a0 a1 b0 b1 W1 W2 M1 M2 bx by_ bx1 by1 hX33 hY33 hX1 hY1 VB HC
  by_cases y0 : y = 0
  · have j1 : (y == (0 : Int)) = true := by simp [y0]
    clear y0
    go_wp2_with fail
    refine (awake_any zb).mono ?_
    rintro e u9 ⟨rfl, hx⟩
    have HB2 := HB.out.trans (hx.mono HB.out.size)
    clear hx HB
    go_wp2_with fail
    go_ret
    exact ⟨rfl, HB2⟩
  by_cases y9 : y = -1
  · have j1 : (y == (0 : Int)) = false := by simp [y0]
    have j2 : (y == (-1 : Int)) = true := by simp [y9]
    clear y0 y9
    go_wp2_with fail
    refine (awake_any zb).mono ?_
    rintro e u9 ⟨rfl, hx⟩
    have HB2 := HB.out.trans (hx.mono HB.out.size)
    clear hx HB
    go_wp2_with fail
    go_ret
    exact ⟨rfl, HB2⟩
  have j1 : (y == (0 : Int)) = false := by simp [y0]
  have j2 : (y == (-1 : Int)) = false := by simp [y9]
  have M1 := Lib.hid (wd_quo x1 x2 y0 y9)
  have M2 := Lib.hid (wd_rem (x := x) y1 y2 y0)
  obtain ⟨s0, q0, n0, c0, f00, f01, _, _, I0⟩ := var_out (VA.out (P, x) (by simp))
  obtain ⟨s1, q1, n1, c1, f10, f11, _, _, I1⟩ := var_out (VA.out (P + 1, y) (by simp))
  have call := quo_fine _ _ _ _ zb I0 I1 (not_big K1.out (by decide)) (not_big K2.out (by decide)) y0
  have W1 : IntKind.i64.wrap (x.tdiv y) = x.tdiv y := wd_wrap M1.out.1 M1.out.2
  obtain ⟨D, hD⟩ : ∃ D, x.tdiv y = D := ⟨_, rfl⟩
  obtain ⟨R, hR⟩ : ∃ R, x.tmod y = R := ⟨_, rfl⟩
  rw [hD] at call M1 W1
  rw [hR] at call M2
  have Y0 := Lib.hid y0
  clear y0 y9
  go_wp2_with fail
  refine call.mono ?_
  clear call
  rintro e u6 ⟨v6, v7, rfl, hc, hc2, hx⟩
  obtain ⟨s6, q6, n6, c6, rfl, i6⟩ := can_form hc
  obtain ⟨s7, q7, n7, c7, rfl, i7⟩ := can_form hc2
  have VB := Lib.hid (VA.out.kept hx)
  have HC := Lib.hid (HB.out.trans (hx.mono HB.out.size))
  clear hc hc2 hx VA HB I0 I1 f00 f01 f10 f11
  go_upto_region 18 with fail
  generalize hW : World.alloc _ _ = Wq
  obtain ⟨Pq, hP⟩ : ∃ P, u6.heap.size = P := ⟨_, rfl⟩
  rw [hP]
  have B6 : Blk Wq Pq #[.bool s6, .slice q6 n6 c6] := by rw [← hW, ← hP]; exact (blk_new rfl).alloc _
  have B7 : Blk Wq (Pq + 1) #[.bool s7, .slice q7 n7 c7] := by rw [← hW, ← hP]; exact blk_new (by simp)
  have hy : Below u6.heap.size u6 Wq := by rw [← hW]; exact ((Below.refl _ _).alloc (Nat.le_refl _) _).alloc (by simp) _
  have HB := Lib.hid (HC.out.trans (hy.mono HC.out.size))
  have VB := Lib.hid (show Vars Wq [(Pq, D), (Pq + 1, R)] by
    have h0 : Vars Wq [] := fun q hq => by cases hq
    exact (h0.cons (p := Pq + 1) (z := R) ⟨_, _, _, _, B7, i7.kept hy⟩).cons (p := Pq) (z := D) ⟨_, _, _, _, B6, i6.kept hy⟩)
  have y0 := Y0.out
  clear hW hP hy HC B6 B7 i6 i7
  obtain ⟨sce, qce, nce, cce, Bc, Ic⟩ := VB.out (Pq, D) (by simp)
  obtain ⟨sde, qde, nde, cde, Bd, Id⟩ := VB.out (Pq + 1, R) (by simp)
  have HK := Lib.hid (show ∀ w', Below Wq.heap.size Wq w' → (w'.cell? ⟨Pq, 0, none⟩ = some (.bool sce) ∧ w'.cell? ⟨Pq, 1, none⟩ = some (.slice qce nce cce)) ∧ (w'.cell? ⟨Pq + 1, 0, none⟩ = some (.bool sde) ∧ w'.cell? ⟨Pq + 1, 1, none⟩ = some (.slice qde nde cde)) from
    fun w1 h => ⟨Blk2 (Bc.kept h), Blk2 (Bd.kept h)⟩)
  have Cc := Lib.hid (fun W' v (h : Below Wq.heap.size Wq W') (hv : IsInt W' v (D)) => cmp_eq W' (Ic.kept h) hv rfl)
  have Oc := Lib.hid (fun W' => of_any (D) W' M1.out.1 M1.out.2)
  have Cd := Lib.hid (fun W' v (h : Below Wq.heap.size Wq W') (hv : IsInt W' v (R)) => cmp_eq W' (Id.kept h) hv rfl)
  have Od := Lib.hid (fun W' => of_any (R) W' M2.out.1 M2.out.2)
  obtain ⟨⟨c0, c1⟩, d0, d1⟩ := HK.out _ (Below.refl _ _)
  clear Bc Ic Bd Id
  have hq : Below Wq.heap.size Wq Wq := Below.refl _ _
  have hqd : Below Wq.heap.size Wq Wq.drew := below_drewN (Below.refl _ _) 1
  go_region_held3 (fun w' => (w'.cell? ⟨Pq, 0, none⟩ = some (.bool sce) ∧ w'.cell? ⟨Pq, 1, none⟩ = some (.slice qce nce cce)) ∧ (w'.cell? ⟨Pq + 1, 0, none⟩ = some (.bool sde) ∧ w'.cell? ⟨Pq + 1, 1, none⟩ = some (.slice qde nde cde)))
    (first | exact HK.out _ hq | exact HK.out _ hqd)
    (first
      | (go_at_call_of 36 (Value.agg #[Value.bool sde, Value.slice qde nde cde]); refine (Cd.out _ _ (by exact hq) (by exact hzd.out)).mono ?_; rintro e zd ⟨rfl, hxd⟩; have hq : Below Wq.heap.size Wq zd := hq.trans (hxd.mono hq.size))
      | (go_at_call_of 30 (Value.int IntKind.i64 (R)); refine (Od.out _).mono ?_; rintro e xd ⟨vd, rfl, hyd, hxd⟩; have hq : Below Wq.heap.size Wq xd := (by first | exact hxd | exact below_undrew hxd | exact hq.trans (hxd.mono hq.size)); obtain ⟨sx, qx, nx, cx, rfl, ix⟩ := can_form hyd; have hzd := Lib.hid ix; clear ix hyd)
      | (go_at_call_of 36 (Value.agg #[Value.bool sce, Value.slice qce nce cce]); refine (Cc.out _ _ (by exact hq) (by exact hzc.out)).mono ?_; rintro e zc ⟨rfl, hxc⟩; have hq : Below Wq.heap.size Wq zc := hq.trans (hxc.mono hq.size))
      | (go_at_call_of 30 (Value.int IntKind.i64 (D)); refine (Oc.out _).mono ?_; rintro e xc ⟨vc, rfl, hyc, hxc⟩; have hq : Below Wq.heap.size Wq xc := (by first | exact hxc | exact below_undrew hxc | exact hq.trans (hxc.mono hq.size)); obtain ⟨sx, qx, nx, cx, rfl, ix⟩ := can_form hyc; have hzc := Lib.hid ix; clear ix hyc))
  have HB2 : Below w.heap.size w zd := HB.out.trans (hq.mono HB.out.size)
  clear hq HB
  go_wp2_with fail
  go_ret
  exact ⟨rfl, HB2⟩
end Go.Proofs.Yteggfjahjanabaa

/-
  The walk of IntegerExact (written by wip/genex.py).
-/
import Derived.Test.YtmfimkndonlheaaM51
namespace Go.Proofs.Ytmfimkndonlheaa
open Go.RowKit PB

set_option maxHeartbeats 12800000 in
set_option maxRecDepth 100000 in
theorem ex_small (sa sb : Bool) (qa qb : Option Addr) (na nb ca cb : Nat) (a b : Int) (k : Int) (w : World) (ha : IsInt w (.agg #[.bool sa, .slice qa na ca]) a) (hb : IsInt w (.agg #[.bool sb, .slice qb nb cb]) b) (la : na ≤ 40) (lb : nb ≤ 40) (lk : k ≤ 4000) (lk2 : -9223372036854775808 ≤ k) :
    Calls Try.prog 3 #[.agg #[.bool sa, .slice qa na ca], .agg #[.bool sb, .slice qb nb cb], .int .i64 k] w fun e w' => e = .returned (.bool true) ∧ Below w.heap.size w w' := by
  have ka := sm_int ha la
  have kb := sm_int hb lb
  have i1 : decide ((4000 : Int) < k) = false := decide_eq_false (by omega)
  have F1 := Lib.hid (fun W => few_any sa qa na ca W)
  rw [decide_eq_true la] at F1
  have F2 := Lib.hid (fun W => few_any sb qb nb cb W)
  rw [decide_eq_true lb] at F2
  have C7 := Lib.hid (fun (W : World) (v1 v2 : Value) (h1 : IsInt W v1 a) (h2 : IsInt W v2 b) => add_sm W h1 h2 (sm_mono ka (by decide)) (sm_mono kb (by decide)))
  have C9 := Lib.hid (fun (W : World) (v1 v2 : Value) (h1 : IsInt W v1 a) (h2 : IsInt W v2 b) => sub_sm W h1 h2 (sm_mono ka (by decide)) (sm_mono kb (by decide)))
  have C11 := Lib.hid (fun (W : World) (v1 v2 : Value) (h1 : IsInt W v1 a) (h2 : IsInt W v2 b) => mul_sm W h1 h2 (sm_mono ka (by decide)) (sm_mono kb (by decide)))
  have C13 := Lib.hid (fun (W : World) (v1 v2 : Value) (h1 : IsInt W v1 a) (h2 : IsInt W v2 b) => quo_int W h1 h2 ka kb)
  have C16 := Lib.hid (fun (W : World) (v1 v2 : Value) (h1 : IsInt W v1 a) (h2 : IsInt W v2 b) => gcd_fine v1 v2 a b W h1 h2 (not_big ka (by decide)) (not_big kb (by decide)))
  have C18 := Lib.hid (fun (W : World) (v1 : Value) (h1 : IsInt W v1 a) => shift_int k W h1 ka lk)
  have C20 := Lib.hid (fun (W : World) (v1 v2 : Value) (h1 : IsInt W v1 a) (h2 : IsInt W v2 b) => add_rf W h1 h2 ka kb)
  have C22 := Lib.hid (fun (W : World) (v1 v2 : Value) (h1 : IsInt W v1 a) (h2 : IsInt W v2 b) => sub_rf W h1 h2 ka kb)
  have C24 := Lib.hid (fun (W : World) (v1 v2 : Value) (h1 : IsInt W v1 a) (h2 : IsInt W v2 b) => mul_rf W h1 h2 ka kb)
  have C26 := Lib.hid (fun (W : World) (v1 v2 : Value) (h1 : IsInt W v1 a) (h2 : IsInt W v2 b) => quo_rf W h1 h2 ka kb)
  have C29 := Lib.hid (fun (W : World) (v1 v2 : Value) (h1 : IsInt W v1 a) (h2 : IsInt W v2 b) => gcd_ref v1 v2 a b W h1 h2 (not_big ka (by decide)) (not_big kb (by decide)))
  have C31 := Lib.hid (fun (W : World) (v1 : Value) (h1 : IsInt W v1 a) => shift_rf k W h1 ka lk)
  have T1 := Lib.hid (fun (W : World) (v1 : Value) (h1 : IsInt W v1 a) => trim_any v1 a W h1)
  have T2 := Lib.hid (fun (W : World) (v1 : Value) (h1 : IsInt W v1 a) => trim_ref v1 a W h1)
  have T3 := Lib.hid (fun (W : World) (v1 : Value) (h1 : IsInt W v1 a) => neg_any v1 a W h1)
  have T4 := Lib.hid (fun (W : World) (v1 : Value) (h1 : IsInt W v1 a) => neg_ref v1 a W h1)
  have T5 := Lib.hid (fun (W : World) => of_any k W lk2 (by omega))
  have T6 := Lib.hid (fun (W : World) => of_ref k W lk2 (by omega))
  have S1 := Lib.hid (fun (W : World) (v1 : Value) (h1 : IsInt W v1 a) => sign_any v1 a W h1)
  have S2 := Lib.hid (fun (W : World) (v1 : Value) (h1 : IsInt W v1 a) => sign_ref v1 a W h1)
  have S3 := Lib.hid (fun (W : World) (v1 : Value) (h1 : IsInt W v1 a) => bits_any v1 a W h1)
  have S4 := Lib.hid (fun (W : World) (v1 : Value) (h1 : IsInt W v1 a) => bits_ref v1 a W h1)
  have S5 := Lib.hid (fun (W : World) (v1 v2 : Value) (h1 : IsInt W v1 a) (h2 : IsInt W v2 b) => cmp_any v1 v2 a b W h1 h2)
  have S6 := Lib.hid (fun (W : World) (v1 v2 : Value) (h1 : IsInt W v1 a) (h2 : IsInt W v2 b) => cmp_ref v1 v2 a b W h1 h2)
  obtain ⟨zs, hzs⟩ : ∃ z : Int, a + b = z := ⟨_, rfl⟩
  rw [hzs] at C7
  rw [hzs] at C20
  clear hzs
  obtain ⟨zd, hzd⟩ : ∃ z : Int, a - b = z := ⟨_, rfl⟩
  rw [hzd] at C9
  rw [hzd] at C22
  clear hzd
  obtain ⟨zp, hzp⟩ : ∃ z : Int, a * b = z := ⟨_, rfl⟩
  rw [hzp] at C11
  rw [hzp] at C24
  clear hzp
  obtain ⟨zq, hzq⟩ : ∃ z : Int, qv a b = z := ⟨_, rfl⟩
  rw [hzq] at C13
  rw [hzq] at C26
  clear hzq
  obtain ⟨zr, hzr⟩ : ∃ z : Int, rv a b = z := ⟨_, rfl⟩
  rw [hzr] at C13
  rw [hzr] at C26
  clear hzr
  obtain ⟨er, her⟩ : ∃ z : Int, qe b = z := ⟨_, rfl⟩
  rw [her] at C13
  rw [her] at C26
  clear her
  obtain ⟨zg, hzg⟩ : ∃ z : Int, ((Nat.gcd a.natAbs b.natAbs : Nat) : Int) = z := ⟨_, rfl⟩
  rw [hzg] at C16
  rw [hzg] at C29
  clear hzg
  obtain ⟨zh, hzh⟩ : ∃ z : Int, shv a k = z := ⟨_, rfl⟩
  rw [hzh] at C18
  rw [hzh] at C31
  clear hzh
  obtain ⟨zn, hzn⟩ : ∃ z : Int, -a = z := ⟨_, rfl⟩
  rw [hzn] at T3
  rw [hzn] at T4
  clear hzn
  obtain ⟨g1, hg1⟩ : ∃ z : Int, a.sign = z := ⟨_, rfl⟩
  rw [hg1] at S1
  rw [hg1] at S2
  clear hg1
  obtain ⟨g2, hg2⟩ : ∃ z : Int, ((bl a.natAbs : Nat) : Int) = z := ⟨_, rfl⟩
  rw [hg2] at S3
  rw [hg2] at S4
  clear hg2
  obtain ⟨g3, hg3⟩ : ∃ z : Int, cmpi a b = z := ⟨_, rfl⟩
  rw [hg3] at S5
  rw [hg3] at S6
  clear hg3
  have t1 : (g1 == g1) = true := by simp
  have t2 : (g2 == g2) = true := by simp
  have t3 : (g3 == g3) = true := by simp
  clear la lb lk lk2 ka kb
  go_enter Try.func3, Try.ntmps3
  go_upto_region 1 with fail
  generalize hW : World.alloc _ _ = W
  obtain ⟨N, hN⟩ : ∃ N, w.heap.size = N := ⟨_, rfl⟩
  have B0 : Blk W N #[.bool sa, .slice qa na ca] := by rw [← hW, ← hN]; exact (blk_new rfl).alloc _
  have B1 : Blk W (N + 1) #[.bool sb, .slice qb nb cb] := by rw [← hW, ← hN]; exact blk_new (by simp)
  have HB := Lib.hid (show Below w.heap.size w W by rw [← hW]; exact bs_alloc (bs_alloc (Below.refl _ _) _) _)
  have HK := Lib.hid (show ∀ w1, Below W.heap.size W w1 → ((w1.cell? ⟨N, 0, none⟩ = some (.bool sa) ∧ w1.cell? ⟨N, 1, none⟩ = some (.slice qa na ca)) ∧ (w1.cell? ⟨N + 1, 0, none⟩ = some (.bool sb) ∧ w1.cell? ⟨N + 1, 1, none⟩ = some (.slice qb nb cb))) ∧ IsInt w1 (.agg #[.bool sa, .slice qa na ca]) a ∧ IsInt w1 (.agg #[.bool sb, .slice qb nb cb]) b from fun w1 h => ⟨⟨Blk2 (B0.kept h), Blk2 (B1.kept h)⟩, (ha.kept HB.out).kept h, (hb.kept HB.out).kept h⟩)
  rw [hN]
  clear hW hN B0 B1 ha hb
  go_wp2_with fail
  refine (awake_any W).mono ?_
  rintro e u0 ⟨rfl, hx⟩
  have HQ := Lib.hid hx
  clear hx
  obtain ⟨⟨⟨a0, a1⟩, b0, b1⟩, _⟩ := HK.out _ HQ.out
  go_wp2_with fail
  refine (F1.out u0).mono ?_
  rintro e u1 ⟨rfl, hx⟩
  have HR := Lib.hid (bs_trans HQ.out hx)
  clear hx HQ a0 a1 b0 b1
  have HQ := HR
  clear HR
  obtain ⟨⟨⟨a0, a1⟩, b0, b1⟩, _⟩ := HK.out _ HQ.out
  go_wp2_with fail
  refine (F2.out u1).mono ?_
  rintro e u2 ⟨rfl, hx⟩
  have HR := Lib.hid (bs_trans HQ.out hx)
  clear hx HQ a0 a1 b0 b1
  have HQ := HR
  clear HR
  have VA := Lib.hid (cvars_nil u2)
  obtain ⟨⟨⟨a0, a1⟩, b0, b1⟩, ia, ib⟩ := HK.out _ HQ.out
  go_wp2_with fail
  refine (C7.out u2 _ _ ia ib).mono ?_
  rintro e x7 ⟨v, rfl, hc, hx⟩
  obtain ⟨s7, q7, n7, c7, rfl, i⟩ := can_form3 hc
  have VB := Lib.hid (VA.out.kept hx)
  have HR := Lib.hid (bs_trans HQ.out hx)
  clear hc hx a0 a1 b0 b1 ia ib VA HQ C7
  go_upto_region 6 with fail
  generalize hW : World.alloc _ _ = y7
  obtain ⟨P7, hP⟩ : ∃ P, x7.heap.size = P := ⟨_, rfl⟩
  rw [hP]
  have hy : Below x7.heap.size x7 y7 := by rw [← hW]; exact bs_alloc (Below.refl _ _) _
  have bl : Blk y7 P7 #[.bool s7, .slice q7 n7 c7] := by rw [← hW, ← hP]; exact blk_new rfl
  have VA := Lib.hid ((VB.out.kept hy).cons ⟨_, _, _, _, _, bl, i.kept hy⟩)
  have HQ := Lib.hid (bs_trans HR.out hy)
  clear hW hP hy bl VB HR i
  obtain ⟨⟨⟨a0, a1⟩, b0, b1⟩, ia, ib⟩ := HK.out _ HQ.out
  go_wp2_with fail
  refine (C9.out y7 _ _ ia ib).mono ?_
  rintro e x9 ⟨v, rfl, hc, hx⟩
  obtain ⟨s9, q9, n9, c9, rfl, i⟩ := can_form3 hc
  have VB := Lib.hid (VA.out.kept hx)
  have HR := Lib.hid (bs_trans HQ.out hx)
  clear hc hx a0 a1 b0 b1 ia ib VA HQ C9
  go_upto_region 7 with fail
  generalize hW : World.alloc _ _ = y9
  obtain ⟨P9, hP⟩ : ∃ P, x9.heap.size = P := ⟨_, rfl⟩
  rw [hP]
  have hy : Below x9.heap.size x9 y9 := by rw [← hW]; exact bs_alloc (Below.refl _ _) _
  have bl : Blk y9 P9 #[.bool s9, .slice q9 n9 c9] := by rw [← hW, ← hP]; exact blk_new rfl
  have VA := Lib.hid ((VB.out.kept hy).cons ⟨_, _, _, _, _, bl, i.kept hy⟩)
  have HQ := Lib.hid (bs_trans HR.out hy)
  clear hW hP hy bl VB HR i
  obtain ⟨⟨⟨a0, a1⟩, b0, b1⟩, ia, ib⟩ := HK.out _ HQ.out
  go_wp2_with fail
  refine (C11.out y9 _ _ ia ib).mono ?_
  rintro e x11 ⟨v, rfl, hc, hx⟩
  obtain ⟨s11, q11, n11, c11, rfl, i⟩ := can_form3 hc
  have VB := Lib.hid (VA.out.kept hx)
  have HR := Lib.hid (bs_trans HQ.out hx)
  clear hc hx a0 a1 b0 b1 ia ib VA HQ C11
  go_upto_region 8 with fail
  generalize hW : World.alloc _ _ = y11
  obtain ⟨P11, hP⟩ : ∃ P, x11.heap.size = P := ⟨_, rfl⟩
  rw [hP]
  have hy : Below x11.heap.size x11 y11 := by rw [← hW]; exact bs_alloc (Below.refl _ _) _
  have bl : Blk y11 P11 #[.bool s11, .slice q11 n11 c11] := by rw [← hW, ← hP]; exact blk_new rfl
  have VA := Lib.hid ((VB.out.kept hy).cons ⟨_, _, _, _, _, bl, i.kept hy⟩)
  have HQ := Lib.hid (bs_trans HR.out hy)
  clear hW hP hy bl VB HR i
  obtain ⟨⟨⟨a0, a1⟩, b0, b1⟩, ia, ib⟩ := HK.out _ HQ.out
  go_wp2_with fail
  refine (C13.out y11 _ _ ia ib).mono ?_
  rintro e x13 ⟨v, v', rfl, hc, hc', hx⟩
  obtain ⟨s13, q13, n13, c13, rfl, i⟩ := can_form3 hc
  obtain ⟨s14, q14, n14, c14, rfl, i'⟩ := can_form3 hc'
  clear hc'
  have VB := Lib.hid (VA.out.kept hx)
  have HR := Lib.hid (bs_trans HQ.out hx)
  clear hc hx a0 a1 b0 b1 ia ib VA HQ C13
  go_upto_region 9 with fail
  generalize hW : World.alloc _ _ = y13
  obtain ⟨P13, hP⟩ : ∃ P, x13.heap.size = P := ⟨_, rfl⟩
  rw [hP]
  have hy : Below x13.heap.size x13 y13 := by rw [← hW]; exact bs_alloc (bs_alloc (Below.refl _ _) _) _
  have bl : Blk y13 P13 #[.bool s13, .slice q13 n13 c13] := by rw [← hW, ← hP]; exact (blk_new rfl).alloc _
  have bl' : Blk y13 (P13 + 1) #[.bool s14, .slice q14 n14 c14] := by rw [← hW, ← hP]; exact blk_new (by simp)
  have VA := Lib.hid (((VB.out.kept hy).cons ⟨_, _, _, _, _, bl, i.kept hy⟩).cons ⟨_, _, _, _, _, bl', i'.kept hy⟩)
  clear bl' i'
  have HQ := Lib.hid (bs_trans HR.out hy)
  clear hW hP hy bl VB HR i
  obtain ⟨⟨⟨a0, a1⟩, b0, b1⟩, ia, ib⟩ := HK.out _ HQ.out
  go_wp2_with fail
  refine (C16.out y13 _ _ ia ib).mono ?_
  rintro e x16 ⟨v, rfl, hc, hx⟩
  obtain ⟨s16, q16, n16, c16, rfl, i⟩ := can_form3 hc
  have VB := Lib.hid (VA.out.kept hx)
  have HR := Lib.hid (bs_trans HQ.out hx)
  clear hc hx a0 a1 b0 b1 ia ib VA HQ C16
  go_upto_region 10 with fail
  generalize hW : World.alloc _ _ = y16
  obtain ⟨P16, hP⟩ : ∃ P, x16.heap.size = P := ⟨_, rfl⟩
  rw [hP]
  have hy : Below x16.heap.size x16 y16 := by rw [← hW]; exact bs_alloc (Below.refl _ _) _
  have bl : Blk y16 P16 #[.bool s16, .slice q16 n16 c16] := by rw [← hW, ← hP]; exact blk_new rfl
  have VA := Lib.hid ((VB.out.kept hy).cons ⟨_, _, _, _, _, bl, i.kept hy⟩)
  have HQ := Lib.hid (bs_trans HR.out hy)
  clear hW hP hy bl VB HR i
  obtain ⟨⟨⟨a0, a1⟩, b0, b1⟩, ia, ib⟩ := HK.out _ HQ.out
  go_wp2_with fail
  refine (C18.out y16 _ ia).mono ?_
  rintro e x18 ⟨v, rfl, hc, hx⟩
  obtain ⟨s18, q18, n18, c18, rfl, i⟩ := can_form3 hc
  have VB := Lib.hid (VA.out.kept hx)
  have HR := Lib.hid (bs_trans HQ.out hx)
  clear hc hx a0 a1 b0 b1 ia ib VA HQ C18
  go_upto_region 11 with fail
  generalize hW : World.alloc _ _ = y18
  obtain ⟨P18, hP⟩ : ∃ P, x18.heap.size = P := ⟨_, rfl⟩
  rw [hP]
  have hy : Below x18.heap.size x18 y18 := by rw [← hW]; exact bs_alloc (Below.refl _ _) _
  have bl : Blk y18 P18 #[.bool s18, .slice q18 n18 c18] := by rw [← hW, ← hP]; exact blk_new rfl
  have VA := Lib.hid ((VB.out.kept hy).cons ⟨_, _, _, _, _, bl, i.kept hy⟩)
  have HQ := Lib.hid (bs_trans HR.out hy)
  clear hW hP hy bl VB HR i
  obtain ⟨⟨⟨a0, a1⟩, b0, b1⟩, ia, ib⟩ := HK.out _ HQ.out
  go_wp2_with fail
  refine (C20.out y18 _ _ ia ib).mono ?_
  rintro e x20 ⟨v, rfl, hc, hx⟩
  obtain ⟨s20, q20, n20, c20, rfl, i⟩ := can_form3 hc
  have VB := Lib.hid (VA.out.kept hx)
  have HR := Lib.hid (bs_trans HQ.out hx)
  clear hc hx a0 a1 b0 b1 ia ib VA HQ C20
  go_upto_region 12 with fail
  generalize hW : World.alloc _ _ = y20
  obtain ⟨P20, hP⟩ : ∃ P, x20.heap.size = P := ⟨_, rfl⟩
  rw [hP]
  have hy : Below x20.heap.size x20 y20 := by rw [← hW]; exact bs_alloc (Below.refl _ _) _
  have bl : Blk y20 P20 #[.bool s20, .slice q20 n20 c20] := by rw [← hW, ← hP]; exact blk_new rfl
  have VA := Lib.hid ((VB.out.kept hy).cons ⟨_, _, _, _, _, bl, i.kept hy⟩)
  have HQ := Lib.hid (bs_trans HR.out hy)
  clear hW hP hy bl VB HR i
  obtain ⟨⟨⟨a0, a1⟩, b0, b1⟩, ia, ib⟩ := HK.out _ HQ.out
  go_wp2_with fail
  refine (C22.out y20 _ _ ia ib).mono ?_
  rintro e x22 ⟨v, rfl, hc, hx⟩
  obtain ⟨s22, q22, n22, c22, rfl, i⟩ := can_form3 hc
  have VB := Lib.hid (VA.out.kept hx)
  have HR := Lib.hid (bs_trans HQ.out hx)
  clear hc hx a0 a1 b0 b1 ia ib VA HQ C22
  go_upto_region 13 with fail
  generalize hW : World.alloc _ _ = y22
  obtain ⟨P22, hP⟩ : ∃ P, x22.heap.size = P := ⟨_, rfl⟩
  rw [hP]
  have hy : Below x22.heap.size x22 y22 := by rw [← hW]; exact bs_alloc (Below.refl _ _) _
  have bl : Blk y22 P22 #[.bool s22, .slice q22 n22 c22] := by rw [← hW, ← hP]; exact blk_new rfl
  have VA := Lib.hid ((VB.out.kept hy).cons ⟨_, _, _, _, _, bl, i.kept hy⟩)
  have HQ := Lib.hid (bs_trans HR.out hy)
  clear hW hP hy bl VB HR i
  obtain ⟨⟨⟨a0, a1⟩, b0, b1⟩, ia, ib⟩ := HK.out _ HQ.out
  go_wp2_with fail
  refine (C24.out y22 _ _ ia ib).mono ?_
  rintro e x24 ⟨v, rfl, hc, hx⟩
  obtain ⟨s24, q24, n24, c24, rfl, i⟩ := can_form3 hc
  have VB := Lib.hid (VA.out.kept hx)
  have HR := Lib.hid (bs_trans HQ.out hx)
  clear hc hx a0 a1 b0 b1 ia ib VA HQ C24
  go_upto_region 14 with fail
  generalize hW : World.alloc _ _ = y24
  obtain ⟨P24, hP⟩ : ∃ P, x24.heap.size = P := ⟨_, rfl⟩
  rw [hP]
  have hy : Below x24.heap.size x24 y24 := by rw [← hW]; exact bs_alloc (Below.refl _ _) _
  have bl : Blk y24 P24 #[.bool s24, .slice q24 n24 c24] := by rw [← hW, ← hP]; exact blk_new rfl
  have VA := Lib.hid ((VB.out.kept hy).cons ⟨_, _, _, _, _, bl, i.kept hy⟩)
  have HQ := Lib.hid (bs_trans HR.out hy)
  clear hW hP hy bl VB HR i
  obtain ⟨⟨⟨a0, a1⟩, b0, b1⟩, ia, ib⟩ := HK.out _ HQ.out
  go_wp2_with fail
  refine (C26.out y24 _ _ ia ib).mono ?_
  rintro e x26 ⟨v, v', rfl, hc, hc', hx⟩
  obtain ⟨s26, q26, n26, c26, rfl, i⟩ := can_form3 hc
  obtain ⟨s27, q27, n27, c27, rfl, i'⟩ := can_form3 hc'
  clear hc'
  have VB := Lib.hid (VA.out.kept hx)
  have HR := Lib.hid (bs_trans HQ.out hx)
  clear hc hx a0 a1 b0 b1 ia ib VA HQ C26
  go_upto_region 15 with fail
  generalize hW : World.alloc _ _ = y26
  obtain ⟨P26, hP⟩ : ∃ P, x26.heap.size = P := ⟨_, rfl⟩
  rw [hP]
  have hy : Below x26.heap.size x26 y26 := by rw [← hW]; exact bs_alloc (bs_alloc (Below.refl _ _) _) _
  have bl : Blk y26 P26 #[.bool s26, .slice q26 n26 c26] := by rw [← hW, ← hP]; exact (blk_new rfl).alloc _
  have bl' : Blk y26 (P26 + 1) #[.bool s27, .slice q27 n27 c27] := by rw [← hW, ← hP]; exact blk_new (by simp)
  have VA := Lib.hid (((VB.out.kept hy).cons ⟨_, _, _, _, _, bl, i.kept hy⟩).cons ⟨_, _, _, _, _, bl', i'.kept hy⟩)
  clear bl' i'
  have HQ := Lib.hid (bs_trans HR.out hy)
  clear hW hP hy bl VB HR i
  obtain ⟨⟨⟨a0, a1⟩, b0, b1⟩, ia, ib⟩ := HK.out _ HQ.out
  go_wp2_with fail
  refine (C29.out y26 _ _ ia ib).mono ?_
  rintro e x29 ⟨v, rfl, hc, hx⟩
  obtain ⟨s29, q29, n29, c29, rfl, i⟩ := can_form3 hc
  have VB := Lib.hid (VA.out.kept hx)
  have HR := Lib.hid (bs_trans HQ.out hx)
  clear hc hx a0 a1 b0 b1 ia ib VA HQ C29
  go_upto_region 16 with fail
  generalize hW : World.alloc _ _ = y29
  obtain ⟨P29, hP⟩ : ∃ P, x29.heap.size = P := ⟨_, rfl⟩
  rw [hP]
  have hy : Below x29.heap.size x29 y29 := by rw [← hW]; exact bs_alloc (Below.refl _ _) _
  have bl : Blk y29 P29 #[.bool s29, .slice q29 n29 c29] := by rw [← hW, ← hP]; exact blk_new rfl
  have VA := Lib.hid ((VB.out.kept hy).cons ⟨_, _, _, _, _, bl, i.kept hy⟩)
  have HQ := Lib.hid (bs_trans HR.out hy)
  clear hW hP hy bl VB HR i
  obtain ⟨⟨⟨a0, a1⟩, b0, b1⟩, ia, ib⟩ := HK.out _ HQ.out
  go_wp2_with fail
  refine (C31.out y29 _ ia).mono ?_
  rintro e x31 ⟨v, rfl, hc, hx⟩
  obtain ⟨s31, q31, n31, c31, rfl, i⟩ := can_form3 hc
  have VB := Lib.hid (VA.out.kept hx)
  have HR := Lib.hid (bs_trans HQ.out hx)
  clear hc hx a0 a1 b0 b1 ia ib VA HQ C31
  go_upto_region 17 with fail
  generalize hW : World.alloc _ _ = y31
  obtain ⟨P31, hP⟩ : ∃ P, x31.heap.size = P := ⟨_, rfl⟩
  rw [hP]
  have hy : Below x31.heap.size x31 y31 := by rw [← hW]; exact bs_alloc (Below.refl _ _) _
  have bl : Blk y31 P31 #[.bool s31, .slice q31 n31 c31] := by rw [← hW, ← hP]; exact blk_new rfl
  have VA := Lib.hid ((VB.out.kept hy).cons ⟨_, _, _, _, _, bl, i.kept hy⟩)
  have HQ := Lib.hid (bs_trans HR.out hy)
  clear hW hP hy bl VB HR i
  obtain ⟨s1, q1, n1, c1, N1, f10, f11, C1⟩ := cvar_out (VA.out (P7, zs) (by simp))
  obtain ⟨s2, q2, n2, c2, N2, f20, f21, C2⟩ := cvar_out (VA.out (P20, zs) (by simp))
  go_wp2_with fail
  refine (same_yes N1 N2 s1 s2 q1 q2 n1 c1 n2 c2 zs 0 y31 C1 C2).mono ?_
  rintro e m0 ⟨rfl, hx⟩
  have VB := Lib.hid (VA.out.kept hx)
  have HR := Lib.hid (bs_trans HQ.out hx)
  clear hx C1 C2 f10 f11 f20 f21 VA HQ
  have VA := VB
  have HQ := HR
  clear VB HR
  obtain ⟨s1, q1, n1, c1, N1, f10, f11, C1⟩ := cvar_out (VA.out (P9, zd) (by simp))
  obtain ⟨s2, q2, n2, c2, N2, f20, f21, C2⟩ := cvar_out (VA.out (P22, zd) (by simp))
  go_wp2_with fail
  refine (same_yes N1 N2 s1 s2 q1 q2 n1 c1 n2 c2 zd 0 m0 C1 C2).mono ?_
  rintro e m1 ⟨rfl, hx⟩
  have VB := Lib.hid (VA.out.kept hx)
  have HR := Lib.hid (bs_trans HQ.out hx)
  clear hx C1 C2 f10 f11 f20 f21 VA HQ
  have VA := VB
  have HQ := HR
  clear VB HR
  obtain ⟨s1, q1, n1, c1, N1, f10, f11, C1⟩ := cvar_out (VA.out (P11, zp) (by simp))
  obtain ⟨s2, q2, n2, c2, N2, f20, f21, C2⟩ := cvar_out (VA.out (P24, zp) (by simp))
  go_wp2_with fail
  refine (same_yes N1 N2 s1 s2 q1 q2 n1 c1 n2 c2 zp 0 m1 C1 C2).mono ?_
  rintro e m2 ⟨rfl, hx⟩
  have VB := Lib.hid (VA.out.kept hx)
  have HR := Lib.hid (bs_trans HQ.out hx)
  clear hx C1 C2 f10 f11 f20 f21 VA HQ
  have VA := VB
  have HQ := HR
  clear VB HR
  obtain ⟨s1, q1, n1, c1, N1, f10, f11, C1⟩ := cvar_out (VA.out (P13, zq) (by simp))
  obtain ⟨s2, q2, n2, c2, N2, f20, f21, C2⟩ := cvar_out (VA.out (P26, zq) (by simp))
  go_wp2_with fail
  refine (same_yes N1 N2 s1 s2 q1 q2 n1 c1 n2 c2 zq er m2 C1 C2).mono ?_
  rintro e m3 ⟨rfl, hx⟩
  have VB := Lib.hid (VA.out.kept hx)
  have HR := Lib.hid (bs_trans HQ.out hx)
  clear hx C1 C2 f10 f11 f20 f21 VA HQ
  have VA := VB
  have HQ := HR
  clear VB HR
  obtain ⟨s1, q1, n1, c1, N1, f10, f11, C1⟩ := cvar_out (VA.out (P13 + 1, zr) (by simp))
  obtain ⟨s2, q2, n2, c2, N2, f20, f21, C2⟩ := cvar_out (VA.out (P26 + 1, zr) (by simp))
  go_wp2_with fail
  refine (same_ref N1 N2 _ _ zr m3 C1 C2).mono ?_
  rintro e m4 ⟨rfl, hx⟩
  have VB := Lib.hid (VA.out.kept hx)
  have HR := Lib.hid (bs_trans HQ.out hx)
  clear hx C1 C2 f10 f11 f20 f21 VA HQ
  have VA := VB
  have HQ := HR
  clear VB HR
  obtain ⟨s1, q1, n1, c1, N1, f10, f11, C1⟩ := cvar_out (VA.out (P16, zg) (by simp))
  obtain ⟨s2, q2, n2, c2, N2, f20, f21, C2⟩ := cvar_out (VA.out (P29, zg) (by simp))
  go_wp2_with fail
  refine (same_yes N1 N2 s1 s2 q1 q2 n1 c1 n2 c2 zg 0 m4 C1 C2).mono ?_
  rintro e m5 ⟨rfl, hx⟩
  have VB := Lib.hid (VA.out.kept hx)
  have HR := Lib.hid (bs_trans HQ.out hx)
  clear hx C1 C2 f10 f11 f20 f21 VA HQ
  have VA := VB
  have HQ := HR
  clear VB HR
  obtain ⟨s1, q1, n1, c1, N1, f10, f11, C1⟩ := cvar_out (VA.out (P18, zh) (by simp))
  obtain ⟨s2, q2, n2, c2, N2, f20, f21, C2⟩ := cvar_out (VA.out (P31, zh) (by simp))
  go_wp2_with fail
  refine (same_yes N1 N2 s1 s2 q1 q2 n1 c1 n2 c2 zh 0 m5 C1 C2).mono ?_
  rintro e m6 ⟨rfl, hx⟩
  have VB := Lib.hid (VA.out.kept hx)
  have HR := Lib.hid (bs_trans HQ.out hx)
  clear hx C1 C2 f10 f11 f20 f21 VA HQ
  have VA := VB
  have HQ := HR
  clear VB HR
  clear VA
  go_upto_region 18 with fail
  have HB2 := Lib.hid (bs_trans HB.out HQ.out)
  have HK2 := Lib.hid (show ∀ w1, Below m6.heap.size m6 w1 → (((w1.cell? ⟨N, 0, none⟩ = some (.bool sa) ∧ w1.cell? ⟨N, 1, none⟩ = some (.slice qa na ca)) ∧ (w1.cell? ⟨N + 1, 0, none⟩ = some (.bool sb) ∧ w1.cell? ⟨N + 1, 1, none⟩ = some (.slice qb nb cb))) ∧ IsInt w1 (.agg #[.bool sa, .slice qa na ca]) a ∧ IsInt w1 (.agg #[.bool sb, .slice qb nb cb]) b) from fun w1 h => HK.out _ (bs_trans HQ.out h))
  obtain ⟨⟨⟨a0, a1⟩, b0, b1⟩, ia, ib⟩ := HK2.out _ (Below.refl _ _)
  have hq0 : Below m6.heap.size m6 m6 := Below.refl _ _
  clear HK HQ HB
  go_region_held3 (fun w' => w'.cell? ⟨N, 0, none⟩ = some (.bool sa) ∧ w'.cell? ⟨N, 1, none⟩ = some (.slice qa na ca))
    (first | exact ⟨a0, a1⟩ | exact (HK2.out _ hq).1.1)
    (first
      | (go_at_call 25; refine (same_ref _ _ _ _ k _ (by exact H5.out) (by exact H6.out)).mono ?_; rintro e r9 ⟨rfl, hx⟩; have hq : Below m6.heap.size m6 r9 := bs_trans (by (repeat (first | with_reducible assumption | with_reducible exact Below.refl _ _ | with_reducible refine bs_alloc ?_ _ | with_reducible refine bs_drew ?_ | with_reducible refine bs_set ?_ ?_ _))) (by first | exact hx | exact below_undrew hx))
      | (go_at_call 31; refine (T6.out _).mono ?_; rintro e r8 ⟨v6, rfl, hc, hx⟩; have hq : Below m6.heap.size m6 r8 := bs_trans (by (repeat (first | with_reducible assumption | with_reducible exact Below.refl _ _ | with_reducible refine bs_alloc ?_ _ | with_reducible refine bs_drew ?_ | with_reducible refine bs_set ?_ ?_ _))) (by first | exact hx | exact below_undrew hx); have H5 := Lib.hid (H5.out.kept (by first | exact hx | exact below_undrew hx)); have H6 := Lib.hid hc; clear hc hx)
      | (go_at_call 30; refine (T5.out _).mono ?_; rintro e r7 ⟨v5, rfl, hc, hx⟩; have hq : Below m6.heap.size m6 r7 := bs_trans (by (repeat (first | with_reducible assumption | with_reducible exact Below.refl _ _ | with_reducible refine bs_alloc ?_ _ | with_reducible refine bs_drew ?_ | with_reducible refine bs_set ?_ ?_ _))) (by first | exact hx | exact below_undrew hx); have H5 := Lib.hid hc; clear hc hx)
      | (go_at_call 25; refine (same_ref _ _ _ _ zn _ (by exact H3.out) (by exact H4.out)).mono ?_; rintro e r6 ⟨rfl, hx⟩; have hq : Below m6.heap.size m6 r6 := bs_trans (by (repeat (first | with_reducible assumption | with_reducible exact Below.refl _ _ | with_reducible refine bs_alloc ?_ _ | with_reducible refine bs_drew ?_ | with_reducible refine bs_set ?_ ?_ _))) (by first | exact hx | exact below_undrew hx))
      | (go_at_call 29; refine (T4.out _ _ (by exact (HK2.out _ hq).2.1)).mono ?_; rintro e r5 ⟨v4, rfl, hc, hx⟩; have hq : Below m6.heap.size m6 r5 := bs_trans (by (repeat (first | with_reducible assumption | with_reducible exact Below.refl _ _ | with_reducible refine bs_alloc ?_ _ | with_reducible refine bs_drew ?_ | with_reducible refine bs_set ?_ ?_ _))) (by first | exact hx | exact below_undrew hx); have H3 := Lib.hid (H3.out.kept (by first | exact hx | exact below_undrew hx)); have H4 := Lib.hid hc; clear hc hx)
      | (go_at_call 28; refine (T3.out _ _ (by exact (HK2.out _ hq).2.1)).mono ?_; rintro e r4 ⟨v3, rfl, hc, hx⟩; have hq : Below m6.heap.size m6 r4 := bs_trans (by (repeat (first | with_reducible assumption | with_reducible exact Below.refl _ _ | with_reducible refine bs_alloc ?_ _ | with_reducible refine bs_drew ?_ | with_reducible refine bs_set ?_ ?_ _))) (by first | exact hx | exact below_undrew hx); have H3 := Lib.hid hc; clear hc hx)
      | (go_at_call 25; refine (same_ref _ _ _ _ a _ (by exact H1.out) (by exact H2.out)).mono ?_; rintro e r3 ⟨rfl, hx⟩; have hq : Below m6.heap.size m6 r3 := bs_trans (by (repeat (first | with_reducible assumption | with_reducible exact Below.refl _ _ | with_reducible refine bs_alloc ?_ _ | with_reducible refine bs_drew ?_ | with_reducible refine bs_set ?_ ?_ _))) (by first | exact hx | exact below_undrew hx))
      | (go_at_call 27; refine (T2.out _ _ (by exact (HK2.out _ hq).2.1)).mono ?_; rintro e r2 ⟨v2, rfl, hc, hx⟩; have hq : Below m6.heap.size m6 r2 := bs_trans (by (repeat (first | with_reducible assumption | with_reducible exact Below.refl _ _ | with_reducible refine bs_alloc ?_ _ | with_reducible refine bs_drew ?_ | with_reducible refine bs_set ?_ ?_ _))) (by first | exact hx | exact below_undrew hx); have H1 := Lib.hid (H1.out.kept (by first | exact hx | exact below_undrew hx)); have H2 := Lib.hid hc; clear hc hx)
      | (go_at_call 26; refine (T1.out _ _ (by exact (HK2.out _ (by first | exact hq0 | exact hq0.drew)).2.1)).mono ?_; rintro e r1 ⟨v1, rfl, hc, hx⟩; have hq : Below m6.heap.size m6 r1 := bs_trans (by (repeat (first | with_reducible assumption | with_reducible exact Below.refl _ _ | with_reducible refine bs_alloc ?_ _ | with_reducible refine bs_drew ?_ | with_reducible refine bs_set ?_ ?_ _))) (by first | exact hx | exact below_undrew hx); have H1 := Lib.hid hc; clear hc hx)
      | fail "no arm")
  have hqr := hq
  clear hq
  go_upto_region 19 with fail
  have HB3 := Lib.hid (bs_trans HB2.out hqr)
  have HK3 := Lib.hid (show ∀ w1, Below r9.heap.size r9 w1 → (((w1.cell? ⟨N, 0, none⟩ = some (.bool sa) ∧ w1.cell? ⟨N, 1, none⟩ = some (.slice qa na ca)) ∧ (w1.cell? ⟨N + 1, 0, none⟩ = some (.bool sb) ∧ w1.cell? ⟨N + 1, 1, none⟩ = some (.slice qb nb cb))) ∧ IsInt w1 (.agg #[.bool sa, .slice qa na ca]) a ∧ IsInt w1 (.agg #[.bool sb, .slice qb nb cb]) b) from fun w1 h => HK2.out _ (bs_trans hqr h))
  clear HK2 HB2 hqr a0 a1 b0 b1
  obtain ⟨⟨⟨a0, a1⟩, b0, b1⟩, _⟩ := HK3.out _ (Below.refl _ _)
  have hq0 : Below r9.heap.size r9 r9 := Below.refl _ _
  go_region_held3 (fun w' => (w'.cell? ⟨N, 0, none⟩ = some (.bool sa) ∧ w'.cell? ⟨N, 1, none⟩ = some (.slice qa na ca)) ∧ (w'.cell? ⟨N + 1, 0, none⟩ = some (.bool sb) ∧ w'.cell? ⟨N + 1, 1, none⟩ = some (.slice qb nb cb)))
    (first | exact ⟨⟨a0, a1⟩, b0, b1⟩ | exact (HK3.out _ hq).1)
    (first
      | (go_at_call 32; refine (S1.out _ _ (HK3.out _ (by first | exact hq0 | exact hq0.drew)).2.1).mono ?_; rintro e y1 ⟨rfl, hx⟩; have hq : Below r9.heap.size r9 y1 := bs_trans (by (repeat (first | with_reducible assumption | with_reducible exact Below.refl _ _ | with_reducible refine bs_alloc ?_ _ | with_reducible refine bs_drew ?_ | with_reducible refine bs_set ?_ ?_ _))) hx; clear hx)
      | (go_at_call 33; refine (S2.out _ _ (HK3.out _ (by exact hq)).2.1).mono ?_; rintro e y2 ⟨rfl, hx⟩; have hq : Below r9.heap.size r9 y2 := bs_trans (by (repeat (first | with_reducible assumption | with_reducible exact Below.refl _ _ | with_reducible refine bs_alloc ?_ _ | with_reducible refine bs_drew ?_ | with_reducible refine bs_set ?_ ?_ _))) hx; clear hx)
      | (go_at_call 34; refine (S3.out _ _ (HK3.out _ (by exact hq)).2.1).mono ?_; rintro e y3 ⟨rfl, hx⟩; have hq : Below r9.heap.size r9 y3 := bs_trans (by (repeat (first | with_reducible assumption | with_reducible exact Below.refl _ _ | with_reducible refine bs_alloc ?_ _ | with_reducible refine bs_drew ?_ | with_reducible refine bs_set ?_ ?_ _))) hx; clear hx)
      | (go_at_call 35; refine (S4.out _ _ (HK3.out _ (by exact hq)).2.1).mono ?_; rintro e y4 ⟨rfl, hx⟩; have hq : Below r9.heap.size r9 y4 := bs_trans (by (repeat (first | with_reducible assumption | with_reducible exact Below.refl _ _ | with_reducible refine bs_alloc ?_ _ | with_reducible refine bs_drew ?_ | with_reducible refine bs_set ?_ ?_ _))) hx; clear hx)
      | (go_at_call 36; refine (S5.out _ _ _ (HK3.out _ (by exact hq)).2.1 (HK3.out _ (by exact hq)).2.2).mono ?_; rintro e y5 ⟨rfl, hx⟩; have hq : Below r9.heap.size r9 y5 := bs_trans (by (repeat (first | with_reducible assumption | with_reducible exact Below.refl _ _ | with_reducible refine bs_alloc ?_ _ | with_reducible refine bs_drew ?_ | with_reducible refine bs_set ?_ ?_ _))) hx; clear hx)
      | (go_at_call 37; refine (S6.out _ _ _ (HK3.out _ (by exact hq)).2.1 (HK3.out _ (by exact hq)).2.2).mono ?_; rintro e y6 ⟨rfl, hx⟩; have hq : Below r9.heap.size r9 y6 := bs_trans (by (repeat (first | with_reducible assumption | with_reducible exact Below.refl _ _ | with_reducible refine bs_alloc ?_ _ | with_reducible refine bs_drew ?_ | with_reducible refine bs_set ?_ ?_ _))) hx; clear hx)
      | fail "no arm")
  have HF := bs_trans HB3.out hq
  clear hq
  go_wp2_with fail
  go_ret
  exact ⟨rfl, HF⟩
end Go.Proofs.Ytmfimkndonlheaa

/-
  value: a component at j / 16 is what its polynomial says.
-/
import Derived.Test.YtmfmbglacebeiaaFlVal
namespace Go.Proofs.Ytmfmbglacebeiaa
open Go.RowKit PB VB FL PO
set_option maxRecDepth 100000 in
set_option maxHeartbeats 8000000 in
theorem value_any (base : Option Addr) (n c N : Nat) (p v h j : Int) (w : World) (hc : CanP N w (.slice base n c) (trimL [p, v, h])) (hp1 : -8388608 ≤ p) (hp2 : p ≤ 8388608) (hv1 : -8388608 ≤ v) (hv2 : v ≤ 8388608) (hh1 : -8388608 ≤ h) (hh2 : h ≤ 8388608) (x0 : 0 ≤ j) (x1 : j ≤ 16) (ha1 : -9223372036854775808 ≤ atI p v h j) (ha2 : atI p v h j ≤ 9223372036854775807) :
    Calls Try.prog 24 #[.slice base n c, .int .i64 j, .int .i64 (atI p v h j)] w fun e w' => e = .returned (.bool true) ∧ Below w.heap.size w w' := by
  have hn : n = (trimL [p, v, h]).length := by
    obtain ⟨_, _, _, _, e, _⟩ := hc
    injection e
  have hok := hv_ok hp1 hp2 hv1 hv2 hh1 hh2 x0 x1
  have hl : (trimL [p, v, h]).length ≤ 3 := by rw [trimL_length]; exact trimN_le _
  have hzs := hok.v _ (Nat.le_refl _)
  have hE := hv_at p v h j
  have HO := Lib.hid (fun W => of_ref j W (by omega) (by omega))
  have HV := Lib.hid (fun W v1 (hW : Below w.heap.size w W) (h1 : IsInt W v1 j) => pval_any base n c (trimL [p, v, h]) v1 j 4 W ((hc.kept hW).rd) h1 (by rw [trimL_idem]; exact hok) (by omega))
  rw [trimL_idem] at HV
  have HO2 := Lib.hid (fun W => of_ref (atI p v h j) W ha1 ha2)
  have HS := Lib.hid (fun W N1 N2 v1 v2 (h1 : IsCan N1 W v1 (atI p v h j)) (h2 : IsCan N2 W v2 (atI p v h j)) => same_ref N1 N2 v1 v2 _ W h1 h2)
  have HU := Lib.hid (fun W v1 (h1 : IsInt W v1 (hv (trimL [p, v, h]) j 4 (trimL [p, v, h]).length)) => up_ref v1 _ (lack (trimL [p, v, h]).length) W h1 hzs (by unfold lack; omega))
  rw [hE] at HU
  clear hE hzs hok hc hp1 hp2 hv1 hv2 hh1 hh2 x0 x1 ha1 ha2
  generalize hv (trimL [p, v, h]) j 4 (trimL [p, v, h]).length = Z at *
  generalize atI p v h j = A at *
  generalize (trimL [p, v, h]).length = m at *
  subst hn
  have hn : n = 0 ∨ n = 1 ∨ n = 2 ∨ n = 3 := by omega
  clear hl
  rcases hn with rfl | rfl | rfl | rfl
  · have hk : (lack 0) = 8 := rfl
    rw [hk] at HU
    go_enter Try.func24, Try.ntmps24
    go_wp2_with fail
    refine (HO.out _).mono ?_
    rintro e w1 ⟨v1, rfl, h1, b1⟩
    go_wp2_with fail
    refine (HV.out _ _ b1 h1.int).mono ?_
    rintro e w2 ⟨v2, rfl, h2, b2⟩
    obtain ⟨s2, q2, m2, d2, g2, rfl, -, -⟩ := can_elt h2
    have B2 := Lib.hid (pnext b1 b2)
    have H2 := Lib.hid h2.int
    clear h1 h2 b1 b2
    go_wp2_with fail
    refine (HU.out _ _ (H2.out.kept ((Below.refl _ _).alloc (Nat.le_refl _) _))).mono ?_
    rintro e w3 ⟨v3, rfl, h3, b3⟩
    have B3 := Lib.hid (pnext B2.out (pnext ((Below.refl _ _).alloc (Nat.le_refl _) (Obj.cells #[.bool s2, .slice q2 m2 d2] 50)) b3))
    clear b3
    go_wp2_with fail
    refine (HO2.out _).mono ?_
    rintro e w4 ⟨v4, rfl, h4, b4⟩
    go_wp2_with fail
    refine (HS.out _ _ _ _ _ (h3.kept b4) h4).mono ?_
    rintro e w5 ⟨rfl, b5⟩
    have B5 := Lib.hid (pnext (pnext B3.out b4) b5)
    clear h3 h4 b4 b5
    go_wp2_with fail
    go_ret
    exact ⟨rfl, B5.out⟩
  · have hk : (lack 1) = 8 := rfl
    rw [hk] at HU
    go_enter Try.func24, Try.ntmps24
    go_wp2_with fail
    refine (HO.out _).mono ?_
    rintro e w1 ⟨v1, rfl, h1, b1⟩
    go_wp2_with fail
    refine (HV.out _ _ b1 h1.int).mono ?_
    rintro e w2 ⟨v2, rfl, h2, b2⟩
    obtain ⟨s2, q2, m2, d2, g2, rfl, -, -⟩ := can_elt h2
    have B2 := Lib.hid (pnext b1 b2)
    have H2 := Lib.hid h2.int
    clear h1 h2 b1 b2
    go_wp2_with fail
    refine (HU.out _ _ (H2.out.kept ((Below.refl _ _).alloc (Nat.le_refl _) _))).mono ?_
    rintro e w3 ⟨v3, rfl, h3, b3⟩
    have B3 := Lib.hid (pnext B2.out (pnext ((Below.refl _ _).alloc (Nat.le_refl _) (Obj.cells #[.bool s2, .slice q2 m2 d2] 50)) b3))
    clear b3
    go_wp2_with fail
    refine (HO2.out _).mono ?_
    rintro e w4 ⟨v4, rfl, h4, b4⟩
    go_wp2_with fail
    refine (HS.out _ _ _ _ _ (h3.kept b4) h4).mono ?_
    rintro e w5 ⟨rfl, b5⟩
    have B5 := Lib.hid (pnext (pnext B3.out b4) b5)
    clear h3 h4 b4 b5
    go_wp2_with fail
    go_ret
    exact ⟨rfl, B5.out⟩
  · have hk : (lack 2) = 4 := rfl
    rw [hk] at HU
    go_enter Try.func24, Try.ntmps24
    go_wp2_with fail
    refine (HO.out _).mono ?_
    rintro e w1 ⟨v1, rfl, h1, b1⟩
    go_wp2_with fail
    refine (HV.out _ _ b1 h1.int).mono ?_
    rintro e w2 ⟨v2, rfl, h2, b2⟩
    obtain ⟨s2, q2, m2, d2, g2, rfl, -, -⟩ := can_elt h2
    have B2 := Lib.hid (pnext b1 b2)
    have H2 := Lib.hid h2.int
    clear h1 h2 b1 b2
    go_wp2_with fail
    refine (HU.out _ _ (H2.out.kept ((Below.refl _ _).alloc (Nat.le_refl _) _))).mono ?_
    rintro e w3 ⟨v3, rfl, h3, b3⟩
    have B3 := Lib.hid (pnext B2.out (pnext ((Below.refl _ _).alloc (Nat.le_refl _) (Obj.cells #[.bool s2, .slice q2 m2 d2] 50)) b3))
    clear b3
    go_wp2_with fail
    refine (HO2.out _).mono ?_
    rintro e w4 ⟨v4, rfl, h4, b4⟩
    go_wp2_with fail
    refine (HS.out _ _ _ _ _ (h3.kept b4) h4).mono ?_
    rintro e w5 ⟨rfl, b5⟩
    have B5 := Lib.hid (pnext (pnext B3.out b4) b5)
    clear h3 h4 b4 b5
    go_wp2_with fail
    go_ret
    exact ⟨rfl, B5.out⟩
  · have hk : (lack 3) = 0 := rfl
    rw [hk] at HU
    go_enter Try.func24, Try.ntmps24
    go_wp2_with fail
    refine (HO.out _).mono ?_
    rintro e w1 ⟨v1, rfl, h1, b1⟩
    go_wp2_with fail
    refine (HV.out _ _ b1 h1.int).mono ?_
    rintro e w2 ⟨v2, rfl, h2, b2⟩
    obtain ⟨s2, q2, m2, d2, g2, rfl, -, -⟩ := can_elt h2
    have B2 := Lib.hid (pnext b1 b2)
    have H2 := Lib.hid h2.int
    clear h1 h2 b1 b2
    go_wp2_with fail
    refine (HU.out _ _ (H2.out.kept ((Below.refl _ _).alloc (Nat.le_refl _) _))).mono ?_
    rintro e w3 ⟨v3, rfl, h3, b3⟩
    have B3 := Lib.hid (pnext B2.out (pnext ((Below.refl _ _).alloc (Nat.le_refl _) (Obj.cells #[.bool s2, .slice q2 m2 d2] 50)) b3))
    clear b3
    go_wp2_with fail
    refine (HO2.out _).mono ?_
    rintro e w4 ⟨v4, rfl, h4, b4⟩
    go_wp2_with fail
    refine (HS.out _ _ _ _ _ (h3.kept b4) h4).mono ?_
    rintro e w5 ⟨rfl, b5⟩
    have B5 := Lib.hid (pnext (pnext B3.out b4) b5)
    clear h3 h4 b4 b5
    go_wp2_with fail
    go_ret
    exact ⟨rfl, B5.out⟩
end Go.Proofs.Ytmfmbglacebeiaa

/-
  DivL DvdL
-/
import Derived.Test.YteggfjahjanabaaCom
import Derived.Test.YteggfjahjanabaaLimL
import Derived.Test.YteggfjahjanabaaNeg
/- The verifier's positive and divides. -/
namespace Go.Proofs.Yteggfjahjanabaa
open Go.RowKit PB
theorem sign_is {v : Value} {z r : Int} (w : World) (h : IsInt w v z) (hz : z.sign = r) :
    Calls Try.prog 32 #[v] w fun e w' => e = .returned (.int .i64 r) ∧ Below w.heap.size w w' := by
  subst hz
  exact sign_any v z w h

theorem sign_ge0 {v : Value} {z : Int} (w : World) (h : IsInt w v z) (hz : 0 ≤ z) :
    Calls Try.prog 32 #[v] w fun e w' => ∃ r : Int, 0 ≤ r ∧ e = .returned (.int .i64 r) ∧ Below w.heap.size w w' := by
  refine (sign_any v z w h).mono ?_
  rintro e w' ⟨rfl, hb⟩
  exact ⟨z.sign, Int.sign_nonneg_iff.2 hz, rfl, hb⟩

set_option maxHeartbeats 1600000 in
set_option maxRecDepth 100000 in
theorem positive_any (s : Bool) (base : Option Addr) (n c : Nat) (z : Int) (w : World) (h : IsInt w (.agg #[.bool s, .slice base n c]) z) :
    Calls Try.prog 43 #[.agg #[.bool s, .slice base n c]] w fun e w' => ∃ (s' : Bool) (q' : Option Addr) (n' c' : Nat), e = .returned (.agg #[.bool s', .slice q' n' c']) ∧ IsInt w' (.agg #[.bool s', .slice q' n' c']) z.natAbs ∧ Below w.heap.size w w' := by
  go_enter Try.func43, Try.ntmps43
  go_upto_region 1 with fail
  generalize hW : World.alloc _ _ = W
  have BV : Blk W w.heap.size #[.bool s, .slice base n c] := by rw [← hW]; exact (blk_new rfl).alloc _
  have BR : Blk W (w.heap.size + 1) #[.bool false, .slice none 0 0] := by rw [← hW]; exact blk_new (by simp)
  have hb : Below w.heap.size w W := by rw [← hW]; exact bs_alloc (bs_alloc (Below.refl _ _) _) _
  have h1 := h.kept hb
  have HB := Lib.hid hb
  have HI := Lib.hid h
  clear hW h hb
  obtain ⟨a0, a1⟩ := Blk2 BV
  by_cases hz : z < 0
  · have hs : z.sign = -1 := Int.sign_eq_neg_one_of_neg hz
    have ha : Hid ((z.natAbs : Int) = -z) := Lib.hid (by omega)
    clear hz
    go_wp2_with fail
    refine (sign_is W h1 hs).mono ?_
    rintro e w1 ⟨rfl, hx⟩
    have h2 := h1.kept hx
    have BV1 := BV.kept hx
    have BR1 := BR.kept hx
    have HB1 := Lib.hid (bs_trans HB.out hx)
    clear h1 BV BR a0 a1 hx HB hs
    obtain ⟨a0, a1⟩ := Blk2 BV1
    go_wp2_with fail
    refine (neg_any _ _ w1 h2).mono ?_
    rintro e w2 ⟨v, rfl, hc, hx⟩
    obtain ⟨s2, q2, n2, c2, rfl, _⟩ := can_form hc
    have BR2 := BR1.kept hx
    have hc2 := hc.mono (show w.heap.size + 2 ≤ w1.heap.size from BR1.lt)
    have HB2 := Lib.hid (bs_trans HB1.out hx)
    clear h2 BV1 BR1 a0 a1 hx HB1 hc
    obtain ⟨r0, r1⟩ := Blk2 BR2
    obtain ⟨f0, f1⟩ := Blk2f BR2
    go_wp2_with fail
    have BZ := (BR2.set 0 (.bool s2)).set 1 (.slice q2 n2 c2)
    have hI := ((hc2.set (p := ⟨w.heap.size + 1, 0, none⟩) (Nat.lt_succ_self _) (.bool s2)).set (p := ⟨w.heap.size + 1, 1, none⟩) (Nat.lt_succ_self _) (.slice q2 n2 c2)).int
    have HZ : Below w.heap.size w ((w2.setCell ⟨w.heap.size + 1, 0, none⟩ (.bool s2)).setCell ⟨w.heap.size + 1, 1, none⟩ (.slice q2 n2 c2)) := bs_set (bs_set HB2.out (by omega) _) (by omega) _
    generalize ((w2.setCell ⟨w.heap.size + 1, 0, none⟩ (.bool s2)).setCell ⟨w.heap.size + 1, 1, none⟩ (.slice q2 n2 c2)) = Z at *
    obtain ⟨z0, z1⟩ := Blk2 BZ
    exact bodyPost_ret (v := .agg #[.bool s2, .slice q2 n2 c2]) (by simp [results, Try.results43, go_sem, z0, z1]) rfl ⟨_, _, _, _, rfl, ha.out ▸ hI, HZ⟩
  · have hs : 0 ≤ z := by omega
    have ha : Hid ((z.natAbs : Int) = z) := Lib.hid (by omega)
    clear hz
    go_wp2_with fail
    refine (sign_ge0 W h1 hs).mono ?_
    rintro e w1 ⟨r, hr, rfl, hx⟩
    have h2 := h1.kept hx
    have BV1 := BV.kept hx
    have BR1 := BR.kept hx
    have HB1 := Lib.hid (bs_trans HB.out hx)
    clear h1 BV BR a0 a1 hx HB hs
    obtain ⟨a0, a1⟩ := Blk2 BV1
    obtain ⟨r0, r1⟩ := Blk2 BR1
    obtain ⟨f0, f1⟩ := Blk2f BR1
    go_wp2_with fail
    have BZ := (BR1.set 0 (.bool s)).set 1 (.slice base n c)
    have HZ : Below w.heap.size w ((w1.setCell ⟨w.heap.size + 1, 0, none⟩ (.bool s)).setCell ⟨w.heap.size + 1, 1, none⟩ (.slice base n c)) := bs_set (bs_set HB1.out (by omega) _) (by omega) _
    generalize ((w1.setCell ⟨w.heap.size + 1, 0, none⟩ (.bool s)).setCell ⟨w.heap.size + 1, 1, none⟩ (.slice base n c)) = Z at *
    obtain ⟨z0, z1⟩ := Blk2 BZ
    exact bodyPost_ret (v := .agg #[.bool s, .slice base n c]) (by simp [results, Try.results43, go_sem, z0, z1]) rfl ⟨_, _, _, _, rfl, ha.out.symm ▸ HI.out.kept HZ, HZ⟩

set_option maxHeartbeats 1600000 in
set_option maxRecDepth 100000 in
theorem divides_yes (s t : Bool) (base base' : Option Addr) (n c n' c' : Nat) (x y : Int) (w : World) (h : IsInt w (.agg #[.bool s, .slice base n c]) x) (h' : IsInt w (.agg #[.bool t, .slice base' n' c']) y) (k1 : sm 255 x) (k2 : sm 255 y) (hd : x ∣ y) :
    Calls Try.prog 44 #[.agg #[.bool s, .slice base n c], .agg #[.bool t, .slice base' n' c']] w fun e w' => e = .returned (.bool true) ∧ Below w.heap.size w w' := by
  go_enter Try.func44, Try.ntmps44
  go_upto_region 1 with fail
  generalize hW : World.alloc _ _ = W
  have B0 : Blk W w.heap.size #[.bool s, .slice base n c] := by rw [← hW]; exact (blk_new rfl).alloc _
  have B1 : Blk W (w.heap.size + 1) #[.bool t, .slice base' n' c'] := by rw [← hW]; exact blk_new (by simp)
  have hb : Below w.heap.size w W := by rw [← hW]; exact bs_alloc (bs_alloc (Below.refl _ _) _) _
  have h1 := h.kept hb
  have h2 := h'.kept hb
  have HB := Lib.hid hb
  have K1 := Lib.hid (not_big k1 (by decide))
  have K2 := Lib.hid (not_big k2 (by decide))
  clear hW h h' hb k1 k2
  obtain ⟨a0, a1⟩ := Blk2 B0
  by_cases h0 : x = 0
  · have hy : y = 0 := by rw [h0] at hd; exact Int.zero_dvd.1 hd
    have HS1 := Lib.hid (show x.sign = 0 by rw [h0]; rfl)
    have HS2 := Lib.hid (show y.sign = 0 by rw [hy]; rfl)
    clear h0 hd hy
    go_wp2_with fail
    refine (sign_is W h1 HS1.out).mono ?_
    rintro e w1 ⟨rfl, hx⟩
    have h3 := h2.kept hx
    obtain ⟨b0, b1⟩ := Blk2 (B1.kept hx)
    have HB1 := Lib.hid (bs_trans HB.out hx)
    clear h1 h2 hx HB a0 a1 B0 B1
    go_wp2_with fail
    refine (sign_is w1 h3 HS2.out).mono ?_
    rintro e w2 ⟨rfl, hx⟩
    have HB2 := bs_trans HB1.out hx
    clear hx HB1 h3
    go_wp2_with fail
    go_ret
    exact ⟨rfl, HB2⟩
  · have HS1 : Hid ((x.sign == 0) = false) := Lib.hid (by simp; exact h0)
    have HT : Hid (y.tmod x = 0) := Lib.hid (Int.tmod_eq_zero_of_dvd hd)
    have HX0 := Lib.hid h0
    obtain ⟨r, hr⟩ : ∃ r, x.sign = r := ⟨_, rfl⟩
    rw [hr] at HS1
    have HR := Lib.hid hr
    have t0 := HS1.out
    clear h0 hd hr HS1
    go_wp2_with fail
    refine (sign_is W h1 HR.out).mono ?_
    rintro e w1 ⟨rfl, hx⟩
    have h3 := h1.kept hx
    have h4 := h2.kept hx
    have B2 := B0.kept hx
    have B3 := B1.kept hx
    have HB1 := Lib.hid (bs_trans HB.out hx)
    clear h1 h2 hx HB a0 a1 B0 B1
    obtain ⟨a0, a1⟩ := Blk2 B2
    obtain ⟨b0, b1⟩ := Blk2 B3
    go_wp2_with fail
    refine (quo_fine _ _ _ _ w1 h4 h3 K2.out K1.out HX0.out).mono ?_
    rintro e w2 ⟨v1, v2, rfl, hc1, hc2, hx⟩
    obtain ⟨s1, q1, n1, c1, rfl, i1⟩ := can_form hc1
    obtain ⟨s2, q2, n2, c2, rfl, i2⟩ := can_form hc2
    have HB2 := Lib.hid (bs_trans HB1.out hx)
    clear h3 h4 hx HB1 a0 a1 b0 b1 hc1 hc2 i1 B2 B3
    go_upto_region 4 with fail
    generalize hW : World.alloc _ _ = y1
    obtain ⟨P, hP⟩ : ∃ P, w2.heap.size = P := ⟨_, rfl⟩
    rw [hP]
    have hy : Below w2.heap.size w2 y1 := by rw [← hW]; exact bs_alloc (bs_alloc (Below.refl _ _) _) _
    have BR : Blk y1 (P + 1) #[.bool s2, .slice q2 n2 c2] := by rw [← hW, ← hP]; exact blk_new (by simp)
    have i3 := i2.kept hy
    have HB3 := Lib.hid (bs_trans HB2.out hy)
    clear hW hP hy HB2 i2
    obtain ⟨r0, r1⟩ := Blk2 BR
    go_wp2_with fail
    refine (sign_is y1 i3 (show (y.tmod x).sign = 0 by rw [HT.out]; rfl)).mono ?_
    rintro e w3 ⟨rfl, hx⟩
    have HB4 := bs_trans HB3.out hx
    clear hx HB3 r0 r1 BR i3
    go_wp2_with fail
    go_ret
    exact ⟨rfl, HB4⟩
end Go.Proofs.Yteggfjahjanabaa

/- The walk of IntegerDivides (written by wip/gendiv.py). -/
namespace Go.Proofs.Yteggfjahjanabaa
open Go.RowKit PB
theorem sm_tdiv {k : Nat} {a : Int} (h : sm k a) (b : Int) : sm k (a.tdiv b) := by
  unfold sm at *
  rw [Int.natAbs_tdiv]
  exact Nat.lt_of_le_of_lt (Nat.div_le_self _ _) h
theorem sm_tmod {k : Nat} {a : Int} (h : sm k a) (b : Int) : sm k (a.tmod b) := by
  unfold sm at *
  rw [Int.natAbs_tmod]
  exact Nat.lt_of_le_of_lt (Nat.mod_le _ _) h
theorem sm_gcd {k : Nat} {a b : Int} (h : sm k a) (h' : sm k b) : sm k ((Nat.gcd a.natAbs b.natAbs : Nat) : Int) := by
  unfold sm at *
  rw [Int.natAbs_natCast]
  by_cases e : a.natAbs = 0
  · rw [e, Nat.gcd_zero_left]; exact h'
  · exact Nat.lt_of_le_of_lt (Nat.gcd_le_left _ (by omega)) h
theorem dvd_of_natAbs {d : Nat} {z : Int} (h : d ∣ z.natAbs) : (d : Int) ∣ z := Int.ofNat_dvd_left.2 h
theorem dvd_gcd_mul (a b c : Int) : c ∣ ((Nat.gcd (a * c).natAbs (b * c).natAbs : Nat) : Int) := by
  rw [← Int.natAbs_dvd, Int.natCast_dvd_natCast]
  apply Nat.dvd_gcd
  · rw [Int.natAbs_mul]; exact Nat.dvd_mul_left _ _
  · rw [Int.natAbs_mul]; exact Nat.dvd_mul_left _ _
theorem sign_tmod {a b : Int} (h : a.tmod b ≠ 0) : (a.tmod b).sign = a.sign := by
  rcases Int.lt_trichotomy a 0 with ha | ha | ha
  · have : a.tmod b ≤ 0 := by
      have e : a.tmod b = -((-a).tmod b) := by rw [Int.neg_tmod, Int.neg_neg]
      have := Int.tmod_nonneg (a := -a) b (by omega)
      omega
    rw [Int.sign_eq_neg_one_of_neg ha, Int.sign_eq_neg_one_of_neg (by omega)]
  · rw [ha, Int.zero_tmod] at h
    exact absurd rfl h
  · have := Int.tmod_nonneg (a := a) b (by omega)
    rw [Int.sign_eq_one_of_pos ha, Int.sign_eq_one_of_pos (by omega)]
theorem cmp_lt0 {v1 v2 : Value} {z1 z2 : Int} (w : World) (h1 : IsInt w v1 z1) (h2 : IsInt w v2 z2) (e : z1 < z2) :
    Calls Try.prog 36 #[v1, v2] w fun e w' => e = .returned (.int .i64 (-1)) ∧ Below w.heap.size w w' := by
  have h := cmp_any v1 v2 z1 z2 w h1 h2
  rwa [show cmpi z1 z2 = -1 by unfold cmpi; rw [if_pos e]] at h
end Go.Proofs.Yteggfjahjanabaa

/-
  integer.Quo.
  Plain arithmetic of a long division: the estimate from the highest limbs is the digit or one more.
  integer.estimate: the quotient of the highest limbs.
-/
import Derived.Test.YtdgfmkideghhaaaM01
import Derived.Test.YtdgfmkideghhaaaM17
import Derived.Test.YtdgfmkideghhaaaM18
import Derived.Test.YtdgfmkideghhaaaM19
namespace PB
open Go Go.RowKit
/-- The call returns two canonical Ints and an error number. -/
def RetIntIntE (w : World) (z1 z2 err : Int) (e : Ending) (w' : World) : Prop :=
  ∃ v1 v2, e = .returned (.tuple #[v1, v2, .int .i64 err]) ∧ IsCan w.heap.size w' v1 z1 ∧ IsCan w.heap.size w' v2 z2 ∧ Below w.heap.size w w'
end PB
namespace Go.Proofs.Ytdgfmkideghhaaa
open Go.RowKit PB

set_option maxHeartbeats 3200000 in
set_option maxRecDepth 100000 in
/-- Quo, where the numbers are not large and the divisor is not 0, by what divide does. -/
theorem quo_ok (s t : Bool) (base : Option Addr) (b off n c X : Nat) (base' : Option Addr) (b' off' n' c' Y : Nat) (w : World)
    (hb : n ≠ 0 → base = some ⟨b, off, none⟩) (hX : Num w b off n X) (hn : n ≤ c) (hl : n ≤ 1000000000)
    (hb' : n' ≠ 0 → base' = some ⟨b', off', none⟩) (hY : Num w b' off' n' Y) (hn' : n' ≤ c') (hl' : n' ≤ 1000000000) (hsX : ¬ (256 < nl X ∨ 256 < nl Y)) (hY0 : Y ≠ 0) (sm : Bool) (hsm : (!(s == t)) = sm)
    (hdiv : ∀ W, Below w.heap.size w W → Calls Try.prog 76 #[.slice base (nl X) (nl X), .slice base' (nl Y) (nl Y)] W (RetDiv W X Y)) :
    Calls Try.prog 15 #[.agg #[.bool s, .slice base n c], .agg #[.bool t, .slice base' n' c']] w (RetIntIntE w (sg sm (X / Y)) (sg s (X % Y)) 0) := by
  have hnX := nl_le hX.lt
  have hnY := nl_le hY.lt
  have HD := Lib.hid hdiv
  have HB := Lib.hid hb
  have HB' := Lib.hid hb'
  have hz : ((nl Y : Int) == 0) = false := by have := mt nl_eq_zero.1 hY0; simp; omega
  clear hdiv hb hb'
  go_enter Try.func15, Try.ntmps15
  go_wp2_with fail
  generalize hW : World.alloc _ _ = W
  have B0 : Blk W w.heap.size #[.bool s, .slice base n c] := by rw [← hW]; exact ((((blk_new rfl).alloc _).alloc _).alloc _).alloc _
  have B1 : Blk W (w.heap.size + 1) #[.bool t, .slice base' n' c'] := by rw [← hW]; exact (((blk_new (by simp)).alloc _).alloc _).alloc _
  have B2 : Blk W (w.heap.size + 1 + 1) #[.bool false, .slice none 0 0] := by rw [← hW]; exact ((blk_new (by simp)).alloc _).alloc _
  have B3 : Blk W (w.heap.size + 1 + 1 + 1) #[.bool false, .slice none 0 0] := by rw [← hW]; exact (blk_new (by simp)).alloc _
  have B4 : Blk W (w.heap.size + 1 + 1 + 1 + 1) #[.bool s, .slice base n c, .bool t, .slice base' n' c'] := by rw [← hW]; exact blk_new (by simp)
  have hbW : Below w.heap.size w W := by rw [← hW]; exact (((((Below.refl _ _).alloc (Nat.le_refl _) _).alloc (by simp) _).alloc (by simp; omega) _).alloc (by simp; omega) _).alloc (by simp; omega) _
  have HS := Lib.hid (show W.heap.size = w.heap.size + 5 by rw [← hW]; simp)
  clear hW
  have call := large_two (w.heap.size + 1 + 1 + 1 + 1) s t base base' b off n c X b' off' n' c' Y W (B4.cell 0 _ rfl) (B4.cell 1 _ rfl) (B4.cell 2 _ rfl) (B4.cell 3 _ rfl) HB.out (hX.kept hbW) hn (by omega) HB'.out (hY.kept hbW) hn' (by omega)
  rw [decide_eq_false hsX] at call
  refine call.mono ?_
  clear call
  rintro e w1 ⟨rfl, hb1⟩
  have hbw1 : Below w.heap.size w w1 := hbW.trans (hb1.mono (by have := HS.out; omega))
  obtain ⟨a0, a1⟩ := Blk2 (B0.kept hb1)
  obtain ⟨b0, b1⟩ := Blk2 (B1.kept hb1)
  have B0' := B0.kept hb1
  have B1' := B1.kept hb1
  have B2' := B2.kept hb1
  have B3' := B3.kept hb1
  have HS' := Lib.hid (show w.heap.size + 5 ≤ w1.heap.size by have := HS.out; have := hb1.size; omega)
  clear B0 B1 B2 B3 B4 hbW HS hb1
  have hX1 := hX.kept hbw1
  have hY1 := hY.kept hbw1
  go_wp2_with (first
      | (go_at_call_of 75 (Value.slice base n c); refine (cut_any base b off n c X _ HB.out (by exact hX1) hn (by omega)).mono ?_; rintro e w' ⟨rfl, rfl⟩)
      | (go_at_call_of 75 (Value.slice base' n' c'); refine (cut_any base' b' off' n' c' Y _ HB'.out (by exact hY1) hn' (by omega)).mono ?_; rintro e w' ⟨rfl, rfl⟩))
  refine (HD.out _ hbw1).mono ?_
  rintro e w2 ⟨vq, vr, rfl, ⟨qb, qg, qo, qn, qc, rfl, hq1, hq2, hq3, hq4, hq5⟩, ⟨rb, rg, ro, rn, rc, rfl, hr1, hr2, hr3, hr4, hr5, _⟩, hb2⟩
  have hbw2 : Below w.heap.size w w2 := hbw1.trans (hb2.mono (by have := HS'.out; omega))
  have HQ1 := Lib.hid hq1
  have HR1 := Lib.hid hr1
  have HQ5 := Lib.hid hq5
  have HR5 := Lib.hid hr5
  have B0'' := B0'.kept hb2
  have B1'' := B1'.kept hb2
  obtain ⟨a0, a1⟩ := Blk2 B0''
  obtain ⟨b0, b1⟩ := Blk2 B1''
  have HM := Lib.hid (show w.heap.size + 5 ≤ w2.heap.size by have := HS'.out; have := hb2.size; omega)
  have HK := Lib.hid (show ∀ w3, Below w2.heap.size w2 w3 → w3.cell? ⟨w.heap.size, 0, none⟩ = some (.bool s) ∧ w3.cell? ⟨w.heap.size + 1, 0, none⟩ = some (.bool t) from fun w3 h => ⟨(Blk2 (B0''.kept h)).1, (Blk2 (B1''.kept h)).1⟩)
  have HL := Lib.hid (show ∀ w3, Below w2.heap.size w2 w3 → Blk w3 (w.heap.size + 1 + 1) #[.bool false, .slice none 0 0] ∧ Blk w3 (w.heap.size + 1 + 1 + 1) #[.bool false, .slice none 0 0] from fun w3 h => ⟨(B2'.kept hb2).kept h, (B3'.kept hb2).kept h⟩)
  clear hq1 hr1 hq5 hr5 a1 b1 B0' B1' B2' B3' B0'' B1''
  have HST := Lib.hid (show ∀ (w4 : World) (g j : Nat) (u : Value), (w4.cell? ⟨w.heap.size, 0, none⟩ = some (.bool s) ∧ w4.cell? ⟨w.heap.size + 1, 0, none⟩ = some (.bool t)) → w.heap.size + 1 < g → ((w4.setCell ⟨g, j, none⟩ u).cell? ⟨w.heap.size, 0, none⟩ = some (.bool s) ∧ (w4.setCell ⟨g, j, none⟩ u).cell? ⟨w.heap.size + 1, 0, none⟩ = some (.bool t)) from
    fun w4 g j u h hg => ⟨cell_other h.1 (show w.heap.size ≠ g by omega), cell_other h.2 (show w.heap.size + 1 ≠ g by omega)⟩)
  go_wp2_with fail
  go_region_held3 (fun w' => w'.cell? ⟨w.heap.size, 0, none⟩ = some (.bool s) ∧ w'.cell? ⟨w.heap.size + 1, 0, none⟩ = some (.bool t))
    (first | exact ⟨a0, b0⟩ | exact HK.out _ hk4 | exact HK.out _ hk3 | exact HST.out _ _ _ _ (HST.out _ _ _ _ (HK.out _ hk4) (by omega)) (by omega) | exact HST.out _ _ _ _ (HST.out _ _ _ _ (HST.out _ _ _ _ (HST.out _ _ _ _ (HK.out _ hk4) (by omega)) (by omega)) (by omega)) (by omega))
    (first
      | (go_at_call_of 73 (Value.slice qb qn qc); refine (number_any sm qb qg qo qn qc (X / Y) _ HQ1.out (by exact hq2) hq3 (by omega)).mono ?_; rintro e w3 ⟨rfl, hb3⟩
         have hk3 : Below w2.heap.size w2 w3 := (by first | exact hb3 | exact below_undrew hb3)
         obtain ⟨s1, p1, m1, hv1⟩ := intv_form sm qb (X / Y)
         rw [hv1]
         have HV1 := Lib.hid hv1
         clear hv1)
      | (go_at_call_of 73 (Value.slice rb rn rc); refine (number_any s rb rg ro rn rc (X % Y) _ HR1.out (by exact hr2.kept hk3) hr3 (by omega)).mono ?_; rintro e w4 ⟨rfl, hb4⟩
         have hk4 : Below w2.heap.size w2 w4 := hk3.trans (hb4.mono hk3.size)
         obtain ⟨s2, p2, m2, hv2⟩ := intv_form s rb (X % Y)
         rw [hv2]
         have HV2 := Lib.hid hv2
         clear hv2
         obtain ⟨c0, c1⟩ := Blk2 (HL.out _ hk4).1
         obtain ⟨f0, f1⟩ := Blk2f (HL.out _ hk4).1
         obtain ⟨d0, d1⟩ := Blk2 (HL.out _ hk4).2
         obtain ⟨g0, g1⟩ := Blk2f (HL.out _ hk4).2))
  go_wp2_with fail
  have h1 := HS'.out
  have h2 := HM.out
  refine bodyPost_ret (v := .tuple #[.agg #[.bool s1, .slice p1 m1 m1], .agg #[.bool s2, .slice p2 m2 m2], .int .i64 0]) (by simp [results, Try.results15, go_sem, c0, c1, d0, d1]) rfl ⟨_, _, rfl, ?_, ?_, ?_⟩
  · rw [← HV1.out]
    refine can_intv (n := qn) HQ1.out (((((hq2.kept hk4).other _ ?_).other _ ?_).other _ ?_).other _ ?_) (by have := nl_le hq2.lt; omega) (fun h => by have := HQ5.out h; omega)
    all_goals (intro h; have := HQ5.out h; simp only []; omega)
  · rw [← HV2.out]
    refine can_intv (n := rn) HR1.out (((((hr2.kept hk4).other _ ?_).other _ ?_).other _ ?_).other _ ?_) (by have := nl_le hr2.lt; omega) (fun h => by have := HR5.out h; omega)
    all_goals (intro h; have := HR5.out h; simp only []; omega)
  · exact ((((hbw2.trans (hk4.mono (by omega))).setCell (by show w.heap.size ≤ w.heap.size + 1 + 1; omega) _).setCell (by show w.heap.size ≤ w.heap.size + 1 + 1; omega) _).setCell (by show w.heap.size ≤ w.heap.size + 1 + 1 + 1; omega) _).setCell (by show w.heap.size ≤ w.heap.size + 1 + 1 + 1; omega) _
end Go.Proofs.Ytdgfmkideghhaaa

namespace PB
theorem est_ge {P Y M : Nat} (hM : 0 < M) (hV : 0 < Y / M) : P / Y ≤ P / M / (Y / M) := by
  rw [Nat.le_div_iff_mul_le hV, Nat.le_div_iff_mul_le hM, Nat.mul_assoc]
  exact Nat.le_trans (Nat.mul_le_mul_left _ (Nat.div_mul_le_self Y M)) (Nat.div_mul_le_self P Y)
theorem est_le {P Y M : Nat} (hM : 0 < M) (hd : P / Y < Y / M) (hY : 0 < Y) : P / M / (Y / M) ≤ P / Y + 1 := by
  apply Nat.le_of_not_lt
  intro hlt
  have hV : 0 < Y / M := Nat.lt_of_le_of_lt (Nat.zero_le _) hd
  have h1 : P / M / (Y / M) * (Y / M) * M ≤ P := Nat.le_trans (Nat.mul_le_mul_right _ (Nat.div_mul_le_self _ _)) (Nat.div_mul_le_self P M)
  have h2 : P < (P / Y + 1) * Y := by rw [Nat.mul_comm]; exact Nat.lt_mul_div_succ P hY
  have h3 : Y ≤ (Y / M + 1) * M := by rw [Nat.mul_comm]; exact Nat.le_of_lt (Nat.lt_mul_div_succ Y hM)
  generalize P / M / (Y / M) = Q at *
  generalize P / Y = d at *
  generalize Y / M = V at *
  have h4 : (d + 2) * V * M ≤ Q * V * M := Nat.mul_le_mul_right _ (Nat.mul_le_mul_right _ hlt)
  have h5 : (d + 1) * Y ≤ (d + 1) * ((V + 1) * M) := Nat.mul_le_mul_left _ h3
  have h6 : (d + 2) * V * M < (d + 1) * (V + 1) * M := by rw [Nat.mul_assoc (d + 1)]; omega
  have h7 := Nat.lt_of_mul_lt_mul_right h6
  have e1 : (d + 2) * V = d * V + 2 * V := by rw [Nat.add_mul]
  have e2 : (d + 1) * (V + 1) = d * V + d + V + 1 := by rw [Nat.add_mul, Nat.mul_add, Nat.mul_one, Nat.one_mul]; omega
  omega
/-- The estimate of a digit. -/
def est (U V : Nat) : Nat := if U / B^2 = V / B then B - 1 else U / V
theorem est_all {P Y m : Nat} (hP : P < Y * B) (hY : Y < B^(m+2)) (hb : 2147483648 * B^(m+1) ≤ Y) :
    P / Y ≤ est (P / B^m) (Y / B^m) ∧ est (P / B^m) (Y / B^m) ≤ P / Y + 1 ∧ est (P / B^m) (Y / B^m) < B := by
  have hM := Bp m
  have hK := Bp (m+1)
  have hY0 : 0 < Y := by
    apply Nat.pos_of_ne_zero
    rintro rfl
    omega
  have hdB : P / Y < B := Nat.div_lt_of_lt_mul hP
  have e1 : P / B^m / B^2 = P / B^(m+2) := by rw [Nat.div_div_eq_div_mul, ← pow_add]
  have e2 : Y / B^m / B = Y / B^(m+1) := by rw [Nat.div_div_eq_div_mul, ← pow_succ]
  have hy1 : 2147483648 ≤ Y / B^(m+1) := (Nat.le_div_iff_mul_le hK).2 hb
  have hVB : B ≤ Y / B^m := by
    have h := Nat.div_mul_le_self (Y / B^m) B
    rw [e2] at h
    have h2 := Nat.mul_le_mul_right B hy1
    unfold B at *
    omega
  unfold est
  rw [e1, e2]
  by_cases he : P / B^(m+2) = Y / B^(m+1)
  · rw [if_pos he]
    refine ⟨by omega, ?_, by decide⟩
    have h1 : (B - 2) * Y ≤ P := by
      have h2 : Y ≤ (Y / B^(m+1) + 1) * B^(m+1) := by rw [Nat.mul_comm]; exact Nat.le_of_lt (Nat.lt_mul_div_succ Y hK)
      have h3 : Y / B^(m+1) * (B^(m+1) * B) ≤ P := by
        rw [← pow_succ, ← he]; exact Nat.div_mul_le_self _ _
      generalize Y / B^(m+1) = y at *
      generalize B^(m+1) = K at *
      have h4 : (B - 2) * Y ≤ (B - 2) * ((y + 1) * K) := Nat.mul_le_mul_left _ h2
      have h5 : (B - 2) * (y + 1) ≤ y * B := by unfold B; omega
      have h6 : (B - 2) * (y + 1) * K ≤ y * B * K := Nat.mul_le_mul_right _ h5
      rw [Nat.mul_assoc] at h6
      have h7 : y * B * K = y * (K * B) := by rw [Nat.mul_assoc, Nat.mul_comm B]
      omega
    have h8 := (Nat.le_div_iff_mul_le hY0).2 h1
    unfold B at *
    omega
  · rw [if_neg he]
    have hlt : P / B^(m+2) < Y / B^(m+1) := by
      have h1 : P / B^(m+2) ≤ Y / B^(m+1) := by
        rw [show Y / B^(m+1) = Y * B / B^(m+2) by rw [show m + 2 = (m + 1) + 1 from rfl, pow_succ (m+1), Nat.mul_div_mul_right _ _ B_pos]]
        exact Nat.div_le_div_right (Nat.le_of_lt hP)
      omega
    refine ⟨est_ge hM (Nat.lt_of_lt_of_le B_pos hVB), est_le hM (Nat.lt_of_lt_of_le hdB hVB) hY0, ?_⟩
    apply Nat.div_lt_of_lt_mul
    have h1 : P / B^m < (P / B^(m+2) + 1) * B^2 := by
      rw [← e1, Nat.mul_comm]; exact Nat.lt_mul_div_succ _ (Bp 2)
    have h2 : (P / B^(m+2) + 1) * B^2 ≤ Y / B^(m+1) * B^2 := Nat.mul_le_mul_right _ hlt
    have h3 : Y / B^(m+1) * B ≤ Y / B^m := by rw [← e2]; exact Nat.div_mul_le_self _ _
    have h4 : Y / B^(m+1) * B^2 ≤ Y / B^m * B := by
      rw [show B^2 = B * B from by rw [Nat.pow_succ, Nat.pow_one], ← Nat.mul_assoc]; exact Nat.mul_le_mul_right _ h3
    omega
/-- The loop of the estimate: T = x2 B + x1, of which q y1 + r is kept. -/
theorem est_more {q r T x0 y0 y1 : Nat} (h : q * y1 + r = T) (hc : r * B + x0 < q * y0) (hV : 0 < y1 * B + y0) : (T * B + x0) / (y1 * B + y0) < q := by
  rw [Nat.div_lt_iff_lt_mul hV]
  subst h
  rw [Nat.mul_add, Nat.add_mul, ← Nat.mul_assoc]
  omega
theorem est_done {q r T x0 y0 y1 : Nat} (h : q * y1 + r = T) (hc : ¬ r * B + x0 < q * y0) (hV : 0 < y1 * B + y0) (hq : (T * B + x0) / (y1 * B + y0) ≤ q) : (T * B + x0) / (y1 * B + y0) = q := by
  apply Nat.le_antisymm hq
  rw [Nat.le_div_iff_mul_le hV]
  subst h
  rw [Nat.mul_add, Nat.add_mul, ← Nat.mul_assoc]
  omega
theorem est_break {q r T x0 y0 y1 : Nat} (h : q * y1 + r = T) (hr : B ≤ r) (hq' : q < B) (hy : y0 < B) (hV : 0 < y1 * B + y0) (hq : (T * B + x0) / (y1 * B + y0) ≤ q) : (T * B + x0) / (y1 * B + y0) = q := by
  refine est_done h ?_ hV hq
  have h1 : q * y0 ≤ (B - 1) * (B - 1) := Nat.mul_le_mul (by omega) (by omega)
  have h2 : B * B ≤ r * B := Nat.mul_le_mul_right _ hr
  unfold B at *
  omega
theorem est_start {T x0 y0 y1 : Nat} (hx : x0 < B) (hy : 0 < y1) : (T * B + x0) / (y1 * B + y0) ≤ T / y1 := by
  have hV : 0 < y1 * B + y0 := Nat.lt_of_lt_of_le (Nat.mul_pos hy B_pos) (Nat.le_add_right _ _)
  apply Nat.le_of_lt_succ
  rw [Nat.div_lt_iff_lt_mul hV]
  have h1 : T + 1 ≤ (T / y1 + 1) * y1 := by rw [Nat.mul_comm]; exact Nat.lt_mul_div_succ T hy
  have h2 : (T + 1) * B ≤ (T / y1 + 1) * y1 * B := Nat.mul_le_mul_right _ h1
  rw [Nat.add_mul, Nat.one_mul] at h2
  rw [Nat.succ_eq_add_one, Nat.mul_add, ← Nat.mul_assoc]
  omega
theorem three_top {x0 x1 x2 : Nat} (h0 : x0 < B) (h1 : x1 < B) : ((x2 * B + x1) * B + x0) / B^2 = x2 := by
  rw [show B^2 = B * B by rw [Nat.pow_succ, Nat.pow_one], ← Nat.div_div_eq_div_mul, Nat.mul_comm, Nat.mul_add_div B_pos, Nat.div_eq_of_lt h0, Nat.add_zero, Nat.mul_comm, Nat.mul_add_div B_pos, Nat.div_eq_of_lt h1, Nat.add_zero]
theorem two_top {y0 y1 : Nat} (h0 : y0 < B) : (y1 * B + y0) / B = y1 := by
  rw [Nat.mul_comm, Nat.mul_add_div B_pos, Nat.div_eq_of_lt h0, Nat.add_zero]
theorem est_ne {x0 x1 x2 y0 y1 : Nat} (h0 : x0 < B) (h1 : x1 < B) (k0 : y0 < B) (h : x2 ≠ y1) : est ((x2 * B + x1) * B + x0) (y1 * B + y0) = ((x2 * B + x1) * B + x0) / (y1 * B + y0) := by
  unfold est
  rw [three_top h0 h1, two_top k0, if_neg h]
theorem est_eq {x0 x1 x2 y0 y1 : Nat} (h0 : x0 < B) (h1 : x1 < B) (k0 : y0 < B) (h : x2 = y1) : est ((x2 * B + x1) * B + x0) (y1 * B + y0) = 4294967295 := by
  unfold est
  rw [three_top h0 h1, two_top k0, if_pos h]
  rfl
/-- One limb of 'take away': the low limb of q y + c, and what is carried. -/
theorem take_step {S q Yl Pl c bo p y lo c' d bo' K : Nat} (h : S + q * Yl = Pl + (c + bo) * K) (hm : lo + c' * B = q * y + c) (hd : d + lo + bo = p + bo' * B) :
    (S + d * K) + q * (Yl + y * K) = (Pl + p * K) + (c' + bo') * (K * B) := by
  have e1 : (lo + c' * B) * K = (q * y + c) * K := by rw [hm]
  have e2 : (d + lo + bo) * K = (p + bo' * B) * K := by rw [hd]
  rw [Nat.mul_add, Nat.add_mul c' bo', ← Nat.mul_assoc q y K]
  rw [Nat.add_mul, Nat.add_mul, Nat.mul_assoc c', Nat.mul_comm B K] at e1
  rw [Nat.add_mul, Nat.add_mul, Nat.add_mul, Nat.mul_assoc bo', Nat.mul_comm B K] at e2
  rw [Nat.add_mul] at h
  omega
/-- What is left after the digit: no borrow. -/
theorem digit_keep {P Y q S Pl c p K : Nat} (hP : P = Pl + p * K) (hS : S + q * Y = Pl + c * K) (hY : Y ≤ K) (hd : P / Y ≤ q) (hY0 : 0 < Y) (hc : ¬ p < c) : q = P / Y ∧ S = P % Y := by
  obtain ⟨j, rfl⟩ : ∃ j, p = c + j := ⟨p - c, by omega⟩
  rw [Nat.add_mul] at hP
  have h2 : q ≤ P / Y := (Nat.le_div_iff_mul_le hY0).2 (by omega)
  have e : q = P / Y := by omega
  refine ⟨e, ?_⟩
  have h3 := Nat.div_add_mod' P Y
  have h4 := Nat.mod_lt P hY0
  rw [← e] at h3
  have h5 : j = 0 := by
    apply Nat.eq_zero_of_not_pos
    intro hj
    have : K ≤ j * K := Nat.le_mul_of_pos_left _ hj
    omega
  subst h5
  omega
/-- .. with a borrow: one was too many, and y is given back. -/
theorem digit_back {P Y q S Pl c p K S' cc : Nat} (hP : P = Pl + p * K) (hS : S + q * Y = Pl + c * K) (hSK : S < K) (hY : Y ≤ K) (hd : q ≤ P / Y + 1) (hY0 : 0 < Y) (hc : p < c) (hS' : S' + cc * K = S + Y) (hSK' : S' < K) (hcc : cc < 2) :
    q = P / Y + 1 ∧ S' = P % Y := by
  obtain ⟨j, rfl⟩ : ∃ j, c = p + (j + 1) := ⟨c - p - 1, by omega⟩
  rw [Nat.add_mul, Nat.add_mul j 1, Nat.one_mul] at hS
  have h1 : P < q * Y := by omega
  have h2 : P / Y < q := (Nat.div_lt_iff_lt_mul hY0).2 h1
  have e : q = P / Y + 1 := by omega
  refine ⟨e, ?_⟩
  have h3 := Nat.div_add_mod' P Y
  have h4 := Nat.mod_lt P hY0
  rw [e, Nat.add_mul, Nat.one_mul] at hS
  have hcc2 : cc = 0 ∨ cc = 1 := by omega
  have h5 : j = 0 := by
    apply Nat.eq_zero_of_not_pos
    intro hj
    have : K ≤ j * K := Nat.le_mul_of_pos_left _ hj
    omega
  subst h5
  rcases hcc2 with rfl | rfl <;> omega
/-- One round of the division: what the limbs hold before and after. -/
theorem long_step {R Q Y W0 i n : Nat} (hn : n ≤ i) (hYn : Y < B^n) (hY0 : 0 < Y) (h : R + Q * Y * B^(i + 1 - n) = W0) (hR : R < Y * B^(i + 1 - n)) :
    R / B^(i - n) < Y * B ∧
    (R % B^(i - n) + R / B^(i - n) % Y * B^(i - n)) + (R / B^(i - n) / Y + Q * B) * Y * B^(i - n) = W0 ∧
    R % B^(i - n) + R / B^(i - n) % Y * B^(i - n) < Y * B^(i - n) ∧
    R % B^(i - n) + R / B^(i - n) % Y * B^(i - n) < B^i := by
  obtain ⟨j, rfl⟩ : ∃ j, i = n + j := ⟨i - n, by omega⟩
  rw [show n + j + 1 - n = j + 1 by omega, pow_succ] at *
  rw [show n + j - n = j by omega]
  have hM := Bp j
  have h3 := split R j
  have h1 : R / B^j < Y * B := (Nat.div_lt_iff_lt_mul hM).2 (by rw [Nat.mul_assoc, Nat.mul_comm B]; exact hR)
  have h4 := Nat.div_add_mod' (R / B^j) Y
  have h5 := Nat.mod_lt (R / B^j) hY0
  have h6 := mod_lt_pow R j
  have h7 : R % B^j + R / B^j % Y * B^j < Y * B^j := by
    have : (R / B^j % Y + 1) * B^j ≤ Y * B^j := Nat.mul_le_mul_right _ h5
    rw [Nat.add_mul] at this
    omega
  refine ⟨h1, ?_, h7, ?_⟩
  · generalize R / B^j = P at *
    generalize R % B^j = L at *
    generalize P / Y = d at *
    generalize P % Y = r at *
    generalize B^j = M at *
    have e1 : (d + Q * B) * Y * M = d * Y * M + Q * Y * (M * B) := by
      rw [Nat.add_mul, Nat.add_mul]
      congr 1
      simp only [Nat.mul_comm, Nat.mul_left_comm]
    have e2 : P * M = d * Y * M + r * M := by rw [← h4, Nat.add_mul]
    omega
  · refine Nat.lt_of_lt_of_le h7 ?_
    rw [pow_add]
    exact Nat.mul_le_mul_right _ (Nat.le_of_lt hYn)
end PB

namespace PB
open Go
theorem est_l {r x : Nat} (hr : r < B) (hx : x < B) : bits BinOp.or IntKind.u64 (IntKind.u64.wrap (IntKind.u64.wrap (r : Int) * 4294967296)) (IntKind.u64.wrap (x : Int)) = ((r * B + x : Nat) : Int) := by
  unfold B at *
  have e1 : IntKind.u64.wrap (r : Int) = r := by rw [IntKind.wrap_u64]; omega
  have e2 : IntKind.u64.wrap (x : Int) = x := by rw [IntKind.wrap_u64]; omega
  have e3 : IntKind.u64.wrap ((r : Int) * 4294967296) = ((r * 4294967296 : Nat) : Int) := by rw [IntKind.wrap_u64]; omega
  rw [e1, e2, e3, u64_or_nat (r * 4294967296) x (by omega) (by omega), nat_join 32 _ _ (by omega) (by omega)]
theorem est_r {q y : Nat} (hq : q < B) (hy : y < B) : IntKind.u64.wrap (IntKind.u64.wrap (q : Int) * IntKind.u64.wrap (y : Int)) = ((q * y : Nat) : Int) := by
  have h := mul_le hq hy
  have e1 : IntKind.u64.wrap (q : Int) = q := by rw [IntKind.wrap_u64]; unfold B at *; omega
  have e2 : IntKind.u64.wrap (y : Int) = y := by rw [IntKind.wrap_u64]; unfold B at *; omega
  rw [e1, e2, ← Int.natCast_mul, IntKind.wrap_u64]
  generalize q * y = p at *
  omega
end PB
namespace Go.Proofs.Ytdgfmkideghhaaa
open Go.RowKit PB
theorem quiet_at {P : Program} {f : FuncId} {args : Array Value} {w : World} {k n : Nat} {v : Value}
    (h : Calls P f args (w.drewN (k + n)) fun e w' => e = .returned v ∧ ∃ m, w' = (w.drewN (k + n)).drewN m) : Calls P f args (w.drewN (k + n)) fun e w'' => e = .returned v ∧ ∃ m, w'' = w.drewN (k + m) :=
  h.mono fun _ _ ⟨he, m, hm⟩ => ⟨he, n + m, by rw [hm, World.drewN_drewN, Nat.add_assoc]⟩

set_option maxHeartbeats 1600000 in
set_option maxRecDepth 100000 in
theorem estimate_limbs (bx ox cx by_ oy cy x0 x1 x2 y0 y1 : Nat) (w : World) (c0 : w.cell? ⟨bx, ox, none⟩ = some (.int .u32 x0)) (c1 : w.cell? ⟨bx, ox + 1, none⟩ = some (.int .u32 x1)) (c2 : w.cell? ⟨bx, ox + 2, none⟩ = some (.int .u32 x2))
    (d0 : w.cell? ⟨by_, oy, none⟩ = some (.int .u32 y0)) (d1 : w.cell? ⟨by_, oy + 1, none⟩ = some (.int .u32 y1)) (h0 : x0 < B) (h1 : x1 < B) (k0 : y0 < B) (k1 : y1 < B) (hy : 2147483648 ≤ y1) (hx : x2 ≤ y1) (E : Nat) (hE : E = est ((x2 * B + x1) * B + x0) (y1 * B + y0)) :
    Calls Try.prog 147 #[.slice (some ⟨bx, ox, none⟩) 3 cx, .slice (some ⟨by_, oy, none⟩) 2 cy] w fun e w' => e = .returned (.int .u32 E) ∧ ∃ m, w' = w.drewN m := by
  have HE := Lib.hid hE
  clear hE
  by_cases he : x2 = y1
  · have HQ := Lib.hid he
    have hz : ((x2 : Int) == (y1 : Int)) = true := by simp [he]
    clear he
    go_enter Try.func147, Try.ntmps147
    go_wp2_with fail
    go_quiet (fail)
    go_wp2_with fail
    go_ret
    rw [HE.out, est_eq h0 h1 k0 HQ.out]
    exact ⟨rfl, _, rfl⟩
  · have hz : ((x2 : Int) == (y1 : Int)) = false := by simp; omega
    have hlt : x2 < y1 := by omega
    clear he
    go_enter Try.func147, Try.ntmps147
    go_wp2_with fail
    go_quiet (fail)
    go_wp2_with fail
    go_quiet (first | (go_at_call 136; refine quiet_at (div32_any _ _ _ _ hlt h1 k1)))
    go_wp2_with fail
    have hV0 : 0 < y1 * B + y0 := by unfold B; omega
    have hA : (x2 * B + x1) / y1 < B := Nat.div_lt_of_lt_mul (by
      have : (x2 + 1) * B ≤ y1 * B := Nat.mul_le_mul_right _ hlt
      rw [Nat.add_mul] at this
      omega)
    have hdm := Nat.div_add_mod' (x2 * B + x1) y1
    have hA2 : (x2 * B + x1) % y1 < B := Nat.lt_trans (Nat.mod_lt _ (by omega)) k1
    have hA3 := Lib.hid (est_start (T := x2 * B + x1) (y0 := y0) h0 (show 0 < y1 by omega))
    have hest := est_ne h0 h1 k0 (show x2 ≠ y1 by omega)
    have HE := Lib.hid (HE.out.trans hest)
    have hdm := Lib.hid hdm
    have hA := Lib.hid hA
    have hA2 := Lib.hid hA2
    clear hest
    go_loopw [5, 6] (fun q r wr => ∃ q' r' m : Nat, q = .int .u32 q' ∧ r = .int .u32 r' ∧ q' < B ∧ r' < B ∧ Hid (q' * y1 + r' = x2 * B + x1) ∧ Hid (((x2 * B + x1) * B + x0) / (y1 * B + y0) ≤ q') ∧ wr = w.drewN m) (fun q _ _ => (intOf q).toNat)
    case atStart => exact ⟨_, _, _, rfl, rfl, hA.out, hA2.out, hdm, hA3, World.drewN_drewN _ _ _⟩
    case round =>
      obtain ⟨q', r', m, rfl, rfl, hq, hr, hE1, hE2, rfl⟩ := hrel
      have L1 := est_l hr h0
      have L2 := est_r hq k0
      by_cases hc : r' * B + x0 < q' * y0
      · have T1 : Hid (decide (bits BinOp.or IntKind.u64 (IntKind.u64.wrap (IntKind.u64.wrap (r' : Int) * 4294967296)) (IntKind.u64.wrap (x0 : Int)) < IntKind.u64.wrap (IntKind.u64.wrap (q' : Int) * IntKind.u64.wrap (y0 : Int)) ) = true) := Lib.hid (decide_eq_true (by rw [L1, L2]; exact Int.ofNat_lt.2 hc))
        have HM := est_more hE1.out hc hV0
        obtain ⟨j, hj⟩ : ∃ j, q' = j + 1 := ⟨q' - 1, by have := Nat.lt_of_le_of_lt (Nat.zero_le _) HM; omega⟩
        have HM2 := Lib.hid (show ((x2 * B + x1) * B + x0) / (y1 * B + y0) ≤ j by omega)
        have HN2 := Lib.hid (show j * y1 + (r' + y1) = x2 * B + x1 by have := hE1.out; rw [hj, Nat.add_mul, Nat.one_mul] at this; omega)
        have HJ := Lib.hid hj
        clear L1 L2 hc HM hE1 hE2 hj
        by_cases hr2 : B ≤ r' + y1
        · have T2 : ((r' : Int) + y1) % 4294967296 < y1 := by unfold B at *; omega
          have HB2 := Lib.hid hr2
          clear hr2
          go_wp2_with fail
          go_quiet (fail)
          rw [T1.out]
          go_wp2_with fail
          go_ret
          have := est_break HN2.out HB2.out (by have := HJ.out; unfold B at *; omega) k0 hV0 HM2.out
          rw [HE.out, this]
          exact ⟨congrArg (fun z => Ending.returned (Value.int IntKind.u32 z)) (by have := HJ.out; unfold B at *; omega), _, rfl⟩
        · have T2 : decide (((r' : Int) + y1) % 4294967296 < y1) = false := decide_eq_false (by unfold B at *; omega)
          have HB2 := Lib.hid hr2
          clear hr2
          go_wp2_with fail
          go_quiet (fail)
          rw [T1.out]
          go_wp2_with fail
          go_roundw
          case rel =>
            have := HB2.out
            have := HJ.out
            refine ⟨j, r' + y1, m + nq, ?_, ?_, by omega, by omega, HN2, HM2, rfl⟩
            · exact congrArg (Value.int IntKind.u32) (by unfold B at *; omega)
            · exact congrArg (Value.int IntKind.u32) (by unfold B at *; omega)
          case measure => simp [intOf]; have := HJ.out; unfold B at *; omega
      · have T1 : Hid (decide (bits BinOp.or IntKind.u64 (IntKind.u64.wrap (IntKind.u64.wrap (r' : Int) * 4294967296)) (IntKind.u64.wrap (x0 : Int)) < IntKind.u64.wrap (IntKind.u64.wrap (q' : Int) * IntKind.u64.wrap (y0 : Int)) ) = false) := Lib.hid (decide_eq_false (by rw [L1, L2]; exact fun h => hc (Int.ofNat_lt.1 h)))
        have HC := Lib.hid hc
        clear L1 L2 hc
        go_wp2_with fail
        go_quiet (fail)
        rw [T1.out]
        go_wp2_with fail
        go_ret
        have := est_done hE1.out HC.out hV0 hE2.out
        rw [HE.out, this]
        exact ⟨rfl, _, World.drewN_drewN _ _ _⟩
end Go.Proofs.Ytdgfmkideghhaaa

/-
  integer.digit: one digit of a quotient, and the remainder in place.
-/
import Derived.Test.YteggfjahjanabaaTake
namespace PB
theorem three_limbs {U : Nat} (h : U < B^3) : (dg U 2 * B + dg U 1) * B + dg U 0 = U := by
  have h0 := div_succ U 0
  have h1 := div_succ U 1
  have h2 := div_succ U 2
  have h3 : U / B^(2+1) = 0 := Nat.div_eq_of_lt h
  rw [h3, Nat.zero_mul, Nat.zero_add] at h2
  rw [Nat.pow_zero, Nat.div_one] at h0
  rw [← h2, ← h1, ← h0]
theorem two_limbs {U : Nat} (h : U < B^2) : dg U 1 * B + dg U 0 = U := by
  have h0 := div_succ U 0
  have h1 := div_succ U 1
  have h3 : U / B^(1+1) = 0 := Nat.div_eq_of_lt h
  rw [h3, Nat.zero_mul, Nat.zero_add] at h1
  rw [Nat.pow_zero, Nat.div_one] at h0
  rw [← h1, ← h0]
theorem top_le {P Y m : Nat} (hP : P < Y * B) (hP3 : P < B^(m+3)) (hY2 : Y < B^(m+2)) (hb : 2147483648 * B^(m+1) ≤ Y) : dg P (m+2) ≤ dg Y (m+1) ∧ 2147483648 ≤ dg Y (m+1) := by
  have e1 : dg P (m+2) = P / B^(m+2) := by
    unfold dg; exact Nat.mod_eq_of_lt (Nat.div_lt_of_lt_mul (by rw [← pow_succ]; exact hP3))
  have e2 : dg Y (m+1) = Y / B^(m+1) := by
    unfold dg; exact Nat.mod_eq_of_lt (Nat.div_lt_of_lt_mul (by rw [← pow_succ]; exact hY2))
  rw [e1, e2]
  refine ⟨?_, (Nat.le_div_iff_mul_le (Bp _)).2 hb⟩
  rw [show Y / B^(m+1) = Y * B / B^(m+2) by rw [show m + 2 = (m + 1) + 1 from rfl, pow_succ (m+1), Nat.mul_div_mul_right _ _ B_pos]]
  exact Nat.div_le_div_right (Nat.le_of_lt hP)
end PB
namespace Go.Proofs.Yteggfjahjanabaa
open Go.RowKit PB

set_option maxHeartbeats 1600000 in
set_option maxRecDepth 100000 in
theorem digit_any (b off n m cp P by_ oy cy Y : Nat) (w : World) (hm : n = m + 2) (hP : Num w b off (n + 1) P) (hF : Free w b off n) (hY : Num w by_ oy n Y) (hne : by_ ≠ b) (hn : n ≤ 1000000000) (hcp : n + 1 ≤ cp) (hcy : n ≤ cy)
    (hb : 2147483648 * B^(m+1) ≤ Y) (hlt : P < Y * B) :
    Calls Try.prog 80 #[.slice (some ⟨b, off, none⟩) (n + 1 : Nat) cp, .slice (some ⟨by_, oy, none⟩) n cy] w fun e w' => e = .returned (.int .u32 (P / Y : Nat)) ∧ Num w' b off n (P % Y) ∧ Wr w w' b off (off + n) := by
  have hPn := hP.lt
  have hYn := hY.lt
  have hY0 : 0 < Y := Nat.lt_of_lt_of_le (Nat.mul_pos (by decide) (Bp _)) hb
  have hU := hP.high (k := m) (by omega)
  have hV := hY.high (k := m) (by omega)
  rw [show n + 1 - m = 3 by omega] at hU
  rw [show n - m = 2 by omega] at hV
  have hTop := top_le (m := m) hlt (by rw [show m + 3 = n + 1 by omega]; exact hPn) (by rw [show m + 2 = n by omega]; exact hYn) hb
  have hest := est_all (m := m) hlt (by rw [← hm]; exact hYn) hb
  obtain ⟨q, hq⟩ : ∃ q, q = est (P / B^m) (Y / B^m) := ⟨_, rfl⟩
  rw [← hq] at hest
  have x0 := hU.cell (i := 0) (by omega)
  have x1 := hU.cell (i := 1) (by omega)
  have x2 := hU.cell (i := 2) (by omega)
  have y0 := hV.cell (i := 0) (by omega)
  have y1 := hV.cell (i := 1) (by omega)
  rw [Nat.add_zero] at x0 y0
  have hE : q = est ((dg (P / B^m) 2 * B + dg (P / B^m) 1) * B + dg (P / B^m) 0) (dg (Y / B^m) 1 * B + dg (Y / B^m) 0) := by
    rw [three_limbs hU.lt, two_limbs hV.lt]; exact hq
  have t1 : 2147483648 ≤ dg (Y / B^m) 1 := by rw [dg_div]; exact hTop.2
  have t2 : dg (P / B^m) 2 ≤ dg (Y / B^m) 1 := by rw [dg_div, dg_div]; exact hTop.1
  have s1 : n + 1 - m = 3 := by omega
  have s2 : n - m = 2 := by omega
  have EST := Lib.hid (show ∀ (cx cy nx : Nat), Calls Try.prog 96 #[.slice (some ⟨b, off + m, none⟩) (n + 1 - m) cx, .slice (some ⟨by_, oy + m, none⟩) (n - m) cy] (w.drewN nx) fun e w' => e = .returned (.int .u32 q) ∧ ∃ m, w' = (w.drewN nx).drewN m by
    intro cx cy nx
    rw [s1, s2]
    exact estimate_limbs b (off + m) cx by_ (oy + m) cy _ _ _ _ _ (w.drewN nx) x0 x1 x2 y0 y1 (dg_lt _ _) (dg_lt _ _) (dg_lt _ _) (dg_lt _ _) t1 t2 q hE)
  clear x0 x1 x2 y0 y1 hE t1 t2 s1 s2
  obtain ⟨q1, q2, q3⟩ := hest
  have Q1 := Lib.hid q1
  have Q2 := Lib.hid q2
  have HB := Lib.hid hlt
  have HB2 := Lib.hid hb
  have e1 : (n : Int) - 2 = m := by omega
  have i1 : (m : Int) ≤ n + 1 := by omega
  have i2 : (0 : Int) ≤ m := by omega
  have i3 : ¬ (cp = m) := by omega
  have i4 : ¬ (cy = m) := by omega
  have i5 : (m : Int) ≤ n := by omega
  have HM := Lib.hid hm
  clear hU hV hTop hq q1 q2 hlt hb hm
  go_enter Try.func80, Try.ntmps80
  go_wp2_with fail
  go_quiet (first | (go_at_call 96; refine Calls.quiet_of (EST.out _ _ _)))
  go_wp2_with fail
  refine (takeAway_any b off n cp P by_ oy cy Y q _ hP.drewN (by exact hF) hY.drewN hne q3 hn).mono ?_
  rintro e w1 ⟨S, c, rfl, hSK, hE, hN, hW⟩
  have hW := hW.undrewN
  have HE := Lib.hid hE
  have HS := Lib.hid hSK
  have hsp := split P n
  have HP2 := Lib.hid (show P = P % B^n + dg P n * B^n by
    have : dg P n = P / B^n := by unfold dg; exact Nat.mod_eq_of_lt (Nat.div_lt_of_lt_mul (by rw [← pow_succ]; exact hPn))
    rw [this]; exact hsp)
  clear hE hSK hsp
  by_cases hc : dg P n < c
  · rw [decide_eq_true hc]
    have HC := Lib.hid hc
    clear hc
    go_wp2_with fail
    refine (giveBack_any b off n cp S by_ oy cy Y w1 hN (hW.free hF) (hW.num hY (fun _ => Or.inl hne)) hne hn).mono ?_
    rintro e w2 ⟨T, c2, rfl, hTK, hc2, hE2, hN2, hW2⟩
    have d := digit_back HP2.out HE.out HS.out (Nat.le_of_lt hYn) Q2.out hY0 HC.out hE2 hTK hc2
    have D1 := Lib.hid d.1
    have D2 := Lib.hid d.2
    clear hE2 d
    go_wp2_with fail
    go_ret
    refine ⟨congrArg (fun z => Ending.returned (Value.int IntKind.u32 z)) ?_, hN2.val D2.out, hW.trans hW2⟩
    have := D1.out
    generalize P / Y = d at *
    unfold B at *
    omega
  · rw [decide_eq_false hc]
    have d := digit_keep HP2.out HE.out (Nat.le_of_lt hYn) Q1.out hY0 hc
    have D1 := Lib.hid d.1
    have D2 := Lib.hid d.2
    clear hc d
    go_wp2_with fail
    go_ret
    rw [D1.out]
    exact ⟨rfl, hN.val D2.out, hW⟩
end Go.Proofs.Yteggfjahjanabaa

/-
  integer.takeAway subtracts a multiple in place; integer.giveBack adds in place.
  integer.digit: one digit of a quotient, and the remainder in place.
  integer.sink divides limbs by a power of 2, in place.
  integer.raise multiplies limbs by a power of 2, into new memory.
-/
import Derived.Test.YtdgfmkideghhaaaM16
import Derived.Test.YtdgfmkideghhaaaM17
import Derived.Test.YtdgfmkideghhaaaM20
namespace PB
open Go
theorem take_wrap {q y c : Nat} (hq : q < B) (hy : y < B) (hc : c < B) : IntKind.u64.wrap ((c : Int) + IntKind.u64.wrap (IntKind.u64.wrap (q : Int) * IntKind.u64.wrap (y : Int))) = ((c + (q * y + 0) : Nat) : Int) := by
  have h := mul_le hq hy
  rw [est_r hq hy, IntKind.wrap_u64]
  generalize q * y = p at *
  unfold B at *
  omega
theorem take_lo {q y c : Nat} (hq : q < B) (hy : y < B) (hc : c < B) : IntKind.u64.wrap ((c : Int) + IntKind.u64.wrap (IntKind.u64.wrap (q : Int) * IntKind.u64.wrap (y : Int))) % 4294967296 = (mulLo q y 0 c : Nat) := by
  rw [take_wrap hq hy hc]; exact (Int.natCast_emod _ _).symm
theorem take_hi {q y c : Nat} (hq : q < B) (hy : y < B) (hc : c < B) : IntKind.u64.wrap ((c : Int) + IntKind.u64.wrap (IntKind.u64.wrap (q : Int) * IntKind.u64.wrap (y : Int))) / 4294967296 = (mulHi q y 0 c : Nat) := by
  rw [take_wrap hq hy hc]; exact (Int.natCast_ediv _ _).symm
theorem sub_neg {x y c : Nat} (hx : x < B) (hy : y < B) (hc : c < 2) : ((subHi x y c : Int) != 0) = decide (x < y + c) := by
  have h1 := sub_lo_hi hx hy hc
  have h2 := subHi_lt x y c
  have h3 := subLo_lt x y c
  by_cases h : x < y + c
  · have : subHi x y c = 1 := by
      have : subHi x y c = 0 ∨ subHi x y c = 1 := by omega
      rcases this with e | e
      · rw [e] at h1; omega
      · exact e
    rw [this, decide_eq_true h]; rfl
  · have : subHi x y c = 0 := by
      have : subHi x y c = 0 ∨ subHi x y c = 1 := by omega
      rcases this with e | e
      · exact e
      · rw [e] at h1; unfold B at *; omega
    rw [this, decide_eq_false h]; rfl
theorem low_put {S P k d : Nat} (hS : S < B^k) : put (S + P / B^k * B^k) k d = (S + d * B^k) + P / B^(k+1) * B^(k+1) := by
  unfold put
  rw [Nat.add_mul_mod_self_right, mod_of_lt hS]
  have : (S + P / B^k * B^k) / B^(k+1) = P / B^(k+1) := by
    rw [pow_succ, ← Nat.div_div_eq_div_mul, Nat.add_mul_div_right _ _ (Bp k), Nat.div_eq_of_lt hS, Nat.zero_add, Nat.div_div_eq_div_mul]
  rw [this]
theorem low_dg {S P k : Nat} (hS : S < B^k) : dg (S + P / B^k * B^k) k = dg P k := by
  have h := dg_add_hi (i := 0) (d := P / B^k) hS
  rwa [Nat.add_zero, dg_div, Nat.add_zero] at h
theorem low_val {S P k : Nat} (hS : S < B^k) : (S + P / B^k * B^k) % B^k = S := by
  rw [Nat.add_mul_mod_self_right, mod_of_lt hS]
end PB
namespace Go.Proofs.Ytdgfmkideghhaaa
open Go.RowKit PB

set_option maxHeartbeats 1600000 in
set_option maxRecDepth 100000 in
theorem takeAway_any (b off n cp P by_ oy cy Y q : Nat) (w : World) (hP : Num w b off (n + 1) P) (hF : Free w b off n) (hY : Num w by_ oy n Y) (hne : by_ ≠ b) (hq : q < B) (hn : n ≤ 1000000000) :
    Calls Try.prog 148 #[.slice (some ⟨b, off, none⟩) (n + 1 : Nat) cp, .slice (some ⟨by_, oy, none⟩) n cy, .int .u32 q] w fun e w' => ∃ S c, e = .returned (.bool (decide (dg P n < c))) ∧ S < B^n ∧ S + q * Y = P % B^n + c * B^n ∧ Num w' b off n S ∧ Wr w w' b off (off + n) := by
  go_enter Try.func148, Try.ntmps148
  go_wp2_with fail
  go_loopw [8, 9, 16] (fun c bo i wr => ∃ k cc bb S : Nat, k ≤ n ∧ cc < B ∧ bb < 2 ∧ S < B^k ∧ c = .int .u64 cc ∧ bo = .int .u32 bb ∧ i = .int .i64 k ∧ Hid (S + q * (Y % B^k) = P % B^k + (cc + bb) * B^k) ∧ Num wr b off (n + 1) (S + P / B^k * B^k) ∧ Wr w wr b off (off + n)) (fun _ _ i _ => n - (intOf i).toNat)
  case atStart => exact ⟨0, 0, 0, 0, by omega, by decide, by omega, Bp _, rfl, rfl, rfl, Lib.hid (by simp [Nat.mod_one]), hP.val (by simp), Wr.refl _ _ _ _⟩
  case round =>
    obtain ⟨k, cc, bb, S, hk, hcc, hbb, hSk, rfl, rfl, rfl, hE, hN, hw⟩ := hrel
    by_cases hlt : k < n
    · have c1 := hN.cell (i := k) (by omega)
      rw [low_dg hSk] at c1
      have c2 := (hw.num hY (fun _ => Or.inl hne)).cell (i := k) (by omega)
      have f1 := (hw.free hF).at (i := k) (by omega)
      obtain ⟨p, hp⟩ : ∃ p, dg P k = p := ⟨_, rfl⟩
      obtain ⟨y, hy⟩ : ∃ y, dg Y k = y := ⟨_, rfl⟩
      have hpB : p < B := hp ▸ dg_lt P k
      have hyB : y < B := hy ▸ dg_lt Y k
      rw [hp] at c1
      rw [hy] at c2
      have HP := Lib.hid hp
      have HY := Lib.hid hy
      have HS := Lib.hid hSk
      clear hp hy hSk
      have i1 : (k : Int) < n := by omega
      have i2 : (0 : Int) ≤ k := by omega
      have i3 : (k : Int) < n + 1 := by omega
      go_wp2_with (go_at_call 146; rw [take_lo hq hyB hcc]; refine (sub32_any _ _ _ _ hpB (mulLo_lt _ _ _ _) hbb).mono ?_; rintro e w' ⟨rfl, rfl⟩)
      go_roundw
      case rel =>
        rw [take_hi hq hyB hcc]
        refine ⟨k + 1, mulHi q y 0 cc, subHi p (mulLo q y 0 cc) bb, S + subLo p (mulLo q y 0 cc) bb * B^k, by omega, mulHi_lt hq hyB (by decide) hcc, subHi_lt _ _ _, add_lt_pow HS.out (subLo_lt _ _ _), rfl, rfl, by go_num, Lib.hid ?_, ?_, ?_⟩
        · rw [mod_succ P, mod_succ Y, HP.out, HY.out, pow_succ]
          exact take_step hE.out (mul_lo_hi q y 0 cc) (sub_lo_hi hpB (mulLo_lt _ _ _ _) hbb)
        · rw [← low_put HS.out]
          exact hN.set (by omega) (subLo_lt _ _ _)
        · exact hw.set _ _ (by omega) (by omega)
      case measure => simp [intOf]; omega
    · obtain rfl : k = n := by omega
      have c1 := hN.cell (i := k) (by omega)
      rw [low_dg hSk] at c1
      have hpB := dg_lt P k
      have i2 : (0 : Int) ≤ k := by omega
      have i3 : (k : Int) < k + 1 := by omega
      have j3 : (cc : Int) % 4294967296 = cc := by unfold B at hcc; omega
      go_wp2_with (go_at_call 146; refine (sub32_any _ _ _ _ hpB hcc hbb).mono ?_; rintro e w' ⟨rfl, rfl⟩)
      go_ret
      have h0 := hN.low (k := k) (by omega)
      rw [low_val hSk] at h0
      have h1 := hE.out
      rw [mod_of_lt hY.lt] at h1
      refine ⟨S, cc + bb, ?_, hSk, h1, h0, hw⟩
      rw [sub_neg hpB hcc hbb]
      rfl

set_option maxHeartbeats 1600000 in
set_option maxRecDepth 100000 in
theorem giveBack_any (b off n cp T by_ oy cy Y : Nat) (w : World) (hT : Num w b off n T) (hF : Free w b off n) (hY : Num w by_ oy n Y) (hne : by_ ≠ b) (hn : n ≤ 1000000000) :
    Calls Try.prog 149 #[.slice (some ⟨b, off, none⟩) (n + 1 : Nat) cp, .slice (some ⟨by_, oy, none⟩) n cy] w fun e w' => ∃ S c, e = .returned (.tuple #[]) ∧ S < B^n ∧ c < 2 ∧ S + c * B^n = T + Y ∧ Num w' b off n S ∧ Wr w w' b off (off + n) := by
  go_enter Try.func149, Try.ntmps149
  go_wp2_with fail
  go_loopw [4, 9] (fun c i wr => ∃ k cc S : Nat, k ≤ n ∧ cc < 2 ∧ S < B^k ∧ c = .int .u32 cc ∧ i = .int .i64 k ∧ Hid (S + cc * B^k = T % B^k + Y % B^k) ∧ Num wr b off n (S + T / B^k * B^k) ∧ Wr w wr b off (off + n)) (fun _ i _ => n - (intOf i).toNat)
  case atStart => exact ⟨0, 0, 0, by omega, by omega, Bp _, rfl, rfl, Lib.hid (by simp [Nat.mod_one]), hT.val (by simp), Wr.refl _ _ _ _⟩
  case round =>
    obtain ⟨k, cc, S, hk, hcc, hSk, rfl, rfl, hE, hN, hw⟩ := hrel
    by_cases hlt : k < n
    · have c1 := hN.cell (i := k) (by omega)
      rw [low_dg hSk] at c1
      have c2 := (hw.num hY (fun _ => Or.inl hne)).cell (i := k) (by omega)
      have f1 := (hw.free hF).at (i := k) (by omega)
      have hx := dg_lt T k
      have hy := dg_lt Y k
      have HS := Lib.hid hSk
      clear hSk
      have i1 : (k : Int) < n := by omega
      have i2 : (0 : Int) ≤ k := by omega
      have i3 : (k : Int) < n + 1 := by omega
      go_wp2_with (go_at_call 145; refine (add32_any _ _ _ _ hx hy hcc).mono ?_; rintro e w' ⟨rfl, rfl⟩)
      go_roundw
      case rel =>
        refine ⟨k + 1, addHi (dg T k) (dg Y k) cc, S + addLo (dg T k) (dg Y k) cc * B^k, by omega, addHi_lt hx hy hcc, add_lt_pow HS.out (addLo_lt _ _ _), rfl, by go_num, Lib.hid ?_, ?_, ?_⟩
        · rw [mod_succ T, mod_succ Y, pow_succ]
          exact add_step hE.out (add_lo_hi _ _ _)
        · rw [← low_put HS.out]
          exact hN.set (by omega) (addLo_lt _ _ _)
        · exact hw.set _ _ (by omega) (by omega)
      case measure => simp [intOf]; omega
    · obtain rfl : k = n := by omega
      go_wp2_with fail
      go_end0
      have h0 := hN
      rw [Nat.div_eq_of_lt hT.lt, Nat.zero_mul, Nat.add_zero] at h0
      have h1 := hE.out
      rw [mod_of_lt hY.lt, mod_of_lt hT.lt] at h1
      exact ⟨S, cc, rfl, hSk, hcc, h1, h0, hw⟩
end Go.Proofs.Ytdgfmkideghhaaa

namespace PB
theorem three_limbs {U : Nat} (h : U < B^3) : (dg U 2 * B + dg U 1) * B + dg U 0 = U := by
  have h0 := div_succ U 0
  have h1 := div_succ U 1
  have h2 := div_succ U 2
  have h3 : U / B^(2+1) = 0 := Nat.div_eq_of_lt h
  rw [h3, Nat.zero_mul, Nat.zero_add] at h2
  rw [Nat.pow_zero, Nat.div_one] at h0
  rw [← h2, ← h1, ← h0]
theorem two_limbs {U : Nat} (h : U < B^2) : dg U 1 * B + dg U 0 = U := by
  have h0 := div_succ U 0
  have h1 := div_succ U 1
  have h3 : U / B^(1+1) = 0 := Nat.div_eq_of_lt h
  rw [h3, Nat.zero_mul, Nat.zero_add] at h1
  rw [Nat.pow_zero, Nat.div_one] at h0
  rw [← h1, ← h0]
theorem top_le {P Y m : Nat} (hP : P < Y * B) (hP3 : P < B^(m+3)) (hY2 : Y < B^(m+2)) (hb : 2147483648 * B^(m+1) ≤ Y) : dg P (m+2) ≤ dg Y (m+1) ∧ 2147483648 ≤ dg Y (m+1) := by
  have e1 : dg P (m+2) = P / B^(m+2) := by
    unfold dg; exact Nat.mod_eq_of_lt (Nat.div_lt_of_lt_mul (by rw [← pow_succ]; exact hP3))
  have e2 : dg Y (m+1) = Y / B^(m+1) := by
    unfold dg; exact Nat.mod_eq_of_lt (Nat.div_lt_of_lt_mul (by rw [← pow_succ]; exact hY2))
  rw [e1, e2]
  refine ⟨?_, (Nat.le_div_iff_mul_le (Bp _)).2 hb⟩
  rw [show Y / B^(m+1) = Y * B / B^(m+2) by rw [show m + 2 = (m + 1) + 1 from rfl, pow_succ (m+1), Nat.mul_div_mul_right _ _ B_pos]]
  exact Nat.div_le_div_right (Nat.le_of_lt hP)
end PB
namespace Go.Proofs.Ytdgfmkideghhaaa
open Go.RowKit PB

set_option maxHeartbeats 1600000 in
set_option maxRecDepth 100000 in
theorem digit_any (b off n m cp P by_ oy cy Y : Nat) (w : World) (hm : n = m + 2) (hP : Num w b off (n + 1) P) (hF : Free w b off n) (hY : Num w by_ oy n Y) (hne : by_ ≠ b) (hn : n ≤ 1000000000) (hcp : n + 1 ≤ cp) (hcy : n ≤ cy)
    (hb : 2147483648 * B^(m+1) ≤ Y) (hlt : P < Y * B) :
    Calls Try.prog 120 #[.slice (some ⟨b, off, none⟩) (n + 1 : Nat) cp, .slice (some ⟨by_, oy, none⟩) n cy] w fun e w' => e = .returned (.int .u32 (P / Y : Nat)) ∧ Num w' b off n (P % Y) ∧ Wr w w' b off (off + n) := by
  have hPn := hP.lt
  have hYn := hY.lt
  have hY0 : 0 < Y := Nat.lt_of_lt_of_le (Nat.mul_pos (by decide) (Bp _)) hb
  have hU := hP.high (k := m) (by omega)
  have hV := hY.high (k := m) (by omega)
  rw [show n + 1 - m = 3 by omega] at hU
  rw [show n - m = 2 by omega] at hV
  have hTop := top_le (m := m) hlt (by rw [show m + 3 = n + 1 by omega]; exact hPn) (by rw [show m + 2 = n by omega]; exact hYn) hb
  have hest := est_all (m := m) hlt (by rw [← hm]; exact hYn) hb
  obtain ⟨q, hq⟩ : ∃ q, q = est (P / B^m) (Y / B^m) := ⟨_, rfl⟩
  rw [← hq] at hest
  have x0 := hU.cell (i := 0) (by omega)
  have x1 := hU.cell (i := 1) (by omega)
  have x2 := hU.cell (i := 2) (by omega)
  have y0 := hV.cell (i := 0) (by omega)
  have y1 := hV.cell (i := 1) (by omega)
  rw [Nat.add_zero] at x0 y0
  have hE : q = est ((dg (P / B^m) 2 * B + dg (P / B^m) 1) * B + dg (P / B^m) 0) (dg (Y / B^m) 1 * B + dg (Y / B^m) 0) := by
    rw [three_limbs hU.lt, two_limbs hV.lt]; exact hq
  have t1 : 2147483648 ≤ dg (Y / B^m) 1 := by rw [dg_div]; exact hTop.2
  have t2 : dg (P / B^m) 2 ≤ dg (Y / B^m) 1 := by rw [dg_div, dg_div]; exact hTop.1
  have s1 : n + 1 - m = 3 := by omega
  have s2 : n - m = 2 := by omega
  have EST := Lib.hid (show ∀ (cx cy nx : Nat), Calls Try.prog 147 #[.slice (some ⟨b, off + m, none⟩) (n + 1 - m) cx, .slice (some ⟨by_, oy + m, none⟩) (n - m) cy] (w.drewN nx) fun e w' => e = .returned (.int .u32 q) ∧ ∃ m, w' = (w.drewN nx).drewN m by
    intro cx cy nx
    rw [s1, s2]
    exact estimate_limbs b (off + m) cx by_ (oy + m) cy _ _ _ _ _ (w.drewN nx) x0 x1 x2 y0 y1 (dg_lt _ _) (dg_lt _ _) (dg_lt _ _) (dg_lt _ _) t1 t2 q hE)
  clear x0 x1 x2 y0 y1 hE t1 t2 s1 s2
  obtain ⟨q1, q2, q3⟩ := hest
  have Q1 := Lib.hid q1
  have Q2 := Lib.hid q2
  have HB := Lib.hid hlt
  have HB2 := Lib.hid hb
  have e1 : (n : Int) - 2 = m := by omega
  have i1 : (m : Int) ≤ n + 1 := by omega
  have i2 : (0 : Int) ≤ m := by omega
  have i3 : ¬ (cp = m) := by omega
  have i4 : ¬ (cy = m) := by omega
  have i5 : (m : Int) ≤ n := by omega
  have HM := Lib.hid hm
  clear hU hV hTop hq q1 q2 hlt hb hm
  go_enter Try.func120, Try.ntmps120
  go_wp2_with fail
  go_quiet (first | (go_at_call 147; refine Calls.quiet_of (EST.out _ _ _)))
  go_wp2_with fail
  refine (takeAway_any b off n cp P by_ oy cy Y q _ hP.drewN (by exact hF) hY.drewN hne q3 hn).mono ?_
  rintro e w1 ⟨S, c, rfl, hSK, hE, hN, hW⟩
  have hW := hW.undrewN
  have HE := Lib.hid hE
  have HS := Lib.hid hSK
  have hsp := split P n
  have HP2 := Lib.hid (show P = P % B^n + dg P n * B^n by
    have : dg P n = P / B^n := by unfold dg; exact Nat.mod_eq_of_lt (Nat.div_lt_of_lt_mul (by rw [← pow_succ]; exact hPn))
    rw [this]; exact hsp)
  clear hE hSK hsp
  by_cases hc : dg P n < c
  · rw [decide_eq_true hc]
    have HC := Lib.hid hc
    clear hc
    go_wp2_with fail
    refine (giveBack_any b off n cp S by_ oy cy Y w1 hN (hW.free hF) (hW.num hY (fun _ => Or.inl hne)) hne hn).mono ?_
    rintro e w2 ⟨T, c2, rfl, hTK, hc2, hE2, hN2, hW2⟩
    have d := digit_back HP2.out HE.out HS.out (Nat.le_of_lt hYn) Q2.out hY0 HC.out hE2 hTK hc2
    have D1 := Lib.hid d.1
    have D2 := Lib.hid d.2
    clear hE2 d
    go_wp2_with fail
    go_ret
    refine ⟨congrArg (fun z => Ending.returned (Value.int IntKind.u32 z)) ?_, hN2.val D2.out, hW.trans hW2⟩
    have := D1.out
    generalize P / Y = d at *
    unfold B at *
    omega
  · rw [decide_eq_false hc]
    have d := digit_keep HP2.out HE.out (Nat.le_of_lt hYn) Q1.out hY0 hc
    have D1 := Lib.hid d.1
    have D2 := Lib.hid d.2
    clear hc d
    go_wp2_with fail
    go_ret
    rw [D1.out]
    exact ⟨rfl, hN.val D2.out, hW⟩
end Go.Proofs.Ytdgfmkideghhaaa

namespace PB
open Go
/-- The limb that a shift to the right by p lays: of a limb and the one above it. -/
def sinkLimb (x d p : Nat) : Nat := x / 2^p + (d % 2^p) * 2^(32-p)
theorem two_split {p : Nat} (hp : p < 32) : 2^p * 2^(32-p) = B := by rw [← Nat.pow_add, show p + (32 - p) = 32 by omega]; rfl
theorem sinkLimb_lt {x d p : Nat} (hx : x < B) (hp : p < 32) : sinkLimb x d p < B := by
  unfold sinkLimb
  have h2 := two_split hp
  have h1 : x / 2^p < 2^(32-p) := Nat.div_lt_of_lt_mul (by rw [h2]; exact hx)
  have h3 : d % 2^p < 2^p := Nat.mod_lt _ (Nat.pow_pos (by decide))
  have h4 : (d % 2^p + 1) * 2^(32-p) ≤ 2^p * 2^(32-p) := Nat.mul_le_mul_right _ h3
  rw [h2, Nat.add_mul] at h4
  omega
theorem sink_step {X j p : Nat} (hp : p < 32) : X / B^j / 2^p = X / B^(j+1) / 2^p * B + sinkLimb (dg X j) (dg X (j+1)) p := by
  have h2 := two_split hp
  rw [div_succ X j]
  have hd : dg X (j+1) % 2^p = (X / B^(j+1)) % 2^p := by unfold dg; exact Nat.mod_mod_of_dvd _ ⟨2^(32-p), h2.symm⟩
  unfold sinkLimb
  rw [hd]
  generalize X / B^(j+1) = H
  have e : H * B + dg X j = dg X j + (H * 2^(32-p)) * 2^p := by rw [Nat.mul_assoc, Nat.mul_comm (2^(32-p)), h2]; omega
  rw [e, Nat.add_mul_div_right _ _ (Nat.pow_pos (by decide))]
  have e2 : H * 2^(32-p) = H / 2^p * B + H % 2^p * 2^(32-p) := by
    rw [← h2, ← Nat.mul_assoc, ← Nat.add_mul, Nat.div_add_mod']
  omega
theorem sink_bits {x d p : Nat} (hx : x < B) (hp : p < 32) :
    bits BinOp.or IntKind.u32 ((x : Int) / 2^p) ((d : Int) * 2^(32-p) % 4294967296) = (sinkLimb x d p : Nat) := by
  have h2 := two_split hp
  have e1 : (x : Int) / 2^p = ((x / 2^p : Nat) : Int) := by rw [Int.natCast_ediv]; rfl
  have e2 : (d : Int) * 2^(32-p) % 4294967296 = ((d * 2^(32-p) % 4294967296 : Nat) : Int) := by rw [Int.natCast_emod, Int.natCast_mul]; rfl
  have h1 : x / 2^p < 2^(32-p) := Nat.div_lt_of_lt_mul (by rw [h2]; exact hx)
  have hA : x / 2^p < 4294967296 := Nat.lt_of_le_of_lt (Nat.div_le_self _ _) hx
  have h3 : d * 2^(32-p) % 4294967296 = (d % 2^p) * 2^(32-p) := by rw [show 4294967296 = 2^p * 2^(32-p) from h2.symm, Nat.mul_mod_mul_right]
  rw [e1, e2, u32_or_nat _ _ hA (Nat.mod_lt _ (by decide)), Nat.or_comm, h3, nat_join (32-p) _ _ (Nat.mul_mod_left _ _) h1]
  unfold sinkLimb
  rw [Nat.add_comm]
end PB
namespace Go.Proofs.Ytdgfmkideghhaaa
open Go.RowKit PB

set_option maxHeartbeats 1600000 in
set_option maxRecDepth 100000 in
theorem sink_any (base : Option Addr) (b off n c X p : Nat) (w : World) (hb : n ≠ 0 → base = some ⟨b, off, none⟩) (hX : Num w b off n X) (hF : Free w b off n) (hp : p < 32) (hc : n ≤ 1099511627776) :
    Calls Try.prog 121 #[.slice base n c, .int .i64 p] w fun e w' => e = .returned (.tuple #[]) ∧ Num w' b off n (X / 2^p) ∧ Wr w w' b off (off + n) := by
  have HB := Lib.hid hb
  clear hb
  go_enter Try.func121, Try.ntmps121
  go_wp2_with fail
  go_loopw [4, 5] (fun v i wr => ∃ k d : Nat, k ≤ n ∧ d < B ∧ v = .int .u32 d ∧ i = .int .i64 ((k : Int) - 1) ∧ Hid (d = dg X k) ∧ Num wr b off n (X % B^k + (X / B^k / 2^p) * B^k) ∧ Wr w wr b off (off + n)) (fun _ i _ => (intOf i + 1).toNat)
  case atStart => exact ⟨n, 0, by omega, by decide, rfl, rfl, Lib.hid (by rw [dg_of_lt hX.lt (Nat.le_refl _)]), hX.val (by rw [mod_of_lt hX.lt, Nat.div_eq_of_lt hX.lt, Nat.zero_div]; omega), Wr.refl _ _ _ _⟩
  case round =>
    obtain ⟨k, d, hk, hd, rfl, rfl, hE, hN, hw⟩ := hrel
    by_cases h0 : k = 0
    · subst h0
      have hz : decide ((0 : Int) ≤ ((0 : Nat) : Int) - 1) = false := by decide
      go_wp2_with fail
      go_end0
      exact ⟨rfl, hN.val (by simp [Nat.mod_one]), hw⟩
    · obtain ⟨j, rfl⟩ : ∃ j, k = j + 1 := ⟨k - 1, by omega⟩
      obtain rfl := HB.out (by omega)
      have e1 : (((j + 1 : Nat) : Int) - 1) = j := by omega
      rw [e1]
      clear e1
      have c1 := hN.cell (i := j) (by omega)
      have hdg : dg (X % B^(j+1) + X / B^(j+1) / 2^p * B^(j+1)) j = dg X j := by rw [dg_add_lo (by omega), dg_mod (by omega)]
      rw [hdg] at c1
      have f1 := (hw.free hF).at (i := j) (by omega)
      have hx := dg_lt X j
      have i1 : (j : Int) < n := by omega
      have i2 : (0 : Int) ≤ j := by omega
      have i3 : (p : Int) < 32 := by omega
      have i4 : (0 : Int) ≤ p := by omega
      clear hdg
      go_wp2_with fail
      go_region
      rw [sink_bits hx hp]
      have hv := sinkLimb_lt (d := d) hx hp
      go_wp2_with fail
      go_roundw
      case rel =>
        refine ⟨j, dg X j, by omega, hx, rfl, rfl, Lib.hid rfl, ?_, ?_⟩
        · rw [sink_step hp, ← hE.out, ← short_put]
          exact (hN.set (by omega) hv).drew
        · exact (hw.set _ _ (by omega) (by omega)).drew
      case measure => simp [intOf]
end Go.Proofs.Ytdgfmkideghhaaa

namespace PB
open Go
theorem raise_puts {Z j v p : Nat} (hZ : Z < B^j * 2^p) (hp : p < 32) (hv : v % 2^p = 0) (hvB : v < B * 2^p) :
    put (put Z j (dg Z j + v % B)) (j+1) (v / B) = Z + v * B^j ∧ dg Z j + v % B < B ∧ v / B < B ∧ dg Z j ||| v % B = dg Z j + v % B ∧ dg Z j < B := by
  have h2 := two_split hp
  have hpB : 2^p ≤ B := by rw [← h2]; exact Nat.le_mul_of_pos_right _ (Nat.pow_pos (by decide))
  have hZ1 : Z < B^(j+1) := by rw [pow_succ]; exact Nat.lt_of_lt_of_le hZ (Nat.mul_le_mul_left _ hpB)
  have hd : dg Z j < 2^p := by
    unfold dg
    exact Nat.lt_of_le_of_lt (Nat.mod_le _ _) (Nat.div_lt_of_lt_mul hZ)
  have hm : (v % B) % 2^p = 0 := by rw [← h2, Nat.mod_mul_right_mod, hv]
  have hmB : v % B < B := Nat.mod_lt _ (by decide)
  have hs : dg Z j + v % B < B := by
    have e : v % B = v % B / 2^p * 2^p := by have := Nat.div_add_mod' (v % B) (2^p); omega
    have h3 : v % B / 2^p < 2^(32-p) := Nat.div_lt_of_lt_mul (by rw [h2]; exact hmB)
    have h4 : (v % B / 2^p + 1) * 2^p ≤ 2^(32-p) * 2^p := Nat.mul_le_mul_right _ h3
    rw [Nat.mul_comm (2^(32-p)), h2, Nat.add_mul] at h4
    omega
  have hh : v / B < B := Nat.lt_of_lt_of_le (Nat.div_lt_of_lt_mul hvB) hpB
  refine ⟨?_, hs, hh, ?_, Nat.lt_of_lt_of_le hd hpB⟩
  · have p1 := put_eq Z j (dg Z j + v % B)
    have p2 := put_eq (put Z j (dg Z j + v % B)) (j+1) (v / B)
    rw [dg_put_other hs (by omega), dg_of_lt hZ1 (Nat.le_refl _), Nat.zero_mul, Nat.add_zero] at p2
    rw [p2]
    rw [Nat.add_mul] at p1
    have e : v * B^j = v % B * B^j + v / B * B^(j+1) := by
      rw [pow_succ, ← Nat.mul_assoc, Nat.mul_right_comm, ← Nat.add_mul]
      have := Nat.mod_add_div' v B
      rw [this]
    omega
  · rw [Nat.or_comm, nat_join p _ _ hm hd, Nat.add_comm]
theorem raise_bits {z v : Nat} (hz : z < B) : bits BinOp.or IntKind.u32 (z : Int) ((v : Int) % 4294967296) = ((z ||| v % B : Nat) : Int) := by
  have e2 : (v : Int) % 4294967296 = ((v % 4294967296 : Nat) : Int) := by rw [Int.natCast_emod]; rfl
  rw [e2, u32_or_nat _ _ hz (Nat.mod_lt _ (by decide))]
  rfl
theorem raise_wrap {d p : Nat} (hd : d < B) (hp : p < 32) : IntKind.u64.wrap (IntKind.u64.wrap (d : Int) * 2^p) = ((d * 2^p : Nat) : Int) := by
  have e1 : IntKind.u64.wrap (d : Int) = d := by rw [IntKind.wrap_u64]; unfold B at *; omega
  rw [e1]
  have h1 : (2:Nat)^p ≤ 2^31 := Nat.pow_le_pow_right (by decide) (by omega)
  have h2 : d * 2^p < B * 2^32 := by
    refine Nat.lt_of_lt_of_le (Nat.mul_lt_mul_of_pos_right hd (Nat.pow_pos (by decide))) (Nat.mul_le_mul_left _ (Nat.le_trans h1 (by decide)))
  have e2 : (d : Int) * 2^p = ((d * 2^p : Nat) : Int) := by rw [Int.natCast_mul]; rfl
  rw [e2, IntKind.wrap_u64]
  generalize d * 2^p = v at *
  unfold B at h2
  omega
theorem raise_hi {v : Nat} (h : v / B < B) : (v : Int) / 4294967296 % 4294967296 = ((v / B : Nat) : Int) := by unfold B at *; omega
end PB
namespace Go.Proofs.Ytdgfmkideghhaaa
open Go.RowKit PB

set_option maxHeartbeats 1600000 in
set_option maxRecDepth 100000 in
theorem raise_any (base : Option Addr) (b off n c X k q p : Nat) (w : World) (hb : n ≠ 0 → base = some ⟨b, off, none⟩) (hX : Num w b off n X) (hc : n ≤ 1000000000) (hk : k = 32 * q + p) (hp : p < 32) (hk2 : k ≤ 100000) :
    Calls Try.prog 79 #[.slice base n c, .int .i64 k] w fun e w' => e = .returned (.slice (some ⟨w.heap.size, 0, none⟩) (q + n + 1) (q + n + 1)) ∧ Fresh w w' w.heap.size (q + n + 1) (X * 2^k) := by
  have HB := Lib.hid hb
  have e1 : (k : Int) / 32 = q := by omega
  have e2 : (k : Int) % 32 = p := by omega
  have HKK := Lib.hid hk
  clear hb hk
  go_enter Try.func79, Try.ntmps79
  go_wp2_with (at_make; refine wpList_make_num _ rfl _ _ 22 rfl 77 info51 Try.underlying22 .i64 .i64 _ _ (q + n + 1) rfl rfl (by omega) (by omega) (by omega) ?_)
  intro w1 hb1 hz1 hS1 hF1 _
  have HN := Lib.hid hz1
  clear hz1
  go_wp2_with fail
  go_loopw [23] (fun i wr => ∃ k' : Nat, k' ≤ n ∧ i = .int .i64 k' ∧ Below w.heap.size w wr ∧ Num wr w.heap.size 0 (q + n + 1) ((X % B^k') * 2^p * B^q) ∧ Free wr w.heap.size 0 (q + n + 1) ∧ Hid (w1.heap.size ≤ wr.heap.size)) (fun i _ => n - (intOf i).toNat)
  case atStart => exact ⟨0, by omega, rfl, hb1, hS1.val (by simp [Nat.mod_one]), hF1, show _ from Nat.le_refl _⟩
  case round =>
    obtain ⟨i, hi, rfl, hbr, hSr, hFr, hzr⟩ := hrel
    by_cases hlt : i < n
    · obtain rfl := HB.out (by omega)
      have c1 := (hX.kept hbr).cell (i := i) (by omega)
      have hdB := dg_lt X i
      have hZ : X % B^i * 2^p * B^q < B^(q+i) * 2^p := by
        rw [pow_add, Nat.mul_comm (B^q), Nat.mul_right_comm]
        refine Nat.mul_lt_mul_of_pos_right ?_ (Nat.pow_pos (by decide))
        exact Nat.mul_lt_mul_of_pos_right (mod_lt_pow _ _) (Bp q)
      have hstep : X % B^i * 2^p * B^q + dg X i * 2^p * B^(q+i) = X % B^(i+1) * 2^p * B^q := by
        rw [mod_succ, Nat.add_mul, Nat.add_mul, pow_add]
        congr 1
        rw [Nat.mul_right_comm (dg X i) (B^i), Nat.mul_assoc (dg X i * 2^p), Nat.mul_comm (B^i)]
      obtain ⟨d, hd⟩ : ∃ d, dg X i = d := ⟨_, rfl⟩
      rw [hd] at hdB c1 hstep
      obtain ⟨Z, hZe⟩ : ∃ Z, X % B^i * 2^p * B^q = Z := ⟨_, rfl⟩
      rw [hZe] at hSr hZ hstep
      have HST := Lib.hid hstep
      have hvB : d * 2^p < B * 2^p := Nat.mul_lt_mul_of_pos_right hdB (Nat.pow_pos (by decide))
      obtain ⟨r1, r2, r3, r4, r5⟩ := raise_puts hZ hp (Nat.mul_mod_left d (2^p)) hvB
      have c2 := hSr.cell0 (i := q + i) (by omega)
      have c3 := hSr.cell0 (i := q + i + 1) (by omega)
      have f2 := hFr.at0 (i := q + i) (by omega)
      have f3 := hFr.at0 (i := q + i + 1) (by omega)
      have R1 := Lib.hid r1
      have R4 := Lib.hid r4
      have i1 : (i : Int) < n := by omega
      have i2 : (0 : Int) ≤ i := by omega
      have i3 : (p : Int) < 64 := by omega
      have i4 : (0 : Int) ≤ p := by omega
      clear hd hZe hstep r1 r4 hZ
      go_wp2_with fail
      rw [raise_wrap hdB hp, raise_bits r5, R4.out, raise_hi r3]
      have hnew := (hSr.set0 (k := q + i) (by omega) r2).set0 (k := q + i + 1) (by omega) r3
      rw [R1.out, HST.out] at hnew
      have hz := hzr
      go_roundw
      case rel =>
        refine ⟨i + 1, by omega, by go_num, (hbr.setCell (Nat.le_refl _) _).setCell (Nat.le_refl _) _, hnew, (hFr.set _ _).set _ _, ?_⟩
        have h1 := hzr.out
        exact Lib.hid (by simp; exact h1)
      case measure => simp [intOf]; omega
    · have hin : i = n := by omega
      subst hin
      have i1 : ¬ ((i : Int) < i) := by omega
      have hfin : X % B^i * 2^p * B^q = X * 2^k := by
        rw [mod_of_lt hX.lt, HKK.out, Nat.pow_add, Nat.pow_mul, Nat.mul_assoc, Nat.mul_comm (2^p)]
        rfl
      rw [hfin] at hSr
      clear hfin hlt
      go_wp2_with fail
      go_ret
      exact ⟨rfl, hbr, hSr, hFr, Nat.le_refl _, by have h1 := hzr.out; have h2 := HN.out; omega⟩
end Go.Proofs.Ytdgfmkideghhaaa

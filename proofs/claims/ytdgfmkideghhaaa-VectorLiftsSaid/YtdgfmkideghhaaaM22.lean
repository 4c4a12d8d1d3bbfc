/-
  integer.length and Bits.
  integer.divide by two or more limbs.
  Variables that hold Ints; the verifier's few and plain.
-/
import Derived.Laws.ResultCell
import Derived.Laws.Rows
import Derived.Test.YtdgfmkideghhaaaM17
import Derived.Test.YtdgfmkideghhaaaM18
import Derived.Test.YtdgfmkideghhaaaM21
namespace PB
open Go Go.RowKit
/-- The number of bits of X, by its limbs. -/
def bl (X : Nat) : Nat := if X = 0 then 0 else 32 * (nl X - 1) + Lib.bitLen (dg X (nl X - 1))
end PB
namespace Go.Proofs.Ytdgfmkideghhaaa
open Go.RowKit PB

set_option maxRecDepth 100000 in
theorem length_any (base : Option Addr) (b off c X : Nat) (w : World) (hb : nl X ≠ 0 → base = some ⟨b, off, none⟩) (hX : Num w b off (nl X) X) (hl : nl X ≤ 1000000000) :
    Calls Try.prog 92 #[.slice base (nl X) c] w fun e w' => e = .returned (.int .i64 (bl X)) ∧ w = w' := by
  by_cases h0 : X = 0
  · have hbl : bl X = 0 := if_pos h0
    rw [hbl]
    have ht : ((nl X : Int) == 0) = true := by rw [h0, nl_zero]; rfl
    clear hbl h0 hb
    go_enter Try.func92, Try.ntmps92
    go_wp2
    go_ret
    exact ⟨rfl, rfl⟩
  · have hnl : nl X ≠ 0 := mt nl_eq_zero.1 h0
    have hbl := Lib.hid (show bl X = 32 * (nl X - 1) + Lib.bitLen (dg X (nl X - 1)) from if_neg h0)
    obtain rfl := hb hnl
    obtain ⟨k, hk⟩ : ∃ k, nl X = k + 1 := ⟨nl X - 1, by omega⟩
    have hc := hX.cell (show k < nl X by omega)
    rw [hk] at hl ⊢
    have HK := Lib.hid hk
    have hd := dg_lt X k
    have h32 := Lib.bitLen_le (dg X k) 32 (by omega) hd
    clear hb h0 hnl hk hX
    go_enter Try.func92, Try.ntmps92
    go_wp2_with (go_at_call 130; refine (len32_any (dg X k) _ hd).mono ?_; rintro e w' ⟨rfl, rfl⟩)
    go_ret
    exact iret (by rw [hbl.out, HK.out, Nat.add_sub_cancel]; omega) _

set_option maxRecDepth 100000 in
theorem bits_any (v : Value) (z : Int) (w : World) (h : IsInt w v z) :
    Calls Try.prog 34 #[v] w fun e w' => e = .returned (.int .i64 (bl z.natAbs)) ∧ Below w.heap.size w w' := by
  obtain ⟨s, base, b, off, n, c, X, rfl, hb, hX, hn, hl, rfl⟩ := h
  rw [sg_natAbs]
  have hnX := nl_le hX.lt
  have HB := Lib.hid hb
  clear hb
  go_enter Try.func34, Try.ntmps34
  go_wp2_with (first | (go_at_call 75; refine (cut_any base b off n c X _ HB.out (by exact hX.alloc _) hn (by omega)).mono ?_; rintro e w' ⟨rfl, rfl⟩) | (go_at_call 92; refine (length_any base b off (nl X) X _ (fun h => HB.out (by omega)) ((hX.alloc _).fewer hnX (lt_nl X)) (by omega)).mono ?_; rintro e w' ⟨rfl, rfl⟩))
  go_ret
  exact ⟨rfl, (Below.refl _ _).alloc (Nat.le_refl _) _⟩
end Go.Proofs.Ytdgfmkideghhaaa

namespace PB
open Go Go.RowKit
/-- Some limbs in the middle have been written. -/
theorem Num.splice {w w' : World} {b N X j n Z : Nat} (h : Num w b 0 N X) (hw : Wr w w' b j (j + n)) (hz : Num w' b j n Z) (hle : j + n ≤ N) :
    Num w' b 0 N ((X % B^j + Z * B^j) + X / B^(j+n) * B^(j+n)) := by
  have hV : X % B^j + Z * B^j < B^(j+n) := by
    have h1 := mod_lt_pow X j
    have h2 : (Z + 1) * B^j ≤ B^n * B^j := Nat.mul_le_mul_right _ hz.lt
    rw [Nat.add_mul, ← pow_add, Nat.add_comm n j] at h2
    omega
  refine ⟨?_, fun i hi => ?_⟩
  · have h1 : X / B^(j+n) < B^(N-(j+n)) := (Nat.div_lt_iff_lt_mul (Bp _)).2 (by rw [← pow_add, show N - (j+n) + (j+n) = N by omega]; exact h.lt)
    have h2 : (X / B^(j+n) + 1) * B^(j+n) ≤ B^(N-(j+n)) * B^(j+n) := Nat.mul_le_mul_right _ h1
    rw [← pow_add, show N - (j+n) + (j+n) = N by omega, Nat.add_mul, Nat.one_mul] at h2
    omega
  · rw [Nat.zero_add]
    by_cases h1 : i < j
    · rw [dg_add_lo (by omega), dg_add_lo h1, dg_mod h1, hw.cell i (Or.inl h1)]
      exact h.cell0 hi
    · obtain ⟨t, rfl⟩ : ∃ t, i = j + t := ⟨i - j, by omega⟩
      by_cases h2 : t < n
      · rw [dg_add_lo (by omega), dg_add_hi (mod_lt_pow _ _)]
        exact hz.cell h2
      · obtain ⟨s, rfl⟩ : ∃ s, t = n + s := ⟨t - n, by omega⟩
        rw [show j + (n + s) = j + n + s by omega, dg_add_hi hV, dg_div, hw.cell _ (Or.inr (by omega))]
        exact h.cell0 (by omega)
theorem fin_div {X Y R Q u : Nat} (h : R + Q * (Y * 2^u) = X * 2^u) (hR : R < Y * 2^u) : Q = X / Y ∧ R / 2^u = X % Y := by
  have hu : 0 < 2^u := Nat.pow_pos (by decide)
  have hY : 0 < Y := by
    apply Nat.pos_of_ne_zero
    rintro rfl
    rw [Nat.zero_mul] at hR
    omega
  have h1 : X * 2^u / (Y * 2^u) = Q := by
    rw [← h, Nat.add_mul_div_right _ _ (Nat.mul_pos hY hu), Nat.div_eq_of_lt hR, Nat.zero_add]
  have h2 : X * 2^u % (Y * 2^u) = R := by
    rw [← h, Nat.add_mul_mod_self_right, Nat.mod_eq_of_lt hR]
  rw [Nat.mul_div_mul_right _ _ hu] at h1
  rw [Nat.mul_mod_mul_right] at h2
  exact ⟨h1.symm, by rw [← h2, Nat.mul_div_cancel _ hu]⟩
theorem top_shift {t : Nat} (h0 : t ≠ 0) (h : t < B) : ∃ u : Nat, ((32 : Int) - Lib.bitLen t) = u ∧ u < 32 ∧ 2147483648 ≤ t * 2^u ∧ (t + 1) * 2^u ≤ B := by
  have hb := Lib.bitLenAux_bounds 64 t (Nat.lt_trans h (by decide)) h0
  have hl : Lib.bitLen t ≤ 32 := Lib.bitLen_le t 32 (by decide) (by unfold B at h; omega)
  obtain ⟨b1, b2, b3⟩ := hb
  change 1 ≤ Lib.bitLen t at b1
  change 2 ^ (Lib.bitLen t - 1) ≤ t at b2
  change t < 2 ^ Lib.bitLen t at b3
  generalize Lib.bitLen t = l at *
  refine ⟨32 - l, by omega, by omega, ?_, ?_⟩
  · have := Nat.mul_le_mul_right (2^(32 - l)) b2
    rw [← Nat.pow_add, show l - 1 + (32 - l) = 31 by omega] at this
    exact this
  · have := Nat.mul_le_mul_right (2^(32 - l)) (show t + 1 ≤ 2^l from b3)
    rw [← Nat.pow_add, show l + (32 - l) = 32 by omega] at this
    exact this
theorem top_of {Y m u : Nat} (hY : Y < B^(m+2)) (h1 : 2147483648 ≤ dg Y (m+1) * 2^u) (h2 : (dg Y (m+1) + 1) * 2^u ≤ B) : 2147483648 * B^(m+1) ≤ Y * 2^u ∧ Y * 2^u < B^(m+2) := by
  have e2 : dg Y (m+1) = Y / B^(m+1) := by
    unfold dg; exact Nat.mod_eq_of_lt (Nat.div_lt_of_lt_mul (by rw [← pow_succ]; exact hY))
  rw [e2] at h1 h2
  have hu : 0 < 2^u := Nat.pow_pos (by decide)
  have l1 : Y / B^(m+1) * B^(m+1) ≤ Y := Nat.div_mul_le_self _ _
  have l2 : Y < (Y / B^(m+1) + 1) * B^(m+1) := by rw [Nat.mul_comm]; exact Nat.lt_mul_div_succ Y (Bp _)
  constructor
  · have a := Nat.mul_le_mul_right (B^(m+1)) h1
    have c := Nat.mul_le_mul_right (2^u) l1
    rw [Nat.mul_right_comm] at c
    omega
  · have a := Nat.mul_le_mul_right (B^(m+1)) h2
    have c : Y * 2^u < (Y / B^(m+1) + 1) * B^(m+1) * 2^u := Nat.mul_lt_mul_of_pos_right l2 hu
    rw [Nat.mul_right_comm] at c
    rw [show m + 2 = (m + 1) + 1 from rfl, pow_succ, Nat.mul_comm (B^(m+1))]
    omega
theorem start_lt {X Yu N n u m : Nat} (hX : X < B^N) (hu : u < 32) (hY : 2147483648 * B^(m+1) ≤ Yu) (hnm : n = m + 2) (hnN : n ≤ N) : X * 2^u < Yu * B^(N+1-n) := by
  have h1 : 2^u ≤ 2^31 := Nat.pow_le_pow_right (by decide) (by omega)
  have h2 : X * 2^u ≤ X * 2^31 := Nat.mul_le_mul_left _ h1
  have h3 : 2147483648 * B^(m+1) * B^(N+1-n) ≤ Yu * B^(N+1-n) := Nat.mul_le_mul_right _ hY
  rw [Nat.mul_assoc, ← pow_add, show m + 1 + (N + 1 - n) = N by omega] at h3
  omega
theorem long_put {R Q Z d i j n : Nat} (hi : i = j + n) (hR : R < B^(i+1)) (hZ : R % B^j + Z * B^j < B^i) :
    put ((R + Q * B^(i+1)) % B^j + Z * B^j + (R + Q * B^(i+1)) / B^(j+n) * B^(j+n)) i d = (R % B^j + Z * B^j) + (d + Q * B) * B^i := by
  subst hi
  have e1 : (R + Q * B^(j+n+1)) % B^j = R % B^j := by
    rw [show j + n + 1 = j + (n + 1) by omega, pow_add j, show Q * (B^j * B^(n+1)) = Q * B^(n+1) * B^j by rw [Nat.mul_assoc, Nat.mul_comm (B^j)], Nat.add_mul_mod_self_right]
  rw [e1, low_put hZ, Nat.add_mul_div_right _ _ (Bp _), Nat.div_eq_of_lt hR, Nat.zero_add, Nat.add_mul d, Nat.mul_assoc Q, Nat.mul_comm B, ← pow_succ]
  omega
theorem high_part {R Q j n : Nat} (hR : R < B^(j+(n+1))) : (R + Q * B^(j+(n+1))) / B^j % B^(n+1) = R / B^j := by
  rw [pow_add j, show Q * (B^j * B^(n+1)) = Q * B^(n+1) * B^j by rw [Nat.mul_assoc, Nat.mul_comm (B^j)], Nat.add_mul_div_right _ _ (Bp j), Nat.add_mul_mod_self_right]
  exact Nat.mod_eq_of_lt (Nat.div_lt_of_lt_mul (by rw [← pow_add]; exact hR))
end PB
namespace Go.Proofs.Ytdgfmkideghhaaa
open Go.RowKit PB

theorem raise_low (bx ox n cx X u : Nat) (w : World) (hX : Num w bx ox n X) (hc : n ≤ 1000000000) (hu : u < 32) :
    Calls Try.prog 79 #[.slice (some ⟨bx, ox, none⟩) n cx, .int .i64 u] w fun e w' => e = .returned (.slice (some ⟨w.heap.size, 0, none⟩) (n + 1) (n + 1)) ∧ Fresh w w' w.heap.size (n + 1) (X * 2^u) := by
  have h := raise_any (some ⟨bx, ox, none⟩) bx ox n cx X u 0 u w (fun _ => rfl) hX hc (by omega) hu (by omega)
  rwa [Nat.zero_add] at h
set_option maxHeartbeats 3200000 in
set_option maxRecDepth 100000 in
theorem divide_many (bx ox X cx by_ oy Y cy n m : Nat) (w : World) (hnY : nl Y = n) (hnm : n = m + 2)
    (hX : Num w bx ox (nl X) X) (hY : Num w by_ oy (nl Y) Y) (hc : nl X ≤ 1000000) (hlt : Y ≤ X) :
    Calls Try.prog 76 #[.slice (some ⟨bx, ox, none⟩) (nl X) cx, .slice (some ⟨by_, oy, none⟩) (nl Y) cy] w (RetDiv w X Y) := by
  have hcm : ¬ cmpi (X : Int) Y < 0 := by unfold cmpi; rw [if_neg (by omega)]; split <;> decide
  have hnX : n ≤ nl X := by rw [← hnY]; exact nl_mono hlt
  have ORD := Lib.hid (fun cx cy => order_any (some ⟨bx, ox, none⟩) (some ⟨by_, oy, none⟩) bx ox X cx by_ oy Y cy w (fun _ => rfl) (fun _ => rfl) hX hY (by omega) (by omega))
  have hYl := lt_nl Y
  have hXl := lt_nl X
  have htop := nl_top (X := Y) (by rintro rfl; rw [nl_zero] at hnY; omega)
  rw [hnY] at ORD hY hYl htop ⊢
  obtain ⟨N, hN⟩ : ∃ N, nl X = N := ⟨_, rfl⟩
  unfold RetDiv
  rw [hN] at ORD hX hXl hnX hc ⊢
  have hz : ((n : Int) == 1) = false := by simp; omega
  have c1 := hY.cell (i := n - 1) (by omega)
  obtain ⟨t, ht⟩ : ∃ t, dg Y (n - 1) = t := ⟨_, rfl⟩
  have htB : t < B := ht ▸ dg_lt _ _
  rw [ht] at c1 htop
  obtain ⟨u, hu, hu32, hu1, hu2⟩ := top_shift htop htB
  have htp := top_of (Y := Y) (m := m) (u := u) (by rw [← hnm]; exact hYl) (by rw [show m + 1 = n - 1 by omega, ht]; exact hu1) (by rw [show m + 1 = n - 1 by omega, ht]; exact hu2)
  rw [← hnm] at htp
  have HT1 := Lib.hid htp.1
  have HT2 := Lib.hid htp.2
  have HXl := Lib.hid hXl
  have HYl := Lib.hid hYl
  have HNM := Lib.hid hnm
  have HLE := Lib.hid hlt
  have e1 : (n : Int) - 1 = ((n - 1 : Nat) : Int) := by omega
  have i1 : ((n - 1 : Nat) : Int) < n := by omega
  have i2 : (n : Int) ≤ n + 1 := by omega
  have i3 : (0 : Int) ≤ n := by omega
  have LZ := Lib.hid (fun W => lz32_any t W htB)
  rw [hu] at LZ
  clear hN hnY hlt ht htop htp hXl hYl hnm hu hu1 hu2 htB
  go_enter Try.func76, Try.ntmps76
  go_wp2_with (first | (go_at_call 93; refine (ORD.out _ _).mono ?_; rintro e w' ⟨rfl, n1, rfl⟩) | (go_at_call 119; refine (LZ.out _).mono ?_; rintro e w' ⟨rfl, rfl⟩))
  go_region_held3 (fun _ => True)
    (exact trivial)
    (first
      | (go_at_call_of 79 (Value.slice (some ⟨bx, ox, none⟩) N cx); refine (raise_low bx ox N cx X u _ (by exact hX) (by omega) hu32).mono ?_; rintro e w1 ⟨rfl, hF1⟩
         have hb1 : Below w.heap.size w w1 := (by first | exact hF1.below | exact below_undrewN hF1.below | exact below_undrewN (below_undrew hF1.below))
         have hs1 : w.heap.size + 1 ≤ w1.heap.size := (by have h1 := hF1.lt; exact h1))
      | (go_at_call_of 79 (Value.slice (some ⟨by_, oy, none⟩) n cy); refine (raise_low by_ oy n cy Y u _ (by exact hY.kept hb1) (by omega) hu32).mono ?_; rintro e w2 ⟨rfl, hF2⟩))
  have hX2 : Num w2 w.heap.size 0 (N + 1) (X * 2^u) := hF1.num.kept hF2.below
  have hFr2 : Free w2 w.heap.size 0 (N + 1) := hF1.free.below hF2.below (fun _ => hF1.lt)
  have hY2 : Num w2 w1.heap.size 0 n (Y * 2^u) := hF2.num.fewer (by omega) HT2.out
  have hb2 : Below w.heap.size w w2 := hb1.trans (hF2.below.mono (by omega))
  have hne : w1.heap.size ≠ w.heap.size := by omega
  have hst := start_lt (N := N) HXl.out hu32 HT1.out HNM.out hnX
  have HG := Lib.hid hs1
  obtain ⟨g1, hg1⟩ : ∃ g, w.heap.size = g := ⟨_, rfl⟩
  obtain ⟨g2, hg2⟩ : ∃ g, w1.heap.size = g := ⟨_, rfl⟩
  obtain ⟨V, hV⟩ : ∃ V, Y * 2^u = V := ⟨_, rfl⟩
  rw [hg1] at hX2 hFr2 hne ⊢
  rw [hg2] at hY2 hne ⊢
  rw [hV] at hY2 hst HT1 HT2
  have HV := Lib.hid hV
  have HG1 := Lib.hid hg1
  have HX2 := Lib.hid hX2.lt
  have HST := Lib.hid hst
  have HB2 := Lib.hid hb2
  clear hF1 hF2 hb1 hs1 hg1 hg2 hV hst hb2 LZ ORD c1 hX hY
  go_wp2_with fail
  go_loopw [11] (fun i wr => ∃ k R Q : Nat, n ≤ k ∧ k ≤ N + 1 ∧ i = .int .i64 ((k : Int) - 1) ∧ Hid (R < B^k) ∧ Hid (R + Q * V * B^(k-n) = X * 2^u) ∧ Hid (R < V * B^(k-n)) ∧ Num wr g1 0 (N + 1) (R + Q * B^k) ∧ Wr w2 wr g1 0 (N + 1)) (fun i _ => (intOf i + 1).toNat)
  case atStart => exact ⟨N + 1, X * 2^u, 0, by omega, by omega, congrArg (Value.int IntKind.i64) (by omega), HX2, Lib.hid (by rw [Nat.zero_mul, Nat.zero_mul, Nat.add_zero]), HST, hX2.val (by omega), Wr.refl _ _ _ _⟩
  case round =>
    obtain ⟨k, R, Q, hk1, hk2, rfl, hR1, hR2, hR3, hW, hwr⟩ := hrel
    have hYr := hwr.num hY2 (fun _ => Or.inl hne)
    have hFr := hwr.free hFr2
    by_cases hkn : k = n
    · subst hkn
      have hz0 : decide ((k : Int) ≤ (k : Int) - 1) = false := decide_eq_false (by omega)
      have j1 : ¬ (N + 1 = k) := by omega
      have j2 : (k : Int) ≤ N + 1 := by omega
      have hlow := (hW.low (k := k) (by omega)).val (show (R + Q * B^k) % B^k = R by rw [Nat.add_mul_mod_self_right]; exact mod_of_lt hR1.out)
      have hhigh := (hW.high (k := k) (by omega)).val (show (R + Q * B^k) / B^k = Q by rw [Nat.add_mul_div_right _ _ (Bp k), Nat.div_eq_of_lt hR1.out, Nat.zero_add])
      rw [Nat.zero_add] at hhigh
      have hfl := hFr.part (k := 0) (m := k) (by omega)
      rw [Nat.zero_add] at hfl
      go_wp2_with fail
      refine (sink_any (some ⟨g1, 0, none⟩) g1 0 k (N + 1) R u wr (fun _ => rfl) hlow hfl hu32 (by omega)).mono ?_
      rintro e w4 ⟨rfl, hS4, hw4⟩
      have hF4 := Lib.hid (hw4.free hfl)
      have hQ4 := hw4.num hhigh (fun _ => Or.inr (Or.inr (by omega)))
      have fd := fin_div (X := X) (Y := Y) (R := R) (Q := Q) (u := u) (by rw [HV.out]; have := hR2.out; rwa [Nat.sub_self, Nat.pow_zero, Nat.mul_one] at this) (by rw [HV.out]; have := hR3.out; rwa [Nat.sub_self, Nat.pow_zero, Nat.mul_one] at this)
      have hS5 := hS4.val fd.2
      have hQ5 := hQ4.val fd.1
      have hb4 : Below g1 w w4 := HG1.out ▸ (HB2.out.trans ((hwr.below (by have := HG1.out; omega)).trans (hw4.below (by have := HG1.out; omega))))
      clear fd hQ4 hS4 hlow hhigh hfl hW hYr hFr hwr hw4
      go_wp2_with fail
      go_quiet (fail)
      go_wp2_with fail
      go_ret2
      exact ⟨_, _, rfl, ⟨_, g1, k, N + 1 - k, N + 1 - k, rfl, fun _ => rfl, hQ5.drewN, Nat.le_refl _, by omega, fun _ => by have := HG1.out; omega⟩, ⟨_, g1, 0, k, N + 1, rfl, fun _ => rfl, hS5.drewN, by omega, by omega, fun _ => by have := HG1.out; omega, hF4.out⟩, below_drewN (HG1.out ▸ hb4) _⟩
    · obtain ⟨i, rfl⟩ : ∃ i, k = i + 1 := ⟨k - 1, by omega⟩
      obtain ⟨j, hj⟩ : ∃ j, i = j + n := ⟨i - n, by omega⟩
      have e2 : (((i + 1 : Nat) : Int) - 1) = i := by omega
      rw [e2]
      have j1 : ¬ (N + 1 = j) := by omega
      have j2 : (j : Int) ≤ i + 1 := by omega
      have j3 : (i : Int) - n = j := by omega
      have j4 : (0 : Int) ≤ j := by omega
      have j5 : (i : Int) < N + 1 := by omega
      have j6 : (i : Int) + 1 ≤ N + 1 := by omega
      have j7 : (0 : Int) ≤ i := by omega
      have j8 : (n : Int) ≤ i := by omega
      have s1 : i + 1 - j = n + 1 := by omega
      have f1 := hFr.at0 (i := i) (by omega)
      have hV0 : 0 < V := Nat.lt_of_lt_of_le (Nat.mul_pos (by decide) (Bp _)) HT1.out
      have hst := long_step (i := i) (n := n) (by omega) HT2.out hV0 hR2.out hR3.out
      rw [show i - n = j by omega] at hst
      obtain ⟨s2, s3, s4, s5⟩ := hst
      have hP := ((hW.high (k := j) (by omega)).low (k := n + 1) (by omega)).val (show (R + Q * B^(i+1)) / B^j % B^(n+1) = R / B^j by rw [show i + 1 = j + (n + 1) by omega]; exact high_part (by rw [show j + (n + 1) = i + 1 by omega]; exact hR1.out))
      rw [Nat.zero_add] at hP
      have hfp := hFr.part (k := j) (m := n) (by omega)
      rw [Nat.zero_add] at hfp
      have S1 := Lib.hid s1
      have S3 := Lib.hid s3
      have S4 := Lib.hid s4
      have S5 := Lib.hid s5
      have HJ := Lib.hid hj
      have hdB : R / B^j / V < B := Nat.div_lt_of_lt_mul s2
      clear s1 s3 s4 s5 e2 hj
      go_wp2_with fail
      rw [S1.out]
      refine (digit_any g1 j n m (N + 1 - j) (R / B^j) g2 0 (n + 1) V wr HNM.out hP hfp hYr hne (by omega) (by have := S1.out; omega) (by omega) HT1.out s2).mono ?_
      rintro e w4 ⟨rfl, hZ, hw4⟩
      have c4 := (hw4.cell i (Or.inr (by have := HJ.out; omega))).trans (hW.cell0 (i := i) (by omega))
      have f4 := (hw4.frozen ⟨g1, i, none⟩).trans f1
      go_wp2_with fail
      go_roundw
      case rel =>
        have hsp := (hW.splice hw4 hZ (by have := HJ.out; omega)).set0 (k := i) (d := R / B^j / V) (by omega) hdB
        rw [long_put HJ.out hR1.out S5.out] at hsp
        refine ⟨i, R % B^j + R / B^j % V * B^j, R / B^j / V + Q * B, by omega, by omega, rfl, S5, Lib.hid ?_, Lib.hid ?_, hsp, (hwr.trans (hw4.mono (by omega) (by have := HJ.out; omega))).set _ _ (by omega) (by omega)⟩
        · rw [show i - n = j by have := HJ.out; omega]; exact S3.out
        · rw [show i - n = j by have := HJ.out; omega]; exact S4.out
      case measure => simp [intOf]
end Go.Proofs.Ytdgfmkideghhaaa

namespace PB
open Go Go.RowKit
/-- Block g is a variable that holds an Int for z. -/
def Var (w : World) (g : Nat) (z : Int) : Prop := ∃ (s : Bool) (base : Option Addr) (n c : Nat), Blk w g #[.bool s, .slice base n c] ∧ IsInt w (.agg #[.bool s, .slice base n c]) z
theorem Var.kept {w w' : World} {g : Nat} {z : Int} (h : Var w g z) (hb : Below w.heap.size w w') : Var w' g z := by
  obtain ⟨s, base, n, c, h1, h2⟩ := h
  exact ⟨s, base, n, c, h1.kept hb, h2.kept hb⟩
theorem Var.lt {w : World} {g : Nat} {z : Int} (h : Var w g z) : g < w.heap.size := by
  obtain ⟨s, base, n, c, h1, h2⟩ := h
  exact h1.lt
theorem Var.drew {w : World} {g : Nat} {z : Int} (h : Var w g z) : Var w.drew g z := h
theorem Var.undrew {w : World} {g : Nat} {z : Int} (h : Var w.drew g z) : Var w g z := h
end PB
namespace Go.Proofs.Ytdgfmkideghhaaa
open Go.RowKit PB
/-- The value of a variable, and its cells. -/
theorem var_out {w : World} {g : Nat} {z : Int} (h : Var w g z) : ∃ (s : Bool) (base : Option Addr) (n c : Nat), w.cell? ⟨g, 0, none⟩ = some (.bool s) ∧ w.cell? ⟨g, 1, none⟩ = some (.slice base n c) ∧ w.frozen? ⟨g, 0, none⟩ = false ∧ w.frozen? ⟨g, 1, none⟩ = false ∧ IsInt w (.agg #[.bool s, .slice base n c]) z := by
  obtain ⟨s, base, n, c, h1, h2⟩ := h
  exact ⟨s, base, n, c, (Blk2 h1).1, (Blk2 h1).2, (Blk2f h1).1, (Blk2f h1).2, h2⟩
theorem few_any (s : Bool) (base : Option Addr) (n c : Nat) (w : World) :
    Calls Try.prog 11 #[.agg #[.bool s, .slice base n c]] w fun e w' => e = .returned (.bool (decide (n ≤ 40))) ∧ Below w.heap.size w w' := by
  go_enter Try.func11, Try.ntmps11
  go_wp2
  go_ret
  exact ⟨by simp; omega, (Below.refl _ _).alloc (Nat.le_refl _) _⟩
end Go.Proofs.Ytdgfmkideghhaaa

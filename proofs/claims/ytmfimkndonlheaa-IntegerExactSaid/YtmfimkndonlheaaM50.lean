/-
  Comb Com
-/
import Derived.Test.YtmfimkndonlheaaM07
import Derived.Test.YtmfimkndonlheaaM23
import Derived.Test.YtmfimkndonlheaaM49
/- integer.combine: a x + b y and c x + d y, in place. -/
namespace PB
open Go Go.RowKit
theorem mul_in {a : Int} {x : Nat} (h1 : -2147483648 < a) (h2 : a < 2147483648) (hx : x < B) : -9223372030412324865 ≤ a * x ∧ a * x ≤ 9223372030412324865 ∧ (0 ≤ a → 0 ≤ a * x) ∧ (a ≤ 0 → a * x ≤ 0) := by
  have hx' : (x : Int) ≤ 4294967295 := by unfold B at hx; omega
  have p1 : 0 ≤ (2147483647 - a) * x := Int.mul_nonneg (by omega) (by omega)
  have p2 : 0 ≤ (2147483647 + a) * x := Int.mul_nonneg (by omega) (by omega)
  rw [Int.sub_mul] at p1
  rw [Int.add_mul] at p2
  refine ⟨by omega, by omega, fun h => Int.mul_nonneg h (by omega), fun h => Int.mul_nonpos_of_nonpos_of_nonneg h (by omega)⟩
theorem comb_in {C a b : Int} {x y : Nat} (a1 : -2147483648 < a) (a2 : a < 2147483648) (b1 : -2147483648 < b) (b2 : b < 2147483648) (hs : (0 ≤ a ∧ b ≤ 0) ∨ (a ≤ 0 ∧ 0 ≤ b)) (hx : x < B) (hy : y < B) (c1 : -2147483648 ≤ C) (c2 : C ≤ 2147483647) :
    (-9223372030412324865 ≤ a * x + b * y ∧ a * x + b * y ≤ 9223372030412324865) ∧ (-9223372036854775808 ≤ C + (a * x + b * y) ∧ C + (a * x + b * y) ≤ 9223372036854775807) ∧ -2147483648 ≤ (C + (a * x + b * y)) / 4294967296 ∧ (C + (a * x + b * y)) / 4294967296 ≤ 2147483647 := by
  obtain ⟨p1, p2, p3, p4⟩ := mul_in a1 a2 hx
  obtain ⟨q1, q2, q3, q4⟩ := mul_in b1 b2 hy
  generalize a * (x : Int) = u at *
  generalize b * (y : Int) = v at *
  have hh : (0 ≤ u ∧ v ≤ 0) ∨ (u ≤ 0 ∧ 0 ≤ v) := by
    rcases hs with ⟨s1, s2⟩ | ⟨s1, s2⟩
    · exact Or.inl ⟨p3 s1, q4 s2⟩
    · exact Or.inr ⟨p4 s1, q3 s2⟩
  clear p3 p4 q3 q4 hs
  omega
/-- A limb more. -/
theorem comb_step {P C a b U V o C' T : Int} {x y : Int} (h : P + C * T = a * U + b * V) (ho : o + C' * 4294967296 = C + (a * x + b * y)) :
    (P + o * T) + C' * (T * 4294967296) = a * (U + x * T) + b * (V + y * T) := by grind
theorem comb_end {P v n : Nat} {C E : Int} (hP : P < B^n) (hv : v < B^n) (h : (P : Int) + C * ((B^n : Nat) : Int) = v + E * ((B^n : Nat) : Int)) : P = v := by
  generalize B^n = T at *
  have h0 : (P : Int) - v = (E - C) * T := by rw [Int.sub_mul]; omega
  rcases Int.lt_trichotomy (E - C) 0 with h1 | h1 | h1
  · have : 0 ≤ (-1 - (E - C)) * (T : Int) := Int.mul_nonneg (by omega) (by omega)
    rw [Int.sub_mul] at this
    omega
  · rw [h1, Int.zero_mul] at h0
    omega
  · have : 0 ≤ ((E - C) - 1) * (T : Int) := Int.mul_nonneg (by omega) (by omega)
    rw [Int.sub_mul (E - C)] at this
    omega
/-- The state of one of the two sums behind k limbs. -/
def Cst (k X Y : Nat) (a b : Int) (P : Nat) (C : Int) : Prop := P < B^k ∧ -2147483648 ≤ C ∧ C ≤ 2147483647 ∧ (P : Int) + C * ((B^k : Nat) : Int) = a * ((X % B^k : Nat) : Int) + b * ((Y % B^k : Nat) : Int)
theorem cst_zero (X Y : Nat) (a b : Int) : Cst 0 X Y a b 0 0 := by
  refine ⟨Bp 0, by decide, by decide, ?_⟩
  rw [Nat.pow_zero, Nat.mod_one, Nat.mod_one]
  simp
theorem cst_step {k X Y : Nat} {a b : Int} {P : Nat} {C : Int} (h : Cst k X Y a b P C) (a1 : -2147483648 < a) (a2 : a < 2147483648) (b1 : -2147483648 < b) (b2 : b < 2147483648) (hs : (0 ≤ a ∧ b ≤ 0) ∨ (a ≤ 0 ∧ 0 ≤ b)) (o : Nat) (ho : (o : Int) = (C + (a * (dg X k : Nat) + b * (dg Y k : Nat))) % 4294967296) :
    o < B ∧ Cst (k+1) X Y a b (P + o * B^k) ((C + (a * (dg X k : Nat) + b * (dg Y k : Nat))) / 4294967296) := by
  obtain ⟨h1, h2, h3, h4⟩ := h
  obtain ⟨_, _, h5, h6⟩ := comb_in a1 a2 b1 b2 hs (dg_lt X k) (dg_lt Y k) h2 h3
  have hoB : o < B := by unfold B; omega
  refine ⟨hoB, add_lt_pow h1 hoB, h5, h6, ?_⟩
  have e := comb_step (x := (dg X k : Nat)) (y := (dg Y k : Nat)) (o := o) (C' := (C + (a * (dg X k : Nat) + b * (dg Y k : Nat))) / 4294967296) h4 (by omega)
  rw [mod_succ X k, mod_succ Y k, pow_succ, Int.natCast_add, Int.natCast_add, Int.natCast_add, Int.natCast_mul, Int.natCast_mul, Int.natCast_mul, Int.natCast_mul]
  exact e
/-- From where on Y has no limb. -/
theorem cst_top {n X Y v : Nat} {a b : Int} {P : Nat} {C : Int} (h : Cst n X Y a b P C) (hY : Y < B^n) (hv : v < B^n) (e : a * (X : Int) + b * (Y : Int) = v) : P = v := by
  obtain ⟨h1, h2, h3, h4⟩ := h
  refine comb_end (E := -(a * ((X / B^n : Nat) : Int))) h1 hv ?_ (C := C)
  rw [mod_of_lt hY] at h4
  have hX : (X : Int) = ((X % B^n : Nat) : Int) + ((X / B^n : Nat) : Int) * ((B^n : Nat) : Int) := by rw [← Int.natCast_mul, ← Int.natCast_add, ← split X n]
  rw [h4, ← e, hX]
  grind
theorem cst_dg {S X k : Nat} (hS : S < B^k) : dg (S + X / B^k * B^k) k = dg X k := by
  have := dg_add_hi (S := S) (d := X / B^k) (i := 0) hS
  rw [Nat.add_zero] at this
  rw [this, dg_div, Nat.add_zero]
theorem cst_put {S X k d : Nat} (hS : S < B^k) : put (S + X / B^k * B^k) k d = (S + d * B^k) + X / B^(k+1) * B^(k+1) := widen_put hS
end PB
namespace Go.Proofs.Ytmfimkndonlheaa
open Go.RowKit PB

set_option maxHeartbeats 6400000 in
set_option maxRecDepth 100000 in
theorem combine_any (bx ox X cx by_ oy Y cy nx ny N : Nat) (a b c d : Int) (x y : Nat) (w : World)
    (hX : Num w bx ox nx X) (hY : Num w by_ oy ny Y) (hFx : Free w bx ox nx) (hFy : Free w by_ oy ny) (hne : bx ≠ by_) (hn : ny ≤ nx) (hn0 : 0 < ny) (hl : nx ≤ 100000)
    (hNx : N ≤ bx) (hNy : N ≤ by_) (a1 : -2147483648 < a) (a2 : a < 2147483648) (b1 : -2147483648 < b) (b2 : b < 2147483648) (c1 : -2147483648 < c) (c2 : c < 2147483648) (d1 : -2147483648 < d) (d2 : d < 2147483648)
    (hs : (0 ≤ a ∧ b ≤ 0 ∧ c ≤ 0 ∧ 0 ≤ d) ∨ (a ≤ 0 ∧ 0 ≤ b ∧ 0 ≤ c ∧ d ≤ 0)) (ex : a * X + b * Y = x) (ey : c * X + d * Y = y) (hx : x < B^ny) (hy : y < B^ny) :
    Calls Try.prog 83 #[.slice (some ⟨bx, ox, none⟩) nx cx, .slice (some ⟨by_, oy, none⟩) ny cy, .agg #[.int .i64 a, .int .i64 b, .int .i64 c, .int .i64 d]] w
      (fun e w' => e = .returned (.tuple #[]) ∧ Num w' bx ox nx x ∧ Num w' by_ oy ny y ∧ Free w' bx ox nx ∧ Free w' by_ oy ny ∧ Below N w w') := by
  have hbx := hX.block_lt (by omega)
  have hby := hY.block_lt (by omega)
  have HX := Lib.hid hX.lt
  have HY := Lib.hid hY.lt
  have HEX := Lib.hid ex
  have HEY := Lib.hid ey
  have HXX := Lib.hid hx
  have HYY := Lib.hid hy
  have HNE := Lib.hid hne
  have S1 : Hid ((0 ≤ a ∧ b ≤ 0) ∨ (a ≤ 0 ∧ 0 ≤ b)) := Lib.hid (by omega)
  have S2 : Hid ((0 ≤ c ∧ d ≤ 0) ∨ (c ≤ 0 ∧ 0 ≤ d)) := Lib.hid (by omega)
  clear ex ey hx hy hne hs
  go_enter Try.func83, Try.ntmps83
  go_wp2_with fail
  generalize hV : World.alloc _ _ = V
  obtain ⟨F, hF⟩ : ∃ F, w.heap.size = F := ⟨_, rfl⟩
  rw [hF] at hbx hby ⊢
  have BF : Blk V F #[.int .i64 a, .int .i64 b, .int .i64 c, .int .i64 d] := by rw [← hV]; exact blk_new hF.symm
  have hbV : Below w.heap.size w V := by rw [← hV]; exact (Below.refl _ _).alloc (Nat.le_refl _) _
  have hX1 := hX.kept hbV
  have hY1 := hY.kept hbV
  have hFx1 := hFx.below hbV (fun _ => by omega)
  have hFy1 := hFy.below hbV (fun _ => by omega)
  have HBV : Hid (Below N w V) := Lib.hid (hbV.mono (by omega))
  have HN1 := Lib.hid hNx
  have HN2 := Lib.hid hNy
  clear hV hF hbV hX hY hFx hFy hNx hNy
  go_loopw [6, 7, 13] (fun s6 s7 s13 wr => ∃ (k P S : Nat) (C E : Int), k ≤ nx ∧ s6 = .int .i64 C ∧ s7 = .int .i64 E ∧ s13 = .int .i64 k ∧ -2147483648 ≤ C ∧ C ≤ 2147483647 ∧ -2147483648 ≤ E ∧ E ≤ 2147483647 ∧ Hid (Cst k X Y a b P C) ∧ Hid (k ≤ ny → Cst k X Y c d S E) ∧ Hid (ny ≤ k → S = y) ∧
    Num wr bx ox nx (P + X / B^k * B^k) ∧ Num wr by_ oy ny (S + Y / B^k * B^k) ∧ Free wr bx ox nx ∧ Free wr by_ oy ny ∧ Blk wr F #[.int .i64 a, .int .i64 b, .int .i64 c, .int .i64 d] ∧ Below N w wr) (fun _ _ s13 _ => nx - (intOf s13).toNat)
  case atStart => exact ⟨0, 0, 0, 0, 0, by omega, rfl, rfl, rfl, by decide, by decide, by decide, by decide, Lib.hid (cst_zero _ _ _ _), Lib.hid (fun _ => cst_zero _ _ _ _), Lib.hid (fun h => by omega), hX1.val (by simp), hY1.val (by simp), hFx1, hFy1, BF, HBV.out⟩
  case round =>
    clear hX1 hY1 hFx1 hFy1 BF HBV
    obtain ⟨k, P, S, C, E, hk, rfl, rfl, rfl, C1, C2, E1, E2, HC, HE, HS, hX, hY, hFx, hFy, BF, hbr⟩ := hrel
    by_cases hlt : k < nx
    · have cx0 := hX.cell (i := k) hlt
      rw [cst_dg HC.out.1] at cx0
      have fx0 := hFx.at (i := k) hlt
      obtain ⟨q0, q1, q2, q3⟩ := Blk4 BF
      have hxB := dg_lt X k
      have i1 : (k : Int) < nx := by omega
      have i2 : (0 : Int) ≤ k := by omega
      have hne := HNE.out
      have hne2 : ¬ by_ = bx := fun e => hne e.symm
      by_cases hlt2 : k < ny
      · have cy0 := hY.cell (i := k) hlt2
        have hSE := HE.out (by omega)
        rw [cst_dg hSE.1] at cy0
        have fy0 := hFy.at (i := k) hlt2
        have hyB := dg_lt Y k
        obtain ⟨⟨g1, g2⟩, ⟨g3, g4⟩, g5, g6⟩ := comb_in a1 a2 b1 b2 S1.out hxB hyB C1 C2
        obtain ⟨⟨g7, g8⟩, ⟨g9, g10⟩, g11, g12⟩ := comb_in c1 c2 d1 d2 S2.out hxB hyB E1 E2
        have m1 := mul_in a1 a2 hxB
        have m2 := mul_in b1 b2 hyB
        have m3 := mul_in c1 c2 hxB
        have m4 := mul_in d1 d2 hyB
        have w1 : IntKind.i64.wrap (a * (dg X k : Nat)) = a * (dg X k : Nat) := wd_wrap (by omega) (by omega)
        have w2 : IntKind.i64.wrap (b * (dg Y k : Nat)) = b * (dg Y k : Nat) := wd_wrap (by omega) (by omega)
        have w3 : IntKind.i64.wrap (a * (dg X k : Nat) + b * (dg Y k : Nat)) = a * (dg X k : Nat) + b * (dg Y k : Nat) := wd_wrap (by omega) (by omega)
        have w4 : IntKind.i64.wrap (C + (a * (dg X k : Nat) + b * (dg Y k : Nat))) = C + (a * (dg X k : Nat) + b * (dg Y k : Nat)) := wd_wrap (by omega) (by omega)
        have w5 : IntKind.i64.wrap (c * (dg X k : Nat)) = c * (dg X k : Nat) := wd_wrap (by omega) (by omega)
        have w6 : IntKind.i64.wrap (d * (dg Y k : Nat)) = d * (dg Y k : Nat) := wd_wrap (by omega) (by omega)
        have w7 : IntKind.i64.wrap (c * (dg X k : Nat) + d * (dg Y k : Nat)) = c * (dg X k : Nat) + d * (dg Y k : Nat) := wd_wrap (by omega) (by omega)
        have w8 : IntKind.i64.wrap (E + (c * (dg X k : Nat) + d * (dg Y k : Nat))) = E + (c * (dg X k : Nat) + d * (dg Y k : Nat)) := wd_wrap (by omega) (by omega)
        clear m1 m2 m3 m4 g1 g2 g3 g4 g7 g8 g9 g10
        have i3 : (k : Int) < ny := by omega
        have hxb' := dg_lt' X k
        have hyb' := dg_lt' Y k
        have HSE := Lib.hid hSE
        clear hSE hxB hyB
        go_wp2_with fail
        go_roundw
        case rel =>
          obtain ⟨o1, ho1⟩ : ∃ o : Nat, (o : Int) = (C + (a * (dg X k : Nat) + b * (dg Y k : Nat))) % 4294967296 := ⟨_, Int.toNat_of_nonneg (Int.emod_nonneg _ (by decide))⟩
          obtain ⟨o2, ho2⟩ : ∃ o : Nat, (o : Int) = (E + (c * (dg X k : Nat) + d * (dg Y k : Nat))) % 4294967296 := ⟨_, Int.toNat_of_nonneg (Int.emod_nonneg _ (by decide))⟩
          rw [← ho1, ← ho2]
          obtain ⟨hoB, hC'⟩ := cst_step HC.out a1 a2 b1 b2 S1.out o1 ho1
          obtain ⟨hoB2, hE'⟩ := cst_step HSE.out c1 c2 d1 d2 S2.out o2 ho2
          refine ⟨k + 1, P + o1 * B^k, S + o2 * B^k, _, _, by omega, rfl, rfl, by go_num, g5, g6, g11, g12, Lib.hid hC', Lib.hid (fun _ => hE'), Lib.hid (fun h => ?_), ?_, ?_, ?_, ?_, ?_, ?_⟩
          · have e : k + 1 = ny := by omega
            rw [e] at hE'
            exact cst_top hE' HY.out HYY.out HEY.out
          · exact ((hX.set hlt hoB).val (cst_put HC.out.1)).other _ (fun _ => hne)
          · exact ((hY.other _ (fun _ => hne2)).set hlt2 hoB2).val (cst_put HSE.out.1)
          · exact (hFx.set _ _).set _ _
          · exact (hFy.set _ _).set _ _
          · exact (BF.other _ (by show F ≠ bx; omega)).other _ (by show F ≠ by_; omega)
          · exact (hbr.setCell HN1.out _).setCell HN2.out _
        case measure => simp [intOf]; omega
      · have hy0 : dg Y k = 0 := dg_of_lt HY.out (by omega)
        have e0 : C + (a * (dg X k : Nat) + b * (dg Y k : Nat)) = C + a * (dg X k : Nat) := by rw [hy0]; simp
        have e9 : E + (c * (dg X k : Nat) + d * (dg Y k : Nat)) = E + c * (dg X k : Nat) := by rw [hy0]; simp
        obtain ⟨_, ⟨g3, g4⟩, g5, g6⟩ := comb_in a1 a2 b1 b2 S1.out hxB (dg_lt Y k) C1 C2
        obtain ⟨_, ⟨g9, g10⟩, g11, g12⟩ := comb_in c1 c2 d1 d2 S2.out hxB (dg_lt Y k) E1 E2
        rw [e0] at g3 g4 g5 g6
        rw [e9] at g9 g10 g11 g12
        have m1 := mul_in a1 a2 hxB
        have m3 := mul_in c1 c2 hxB
        have w1 : IntKind.i64.wrap (a * (dg X k : Nat)) = a * (dg X k : Nat) := wd_wrap (by omega) (by omega)
        have w4 : IntKind.i64.wrap (C + a * (dg X k : Nat)) = C + a * (dg X k : Nat) := wd_wrap (by omega) (by omega)
        have w5 : IntKind.i64.wrap (c * (dg X k : Nat)) = c * (dg X k : Nat) := wd_wrap (by omega) (by omega)
        have w8 : IntKind.i64.wrap (E + c * (dg X k : Nat)) = E + c * (dg X k : Nat) := wd_wrap (by omega) (by omega)
        have hxb' := dg_lt' X k
        have i3 : ¬ (k : Int) < ny := by omega
        have HY0 := Lib.hid hy0
        have HE0 := Lib.hid e0
        clear m1 m3 g3 g4 g9 g10 hxB hy0 e0 e9
        go_wp2_with fail
        go_roundw
        case rel =>
          obtain ⟨o1, ho1⟩ : ∃ o : Nat, (o : Int) = (C + a * (dg X k : Nat)) % 4294967296 := ⟨_, Int.toNat_of_nonneg (Int.emod_nonneg _ (by decide))⟩
          rw [← ho1]
          obtain ⟨hoB, hC'⟩ := cst_step HC.out a1 a2 b1 b2 S1.out o1 (by rw [HE0.out]; exact ho1)
          rw [HE0.out] at hC'
          refine ⟨k + 1, P + o1 * B^k, S, _, _, by omega, rfl, rfl, by go_num, g5, g6, g11, g12, Lib.hid hC', Lib.hid (fun h => absurd h (by omega)), Lib.hid (fun h => HS.out (by omega)), ?_, ?_, ?_, ?_, ?_, ?_⟩
          · exact (hX.set hlt hoB).val (cst_put HC.out.1)
          · refine (hY.other _ (fun _ => hne2)).val ?_
            rw [Nat.div_eq_of_lt (Nat.lt_of_lt_of_le HY.out (pow_le (by omega))), Nat.div_eq_of_lt (Nat.lt_of_lt_of_le HY.out (pow_le (by omega)))]
            omega
          · exact hFx.set _ _
          · exact hFy.set _ _
          · exact BF.other _ (by show F ≠ bx; omega)
          · exact hbr.setCell HN1.out _
        case measure => simp [intOf]; omega
    · obtain rfl : k = nx := by omega
      have i1 : ¬ (k : Int) < k := by omega
      have hP : P = x := cst_top HC.out (Nat.lt_of_lt_of_le HY.out (pow_le hn)) (Nat.lt_of_lt_of_le HXX.out (pow_le hn)) HEX.out
      have hSy := HS.out hn
      have hX2 : Num wr bx ox k x := hX.val (by rw [Nat.div_eq_of_lt HX.out, hP]; omega)
      have hY2 : Num wr by_ oy ny y := hY.val (by rw [Nat.div_eq_of_lt (Nat.lt_of_lt_of_le HY.out (pow_le hn)), hSy]; omega)
      clear hP hSy hX hY hlt
      go_wp2_with fail
      go_end0
      exact ⟨rfl, hX2, hY2, hFx, hFy, hbr⟩
end Go.Proofs.Ytmfimkndonlheaa

/- integer.common: Euclid's algorithm in the way of Lehmer; integer.Gcd at any two numbers. -/
namespace PB
open Go Go.RowKit
/-- What common has at the head of a round. -/
structure ComInv (N0 L G : Nat) (w0 wr : World) (sx sy : Value) (X Y : Nat) : Prop where
  le : Y ≤ X
  lim : nl X ≤ L
  gcd : Nat.gcd X Y = G
  below : Below N0 w0 wr
  ex : ∃ (qx qy : Option Addr) (bx ox cx by_ oy cy : Nat), sx = .slice qx (nl X) cx ∧ sy = .slice qy (nl Y) cy ∧ (nl X ≠ 0 → qx = some ⟨bx, ox, none⟩) ∧ (nl Y ≠ 0 → qy = some ⟨by_, oy, none⟩) ∧
    Num wr bx ox (nl X) X ∧ Num wr by_ oy (nl Y) Y ∧ Free wr bx ox (nl X) ∧ Free wr by_ oy (nl Y) ∧ (nl X ≠ 0 → N0 ≤ bx) ∧ (nl Y ≠ 0 → N0 ≤ by_) ∧ (nl X ≠ 0 → nl Y ≠ 0 → bx ≠ by_) ∧ nl X ≤ cx ∧ nl Y ≤ cy
def RetCm (N0 : Nat) (w : World) (G : Nat) (e : Ending) (w' : World) : Prop := ∃ base c b off n, e = .returned (.slice base n c) ∧ (n ≠ 0 → base = some ⟨b, off, none⟩) ∧ Num w' b off n G ∧ n ≤ c ∧ n ≤ 1000000000 ∧ (n ≠ 0 → N0 ≤ b) ∧ Below N0 w w'
theorem two_dg {m : Nat} (h : m < B^2) : (m : Int) % 4294967296 = (dg m 0 : Nat) ∧ (m : Int) / 4294967296 = (dg m 1 : Nat) ∧ dg m 1 < 4294967296 := by
  have e0 : dg m 0 = m % 4294967296 := by unfold dg B; rw [Nat.pow_zero, Nat.div_one]
  have e1 : dg m 1 = m / 4294967296 := by
    have : m / B < B := Nat.div_lt_of_lt_mul (by rw [show B * B = B^2 by rw [Nat.pow_succ, Nat.pow_one]]; exact h)
    unfold dg
    rw [Nat.pow_one, Nat.mod_eq_of_lt this]
    rfl
  rw [e0, e1]
  refine ⟨by omega, by omega, ?_⟩
  have := dg_lt' m 1
  omega
end PB
namespace Go.Proofs.Ytmfimkndonlheaa
open Go.RowKit PB

theorem low2 {X : Nat} (h : nl X ≤ 2) : X / 2^0 % M64 = X := by
  have h1 := nl_le_iff.1 h
  rw [Nat.pow_zero, Nat.div_one]
  exact Nat.mod_eq_of_lt h1
theorem head_low (base : Option Addr) (b off X c : Nat) (w : World) (hb : nl X ≠ 0 → base = some ⟨b, off, none⟩) (hX : Num w b off (nl X) X) (hl : nl X ≤ 2) :
    Calls Try.prog 84 #[.slice base (nl X) c, .int .i64 0] w fun e w' => e = .returned (.int .u64 X) ∧ w = w' :=
  head_any base b off X c 0 0 0 w hb hX rfl (by decide) (by decide) (by omega) X (low2 hl)
set_option maxHeartbeats 6400000 in
set_option maxRecDepth 100000 in
theorem common_ge3 (gx gy X Y N0 : Nat) (w : World) (hX : Num w gx 0 (nl X) X) (hY : Num w gy 0 (nl Y) Y) (hFx : Free w gx 0 (nl X)) (hFy : Free w gy 0 (nl Y)) (hne : gx ≠ gy) (hNx : N0 ≤ gx) (hNy : N0 ≤ gy) (hNw : N0 ≤ w.heap.size)
    (hc : nl X ≤ 256) (hc' : nl Y ≤ 256) (hle : Y ≤ X) :
    Calls Try.prog 53 #[.slice (some ⟨gx, 0, none⟩) (nl X) (nl X), .slice (some ⟨gy, 0, none⟩) (nl Y) (nl Y)] w (RetCm N0 w (Nat.gcd X Y)) := by
  have hcm : ¬ cmpi (X : Int) Y < 0 := by unfold cmpi; rw [if_neg (by omega)]; split <;> decide
  have ORD := Lib.hid (order_any (some ⟨gx, 0, none⟩) (some ⟨gy, 0, none⟩) gx 0 X (nl X) gy 0 Y (nl Y) w (fun _ => rfl) (fun _ => rfl) hX hY (by omega) (by omega))
  have HI : Hid (∀ m, ComInv N0 256 (Nat.gcd X Y) w (w.drewN m) (.slice (some ⟨gx, 0, none⟩) (nl X) (nl X)) (.slice (some ⟨gy, 0, none⟩) (nl Y) (nl Y)) X Y) := Lib.hid (fun m => ⟨by omega, hc, rfl, below_drewN (Below.refl _ _) _, _, _, gx, 0, _, gy, 0, _, rfl, rfl, fun _ => rfl, fun _ => rfl, hX.drewN, hY.drewN, hFx, hFy, fun _ => hNx, fun _ => hNy, fun _ _ => hne, Nat.le_refl _, Nat.le_refl _⟩)
  obtain ⟨G, hG⟩ : ∃ G, Nat.gcd X Y = G := ⟨_, rfl⟩
  rw [hG] at HI ⊢
  have HNW := Lib.hid hNw
  clear hX hY hFx hFy hne hNx hNy hNw hc hc' hG hle
  go_enter Try.func53, Try.ntmps53
  go_wp2_with (go_at_call 69; refine ORD.out.mono ?_; rintro e w' ⟨rfl, n1, rfl⟩)
  go_loopg [0, 1] Y (fun gk sx sy wr => ∃ X' Y' : Nat, gk = Y' ∧ ComInv N0 256 G w wr sx sy X' Y')
  case atStart => exact ⟨X, Y, rfl, HI.out _⟩
  case round =>
    clear HI ORD
    obtain ⟨X', Y', rfl, HC⟩ := hrel
    obtain ⟨hle, hlim, hgcd, hb, qx, qy, bx, ox, cx, by_, oy, cy, rfl, rfl, hqx, hqy, hX, hY, hFx, hFy, hNx, hNy, hne, hcx, hcy⟩ := HC
    have HLE := Lib.hid hle
    have HG := Lib.hid hgcd
    have HB := Lib.hid hb
    have hmono := nl_mono hle
    clear hle hgcd hb
    by_cases hbig : 2 < nl gk
    · have i1 : (2 : Int) < nl gk := by omega
      obtain rfl := hqx (by omega)
      obtain rfl := hqy (by omega)
      have HNE := Lib.hid (hne (by omega) (by omega))
      have HNX := Lib.hid (hNx (by omega))
      have HNY := Lib.hid (hNy (by omega))
      have hbx := hX.block_lt (by omega)
      have hby := hY.block_lt (by omega)
      clear hqx hqy hne hNx hNy
      go_wp2_with fail
      refine (foresee_any (some ⟨bx, ox, none⟩) (some ⟨by_, oy, none⟩) bx ox X' cx by_ oy gk cy wr (fun _ => rfl) (fun _ => rfl) hX hY (by omega) HLE.out hbig).mono ?_
      rintro e w1 ⟨a, b, c, d, rfl, hf, hb1⟩
      go_upto_region 5 with fail
      generalize hW : World.alloc _ _ = W2
      obtain ⟨T, hT⟩ : ∃ T, w1.heap.size = T := ⟨_, rfl⟩
      rw [hT]
      have BT : Blk W2 T #[.int .i64 a, .int .i64 b, .int .i64 c, .int .i64 d] := by rw [← hW, ← hT]; exact blk_new rfl
      have hb2 : Below wr.heap.size wr W2 := by rw [← hW]; exact hb1.alloc hb1.size _
      have hX2 := hX.kept hb2
      have hY2 := hY.kept hb2
      have hFx2 := hFx.below hb2 (fun _ => hbx)
      have hFy2 := hFy.below hb2 (fun _ => hby)
      have HB2 := Lib.hid (HB.out.trans (hb2.mono (Nat.le_trans HNW.out HB.out.size)))
      have HF := Lib.hid hf
      have HSZ := Lib.hid hb2.size
      clear hW hT hb1 hb2 hX hY hFx hFy hf
      obtain ⟨t0, t1, t2, t3⟩ := Blk4 BT
      clear BT
      by_cases hb0 : b = 0
      · have t : (b != (0 : Int)) = false := by simp [hb0]
        have hgk : gk ≠ 0 := by rintro rfl; rw [nl_zero] at hbig; omega
        have hmod : X' % gk < gk := Nat.mod_lt _ (by omega)
        clear hb0
        go_wp2_with fail
        refine (divide_any (some ⟨bx, ox, none⟩) (some ⟨by_, oy, none⟩) bx ox X' cx by_ oy gk cy W2 (fun _ => rfl) (fun _ => rfl) hX2 hY2 (by omega) (by omega) hcx hgk).mono ?_
        rintro e w3 ⟨vq, vr, rfl, ⟨qb, qg, qo, qn, qc, rfl, _⟩, ⟨rb, rg, ro, rn, rc, rfl, hr1, hr2, hr3, hr4, hr5, hr6⟩, hb3⟩
        have hY3 := hY2.kept hb3
        have hFy3 := hFy2.below hb3 (fun _ => by have := HSZ.out; omega)
        have HR1 := Lib.hid hr1
        have HR5 := Lib.hid hr5
        have HB3 := Lib.hid (HB2.out.trans (hb3.mono (Nat.le_trans HNW.out HB2.out.size)))
        have hrle := nl_le hr2.lt
        clear hr1 hr5 hb3 hX2 hY2 hFx2 hFy2 t0 t1 t2 t3
        go_wp2_with (go_at_call 51; refine (cut_any rb rg ro rn rc (X' % gk) _ HR1.out (by exact hr2) hr3 (by omega)).mono ?_; rintro e w' ⟨rfl, rfl⟩)
        go_roundg (X' % gk)
        case measure => exact hmod
        case rel =>
          refine ⟨gk, X' % gk, rfl, ⟨by omega, by omega, ?_, HB3.out, _, _, by_, oy, cy, rg, ro, _, rfl, rfl, fun _ => rfl, fun h => HR1.out (by omega), hY3, hr2.fewer hrle (lt_nl _), hFy3, fun i hi => hr6 i (by omega), fun _ => HNY.out, fun h => ?_, fun _ h => ?_, hcy, Nat.le_refl _⟩⟩
          · rw [← HG.out, Nat.gcd_comm X' gk, Nat.gcd_rec gk X', Nat.gcd_comm]
          · have h1 := HR5.out (by omega)
            have h2 := HSZ.out
            have h3 := HNY.out
            omega
          · have h1 := HR5.out (by omega)
            have h2 := HSZ.out
            omega
      · have t : (b != (0 : Int)) = true := by simp [hb0]
        obtain ⟨x, y, ex, ey, hx, hy, hg⟩ := HF.out.go.resolve_left hb0
        have fx : x < B^(nl gk) := Nat.lt_of_le_of_lt hx (lt_nl gk)
        have fy : y < B^(nl gk) := Nat.lt_of_lt_of_le hy (Nat.le_of_lt fx)
        have nx := nl_le fx
        have ny := nl_le fy
        have HEX := Lib.hid ex
        have HEY := Lib.hid ey
        have HGG := Lib.hid hg
        clear hb0 ex ey hg
        go_wp2_with fail
        refine (combine_any bx ox X' cx by_ oy gk cy (nl X') (nl gk) N0 a b c d x y W2 hX2 hY2 hFx2 hFy2 HNE.out hmono (by omega) (by omega) HNX.out HNY.out HF.out.ba.1 HF.out.ba.2 HF.out.bb.1 HF.out.bb.2 HF.out.bc.1 HF.out.bc.2 HF.out.bd.1 HF.out.bd.2 HF.out.sgn HEX.out HEY.out fx fy).mono ?_
        rintro e w3 ⟨rfl, hX3, hY3, hFx3, hFy3, hb3⟩
        have HB3 := Lib.hid (HB2.out.trans hb3)
        clear hb3 hX2 hY2 hFx2 hFy2 t0 t1 t2 t3
        go_wp2_with (first
          | (go_at_call_of 51 (Value.slice (some ⟨bx, ox, none⟩) (nl X') cx); refine (cut_any (some ⟨bx, ox, none⟩) bx ox (nl X') cx x _ (fun _ => rfl) (by exact hX3) hcx (by omega)).mono ?_; rintro e w' ⟨rfl, rfl⟩)
          | (go_at_call_of 51 (Value.slice (some ⟨by_, oy, none⟩) (nl gk) cy); refine (cut_any (some ⟨by_, oy, none⟩) by_ oy (nl gk) cy y _ (fun _ => rfl) (by exact hY3) hcy (by omega)).mono ?_; rintro e w' ⟨rfl, rfl⟩))
        go_roundg y
        case measure => omega
        case rel =>
          exact ⟨x, y, rfl, ⟨by omega, by omega, by rw [HGG.out]; exact HG.out, HB3.out, _, _, bx, ox, _, by_, oy, _, rfl, rfl, fun _ => rfl, fun _ => rfl, hX3.fewer (by omega) (lt_nl _), hY3.fewer ny (lt_nl _), fun i hi => hFx3 i (by omega), fun i hi => hFy3 i (by omega), fun _ => HNX.out, fun _ => HNY.out, fun _ _ => HNE.out, Nat.le_refl _, Nat.le_refl _⟩⟩
    · have i1 : ¬ (2 : Int) < nl gk := by omega
      by_cases h0 : nl gk = 0
      · have t : ((nl gk : Int) == 0) = true := by rw [h0]; rfl
        have hz := nl_eq_zero.1 h0
        have hG : X' = G := by have := HG.out; rwa [hz, Nat.gcd_zero_right] at this
        have HQX := Lib.hid hqx
        have HXG := Lib.hid (hX.val hG)
        have HNX := Lib.hid hNx
        clear h0 hz hG hqx hqy hne hX hNx hNy
        go_wp2_with fail
        go_ret
        exact ⟨qx, cx, bx, ox, nl X', rfl, HQX.out, HXG.out, hcx, by omega, HNX.out, HB.out⟩
      · have t : ((nl gk : Int) == 0) = false := by simp; omega
        obtain rfl := hqy h0
        obtain rfl := hqx (by omega)
        have hgk : gk ≠ 0 := by rintro rfl; rw [nl_zero] at h0; omega
        have hmod : X' % gk < gk := Nat.mod_lt _ (by omega)
        have hR2 : nl (X' % gk) ≤ 2 := Nat.le_trans (nl_mono (Nat.le_of_lt hmod)) (by omega)
        clear hqx hqy hne h0 hNx hNy
        go_wp2_with fail
        refine (divide_any (some ⟨bx, ox, none⟩) (some ⟨by_, oy, none⟩) bx ox X' cx by_ oy gk cy wr (fun _ => rfl) (fun _ => rfl) hX hY (by omega) (by omega) hcx hgk).mono ?_
        rintro e w3 ⟨vq, vr, rfl, ⟨qb, qg, qo, qn, qc, rfl, _⟩, ⟨rb, rg, ro, rn, rc, rfl, hr1, hr2, hr3, hr4, hr5, hr6⟩, hb3⟩
        have hY3 := hY.kept hb3
        have HR1 := Lib.hid hr1
        have HB3 := Lib.hid (HB.out.trans (hb3.mono (Nat.le_trans HNW.out HB.out.size)))
        have hrle := nl_le hr2.lt
        clear hr1 hr5 hb3 hX hY hFx hFy
        go_wp2_with (first
          | (go_at_call 51; refine (cut_any rb rg ro rn rc (X' % gk) _ HR1.out (by exact hr2) hr3 (by omega)).mono ?_; rintro e w' ⟨rfl, rfl⟩)
          | (go_at_call_of 84 (Value.slice (some ⟨by_, oy, none⟩) (nl gk) cy); refine (head_low (some ⟨by_, oy, none⟩) by_ oy gk cy _ (fun _ => rfl) (by exact hY3) (by omega)).mono ?_; rintro e w' ⟨rfl, rfl⟩)
          | (go_at_call 84; refine (head_low rb rg ro (X' % gk) _ _ (fun h => HR1.out (by omega)) (by exact hr2.fewer hrle (lt_nl _)) hR2).mono ?_; rintro e w' ⟨rfl, rfl⟩))
        clear hr2 hrle HR1 hr3 hr4 hr6 hY3
        have g2 : gk < B^2 := nl_le_iff.1 (by omega)
        have HR0 : Hid (Nat.gcd gk (X' % gk) = G) := Lib.hid (by rw [← HG.out, Nat.gcd_comm X' gk, Nat.gcd_rec gk X', Nat.gcd_comm])
        have HM2 : Hid (X' % gk < B^2) := Lib.hid (Nat.lt_trans hmod g2)
        have HM1 := Lib.hid g2
        clear g2 hmod HG
        go_loopw [10, 11] (fun s10 s11 wr2 => ∃ m n k : Nat, Hid (m < B^2) ∧ Hid (n < B^2) ∧ s10 = .int .u64 m ∧ s11 = .int .u64 n ∧ Hid (Nat.gcd m n = G) ∧ wr2 = w3.drewN k) (fun _ s11 _ => (intOf s11).toNat)
        case atStart => exact ⟨gk, X' % gk, 0, HM1, HM2, rfl, rfl, HR0, rfl⟩
        case round =>
          obtain ⟨m, n, k, hm, hn, rfl, rfl, hG, rfl⟩ := hrel
          by_cases hn0 : n = 0
          · have hm2 : m = G := by have := hG.out; rwa [hn0, Nat.gcd_zero_right] at this
            have ht : ((n : Int) != 0) = false := by simp [hn0]
            clear hn0
            obtain ⟨e1, e2, e3⟩ := two_dg hm.out
            have HE1 := Lib.hid e1
            clear e1
            have HM := Lib.hid hm2
            clear hm2 hG
            go_wp2_with fail
            rw [HE1.out]
            go_ret
            refine ⟨_, 2, w3.heap.size, 0, 2, rfl, fun _ => rfl, ?_, Nat.le_refl _, by omega, fun _ => Nat.le_trans HNW.out HB3.out.size, ?_⟩
            · rw [← HM.out]
              refine ⟨hm.out, fun i hi => ?_⟩
              have : i = 0 ∨ i = 1 := by omega
              rcases this with rfl | rfl
              · exact cell_new _ _ _ _ _ _ rfl rfl
              · exact cell_new _ _ _ _ _ _ rfl rfl
            · exact below_drewN (HB3.out.alloc (Nat.le_trans HNW.out HB3.out.size) _) _
          · have ht : ((n : Int) != 0) = true := by simp; omega
            have hnp : (0 : Int) < n := by omega
            have hlt := Nat.mod_lt m (show 0 < n by omega)
            have hG2 := Lib.hid (show Nat.gcd n (m % n) = G by rw [← hG.out, Nat.gcd_comm m n, Nat.gcd_rec n m, Nat.gcd_comm])
            have HN := Lib.hid (Nat.lt_trans hlt hn.out)
            go_wp2_with fail
            go_quiet (fail)
            go_wp2_with fail
            go_roundw
            case rel => exact ⟨n, m % n, _, hn, HN, rfl, rfl, hG2, by rw [World.drewN_drewN]⟩
            case measure => simp [intOf]; omega

set_option maxHeartbeats 6400000 in
set_option maxRecDepth 100000 in
theorem common_lt3 (gx gy X Y N0 : Nat) (w : World) (hX : Num w gx 0 (nl X) X) (hY : Num w gy 0 (nl Y) Y) (hFx : Free w gx 0 (nl X)) (hFy : Free w gy 0 (nl Y)) (hne : gx ≠ gy) (hNx : N0 ≤ gx) (hNy : N0 ≤ gy) (hNw : N0 ≤ w.heap.size)
    (hc : nl X ≤ 256) (hc' : nl Y ≤ 256) (hle : Y < X) :
    Calls Try.prog 53 #[.slice (some ⟨gy, 0, none⟩) (nl Y) (nl Y), .slice (some ⟨gx, 0, none⟩) (nl X) (nl X)] w (RetCm N0 w (Nat.gcd X Y)) := by
  have hcm : cmpi (Y : Int) X < 0 := by unfold cmpi; rw [if_pos (by omega)]; decide
  have ORD := Lib.hid (order_any (some ⟨gy, 0, none⟩) (some ⟨gx, 0, none⟩) gy 0 Y (nl Y) gx 0 X (nl X) w (fun _ => rfl) (fun _ => rfl) hY hX (by omega) (by omega))
  have HI : Hid (∀ m, ComInv N0 256 (Nat.gcd X Y) w (w.drewN m) (.slice (some ⟨gx, 0, none⟩) (nl X) (nl X)) (.slice (some ⟨gy, 0, none⟩) (nl Y) (nl Y)) X Y) := Lib.hid (fun m => ⟨by omega, hc, rfl, below_drewN (Below.refl _ _) _, _, _, gx, 0, _, gy, 0, _, rfl, rfl, fun _ => rfl, fun _ => rfl, hX.drewN, hY.drewN, hFx, hFy, fun _ => hNx, fun _ => hNy, fun _ _ => hne, Nat.le_refl _, Nat.le_refl _⟩)
  obtain ⟨G, hG⟩ : ∃ G, Nat.gcd X Y = G := ⟨_, rfl⟩
  rw [hG] at HI ⊢
  have HNW := Lib.hid hNw
  clear hX hY hFx hFy hne hNx hNy hNw hc hc' hG hle
  go_enter Try.func53, Try.ntmps53
  go_wp2_with (go_at_call 69; refine ORD.out.mono ?_; rintro e w' ⟨rfl, n1, rfl⟩)
  go_loopg [0, 1] Y (fun gk sx sy wr => ∃ X' Y' : Nat, gk = Y' ∧ ComInv N0 256 G w wr sx sy X' Y')
  case atStart => exact ⟨X, Y, rfl, HI.out _⟩
  case round =>
    clear HI ORD
    obtain ⟨X', Y', rfl, HC⟩ := hrel
    obtain ⟨hle, hlim, hgcd, hb, qx, qy, bx, ox, cx, by_, oy, cy, rfl, rfl, hqx, hqy, hX, hY, hFx, hFy, hNx, hNy, hne, hcx, hcy⟩ := HC
    have HLE := Lib.hid hle
    have HG := Lib.hid hgcd
    have HB := Lib.hid hb
    have hmono := nl_mono hle
    clear hle hgcd hb
    by_cases hbig : 2 < nl gk
    · have i1 : (2 : Int) < nl gk := by omega
      obtain rfl := hqx (by omega)
      obtain rfl := hqy (by omega)
      have HNE := Lib.hid (hne (by omega) (by omega))
      have HNX := Lib.hid (hNx (by omega))
      have HNY := Lib.hid (hNy (by omega))
      have hbx := hX.block_lt (by omega)
      have hby := hY.block_lt (by omega)
      clear hqx hqy hne hNx hNy
      go_wp2_with fail
      refine (foresee_any (some ⟨bx, ox, none⟩) (some ⟨by_, oy, none⟩) bx ox X' cx by_ oy gk cy wr (fun _ => rfl) (fun _ => rfl) hX hY (by omega) HLE.out hbig).mono ?_
      rintro e w1 ⟨a, b, c, d, rfl, hf, hb1⟩
      go_upto_region 5 with fail
      generalize hW : World.alloc _ _ = W2
      obtain ⟨T, hT⟩ : ∃ T, w1.heap.size = T := ⟨_, rfl⟩
      rw [hT]
      have BT : Blk W2 T #[.int .i64 a, .int .i64 b, .int .i64 c, .int .i64 d] := by rw [← hW, ← hT]; exact blk_new rfl
      have hb2 : Below wr.heap.size wr W2 := by rw [← hW]; exact hb1.alloc hb1.size _
      have hX2 := hX.kept hb2
      have hY2 := hY.kept hb2
      have hFx2 := hFx.below hb2 (fun _ => hbx)
      have hFy2 := hFy.below hb2 (fun _ => hby)
      have HB2 := Lib.hid (HB.out.trans (hb2.mono (Nat.le_trans HNW.out HB.out.size)))
      have HF := Lib.hid hf
      have HSZ := Lib.hid hb2.size
      clear hW hT hb1 hb2 hX hY hFx hFy hf
      obtain ⟨t0, t1, t2, t3⟩ := Blk4 BT
      clear BT
      by_cases hb0 : b = 0
      · have t : (b != (0 : Int)) = false := by simp [hb0]
        have hgk : gk ≠ 0 := by rintro rfl; rw [nl_zero] at hbig; omega
        have hmod : X' % gk < gk := Nat.mod_lt _ (by omega)
        clear hb0
        go_wp2_with fail
        refine (divide_any (some ⟨bx, ox, none⟩) (some ⟨by_, oy, none⟩) bx ox X' cx by_ oy gk cy W2 (fun _ => rfl) (fun _ => rfl) hX2 hY2 (by omega) (by omega) hcx hgk).mono ?_
        rintro e w3 ⟨vq, vr, rfl, ⟨qb, qg, qo, qn, qc, rfl, _⟩, ⟨rb, rg, ro, rn, rc, rfl, hr1, hr2, hr3, hr4, hr5, hr6⟩, hb3⟩
        have hY3 := hY2.kept hb3
        have hFy3 := hFy2.below hb3 (fun _ => by have := HSZ.out; omega)
        have HR1 := Lib.hid hr1
        have HR5 := Lib.hid hr5
        have HB3 := Lib.hid (HB2.out.trans (hb3.mono (Nat.le_trans HNW.out HB2.out.size)))
        have hrle := nl_le hr2.lt
        clear hr1 hr5 hb3 hX2 hY2 hFx2 hFy2 t0 t1 t2 t3
        go_wp2_with (go_at_call 51; refine (cut_any rb rg ro rn rc (X' % gk) _ HR1.out (by exact hr2) hr3 (by omega)).mono ?_; rintro e w' ⟨rfl, rfl⟩)
        go_roundg (X' % gk)
        case measure => exact hmod
        case rel =>
          refine ⟨gk, X' % gk, rfl, ⟨by omega, by omega, ?_, HB3.out, _, _, by_, oy, cy, rg, ro, _, rfl, rfl, fun _ => rfl, fun h => HR1.out (by omega), hY3, hr2.fewer hrle (lt_nl _), hFy3, fun i hi => hr6 i (by omega), fun _ => HNY.out, fun h => ?_, fun _ h => ?_, hcy, Nat.le_refl _⟩⟩
          · rw [← HG.out, Nat.gcd_comm X' gk, Nat.gcd_rec gk X', Nat.gcd_comm]
          · have h1 := HR5.out (by omega)
            have h2 := HSZ.out
            have h3 := HNY.out
            omega
          · have h1 := HR5.out (by omega)
            have h2 := HSZ.out
            omega
      · have t : (b != (0 : Int)) = true := by simp [hb0]
        obtain ⟨x, y, ex, ey, hx, hy, hg⟩ := HF.out.go.resolve_left hb0
        have fx : x < B^(nl gk) := Nat.lt_of_le_of_lt hx (lt_nl gk)
        have fy : y < B^(nl gk) := Nat.lt_of_lt_of_le hy (Nat.le_of_lt fx)
        have nx := nl_le fx
        have ny := nl_le fy
        have HEX := Lib.hid ex
        have HEY := Lib.hid ey
        have HGG := Lib.hid hg
        clear hb0 ex ey hg
        go_wp2_with fail
        refine (combine_any bx ox X' cx by_ oy gk cy (nl X') (nl gk) N0 a b c d x y W2 hX2 hY2 hFx2 hFy2 HNE.out hmono (by omega) (by omega) HNX.out HNY.out HF.out.ba.1 HF.out.ba.2 HF.out.bb.1 HF.out.bb.2 HF.out.bc.1 HF.out.bc.2 HF.out.bd.1 HF.out.bd.2 HF.out.sgn HEX.out HEY.out fx fy).mono ?_
        rintro e w3 ⟨rfl, hX3, hY3, hFx3, hFy3, hb3⟩
        have HB3 := Lib.hid (HB2.out.trans hb3)
        clear hb3 hX2 hY2 hFx2 hFy2 t0 t1 t2 t3
        go_wp2_with (first
          | (go_at_call_of 51 (Value.slice (some ⟨bx, ox, none⟩) (nl X') cx); refine (cut_any (some ⟨bx, ox, none⟩) bx ox (nl X') cx x _ (fun _ => rfl) (by exact hX3) hcx (by omega)).mono ?_; rintro e w' ⟨rfl, rfl⟩)
          | (go_at_call_of 51 (Value.slice (some ⟨by_, oy, none⟩) (nl gk) cy); refine (cut_any (some ⟨by_, oy, none⟩) by_ oy (nl gk) cy y _ (fun _ => rfl) (by exact hY3) hcy (by omega)).mono ?_; rintro e w' ⟨rfl, rfl⟩))
        go_roundg y
        case measure => omega
        case rel =>
          exact ⟨x, y, rfl, ⟨by omega, by omega, by rw [HGG.out]; exact HG.out, HB3.out, _, _, bx, ox, _, by_, oy, _, rfl, rfl, fun _ => rfl, fun _ => rfl, hX3.fewer (by omega) (lt_nl _), hY3.fewer ny (lt_nl _), fun i hi => hFx3 i (by omega), fun i hi => hFy3 i (by omega), fun _ => HNX.out, fun _ => HNY.out, fun _ _ => HNE.out, Nat.le_refl _, Nat.le_refl _⟩⟩
    · have i1 : ¬ (2 : Int) < nl gk := by omega
      by_cases h0 : nl gk = 0
      · have t : ((nl gk : Int) == 0) = true := by rw [h0]; rfl
        have hz := nl_eq_zero.1 h0
        have hG : X' = G := by have := HG.out; rwa [hz, Nat.gcd_zero_right] at this
        have HQX := Lib.hid hqx
        have HXG := Lib.hid (hX.val hG)
        have HNX := Lib.hid hNx
        clear h0 hz hG hqx hqy hne hX hNx hNy
        go_wp2_with fail
        go_ret
        exact ⟨qx, cx, bx, ox, nl X', rfl, HQX.out, HXG.out, hcx, by omega, HNX.out, HB.out⟩
      · have t : ((nl gk : Int) == 0) = false := by simp; omega
        obtain rfl := hqy h0
        obtain rfl := hqx (by omega)
        have hgk : gk ≠ 0 := by rintro rfl; rw [nl_zero] at h0; omega
        have hmod : X' % gk < gk := Nat.mod_lt _ (by omega)
        have hR2 : nl (X' % gk) ≤ 2 := Nat.le_trans (nl_mono (Nat.le_of_lt hmod)) (by omega)
        clear hqx hqy hne h0 hNx hNy
        go_wp2_with fail
        refine (divide_any (some ⟨bx, ox, none⟩) (some ⟨by_, oy, none⟩) bx ox X' cx by_ oy gk cy wr (fun _ => rfl) (fun _ => rfl) hX hY (by omega) (by omega) hcx hgk).mono ?_
        rintro e w3 ⟨vq, vr, rfl, ⟨qb, qg, qo, qn, qc, rfl, _⟩, ⟨rb, rg, ro, rn, rc, rfl, hr1, hr2, hr3, hr4, hr5, hr6⟩, hb3⟩
        have hY3 := hY.kept hb3
        have HR1 := Lib.hid hr1
        have HB3 := Lib.hid (HB.out.trans (hb3.mono (Nat.le_trans HNW.out HB.out.size)))
        have hrle := nl_le hr2.lt
        clear hr1 hr5 hb3 hX hY hFx hFy
        go_wp2_with (first
          | (go_at_call 51; refine (cut_any rb rg ro rn rc (X' % gk) _ HR1.out (by exact hr2) hr3 (by omega)).mono ?_; rintro e w' ⟨rfl, rfl⟩)
          | (go_at_call_of 84 (Value.slice (some ⟨by_, oy, none⟩) (nl gk) cy); refine (head_low (some ⟨by_, oy, none⟩) by_ oy gk cy _ (fun _ => rfl) (by exact hY3) (by omega)).mono ?_; rintro e w' ⟨rfl, rfl⟩)
          | (go_at_call 84; refine (head_low rb rg ro (X' % gk) _ _ (fun h => HR1.out (by omega)) (by exact hr2.fewer hrle (lt_nl _)) hR2).mono ?_; rintro e w' ⟨rfl, rfl⟩))
        clear hr2 hrle HR1 hr3 hr4 hr6 hY3
        have g2 : gk < B^2 := nl_le_iff.1 (by omega)
        have HR0 : Hid (Nat.gcd gk (X' % gk) = G) := Lib.hid (by rw [← HG.out, Nat.gcd_comm X' gk, Nat.gcd_rec gk X', Nat.gcd_comm])
        have HM2 : Hid (X' % gk < B^2) := Lib.hid (Nat.lt_trans hmod g2)
        have HM1 := Lib.hid g2
        clear g2 hmod HG
        go_loopw [10, 11] (fun s10 s11 wr2 => ∃ m n k : Nat, Hid (m < B^2) ∧ Hid (n < B^2) ∧ s10 = .int .u64 m ∧ s11 = .int .u64 n ∧ Hid (Nat.gcd m n = G) ∧ wr2 = w3.drewN k) (fun _ s11 _ => (intOf s11).toNat)
        case atStart => exact ⟨gk, X' % gk, 0, HM1, HM2, rfl, rfl, HR0, rfl⟩
        case round =>
          obtain ⟨m, n, k, hm, hn, rfl, rfl, hG, rfl⟩ := hrel
          by_cases hn0 : n = 0
          · have hm2 : m = G := by have := hG.out; rwa [hn0, Nat.gcd_zero_right] at this
            have ht : ((n : Int) != 0) = false := by simp [hn0]
            clear hn0
            obtain ⟨e1, e2, e3⟩ := two_dg hm.out
            have HE1 := Lib.hid e1
            clear e1
            have HM := Lib.hid hm2
            clear hm2 hG
            go_wp2_with fail
            rw [HE1.out]
            go_ret
            refine ⟨_, 2, w3.heap.size, 0, 2, rfl, fun _ => rfl, ?_, Nat.le_refl _, by omega, fun _ => Nat.le_trans HNW.out HB3.out.size, ?_⟩
            · rw [← HM.out]
              refine ⟨hm.out, fun i hi => ?_⟩
              have : i = 0 ∨ i = 1 := by omega
              rcases this with rfl | rfl
              · exact cell_new _ _ _ _ _ _ rfl rfl
              · exact cell_new _ _ _ _ _ _ rfl rfl
            · exact below_drewN (HB3.out.alloc (Nat.le_trans HNW.out HB3.out.size) _) _
          · have ht : ((n : Int) != 0) = true := by simp; omega
            have hnp : (0 : Int) < n := by omega
            have hlt := Nat.mod_lt m (show 0 < n by omega)
            have hG2 := Lib.hid (show Nat.gcd n (m % n) = G by rw [← hG.out, Nat.gcd_comm m n, Nat.gcd_rec n m, Nat.gcd_comm])
            have HN := Lib.hid (Nat.lt_trans hlt hn.out)
            go_wp2_with fail
            go_quiet (fail)
            go_wp2_with fail
            go_roundw
            case rel => exact ⟨n, m % n, _, hn, HN, rfl, rfl, hG2, by rw [World.drewN_drewN]⟩
            case measure => simp [intOf]; omega

/-- integer.common, at any two numbers of at most 256 limbs. -/
theorem common_all (gx gy X Y N0 : Nat) (w : World) (hX : Num w gx 0 (nl X) X) (hY : Num w gy 0 (nl Y) Y) (hFx : Free w gx 0 (nl X)) (hFy : Free w gy 0 (nl Y)) (hne : gx ≠ gy) (hNx : N0 ≤ gx) (hNy : N0 ≤ gy) (hNw : N0 ≤ w.heap.size)
    (hc : nl X ≤ 256) (hc' : nl Y ≤ 256) :
    Calls Try.prog 53 #[.slice (some ⟨gx, 0, none⟩) (nl X) (nl X), .slice (some ⟨gy, 0, none⟩) (nl Y) (nl Y)] w (RetCm N0 w (Nat.gcd X Y)) := by
  by_cases h : Y ≤ X
  · exact common_ge3 gx gy X Y N0 w hX hY hFx hFy hne hNx hNy hNw hc hc' h
  · rw [Nat.gcd_comm]
    exact common_lt3 gy gx Y X N0 w hY hX hFy hFx (fun e => hne e.symm) hNy hNx hNw hc' hc (by omega)
/-- integer.Gcd, at numbers that are not large. -/
theorem gcd_fine (v1 v2 : Value) (z1 z2 : Int) (w : World) (h1 : IsInt w v1 z1) (h2 : IsInt w v2 z2) (hs1 : ¬ big z1) (hs2 : ¬ big z2) :
    Calls Try.prog 16 #[v1, v2] w (RetIntE w (Nat.gcd z1.natAbs z2.natAbs) 0) := by
  obtain ⟨s, base, b, off, n, c, X, rfl, hb, hX, hn, hl, rfl⟩ := h1
  obtain ⟨t, base', b', off', n', c', Y, rfl, hb', hY, hn', hl', rfl⟩ := h2
  rw [big_sg] at hs1 hs2
  rw [sg_natAbs, sg_natAbs]
  refine gcd_ok s t base b off n c X base' b' off' n' c' Y w hb hX hn hl hb' hY hn' hl' (by omega) fun gx gy W _ _ hx hy fx fy hbW hne hlt => ?_
  refine (common_all gx gy X Y (min gx gy) W hx hy fx fy hne (Nat.min_le_left _ _) (Nat.min_le_right _ _) (by omega) (by omega) (by omega)).mono fun _ _ h => h
end Go.Proofs.Ytmfimkndonlheaa

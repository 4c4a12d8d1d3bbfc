/-
  integer.Of: the number of an int.
  Single calls with given numbers.
  integer.Sign and Cmp.
-/
import Derived.Test.YtdgfmkideghhaaaM17
import Derived.Test.YtdgfmkideghhaaaM20
import Derived.Test.YtdgfmkideghhaaaM22
import Derived.Test.YtdgfmkideghhaaaM24
import Derived.Test.YtdgfmkideghhaaaM26
import Derived.Test.YtdgfmkideghhaaaM27
namespace PB
open Go
theorem of_dg0 (X : Nat) : dg X 0 = X % 4294967296 := by simp [dg, B]
theorem of_dg1 {X : Nat} (h : X < 18446744073709551616) : dg X 1 = X / 4294967296 := by unfold dg B; rw [Nat.pow_one]; omega
end PB
namespace Go.Proofs.Ytdgfmkideghhaaa
open Go.RowKit PB
set_option maxHeartbeats 1600000 in
set_option maxRecDepth 100000 in
theorem of_nonneg (n : Nat) (w : World) (hn : Hid (n < 9223372036854775808)) :
    Calls Try.prog 30 #[.int .i64 n] w (RetInt w n) := by
  have h0 : ¬ ((n : Int) < 0) := by omega
  go_enter Try.func30, Try.ntmps30
  go_wp2_with fail
  have e0 : IntKind.u64.wrap (n : Int) % 4294967296 = (dg n 0 : Nat) := by
    have := hn.out; rw [of_dg0, IntKind.wrap_u64]; omega
  have e1 : IntKind.u64.wrap (n : Int) / 4294967296 % 4294967296 = (dg n 1 : Nat) := by
    have := hn.out; rw [of_dg1 (by omega), IntKind.wrap_u64]; omega
  rw [e0, e1]
  clear e0 e1
  generalize hW : World.alloc _ _ = W
  have B0 : Blk W w.heap.size #[.bool false, .slice none 0 0] := by rw [← hW]; exact (blk_new rfl).alloc _
  have B1 : Blk W (w.heap.size + 1) #[.int .u32 (dg n 0), .int .u32 (dg n 1)] := by rw [← hW]; exact blk_new (by simp)
  have hbW : Below w.heap.size w W := by rw [← hW]; exact ((Below.refl _ _).alloc (Nat.le_refl _) _).alloc (by simp) _
  have HS := Lib.hid (show W.heap.size = w.heap.size + 2 by rw [← hW]; simp)
  have hN : Num W (w.heap.size + 1) 0 2 n := ⟨by have := hn.out; show n < 18446744073709551616; omega, fun i hi => by
    have : i = 0 ∨ i = 1 := by omega
    rcases this with rfl | rfl
    · exact B1.cell 0 _ rfl
    · exact B1.cell 1 _ rfl⟩
  clear hW B1
  refine (number_any false _ (w.heap.size + 1) 0 2 2 n W (fun _ => rfl) hN (Nat.le_refl _) (by omega)).mono ?_
  rintro e w2 ⟨rfl, hb2⟩
  have hbw2 : Below w.heap.size w w2 := hbW.trans (hb2.mono (by have := HS.out; omega))
  obtain ⟨c0, c1⟩ := Blk2 (B0.kept hb2)
  obtain ⟨f0, f1⟩ := Blk2f (B0.kept hb2)
  have hN2 := hN.kept hb2
  obtain ⟨s', q, m, hv⟩ := intv_form false (some ⟨w.heap.size + 1, 0, none⟩) n
  rw [hv]
  have HV := Lib.hid hv
  clear hv B0
  go_wp2_with fail
  refine bodyPost_ret (v := .agg #[.bool s', .slice q m m]) (by simp [results, Try.results30, go_sem, c0, c1]) rfl ⟨_, rfl, ?_, (hbw2.setCell (Nat.le_refl _) _).setCell (Nat.le_refl _) _⟩
  rw [← HV.out]
  exact can_intv (n := 2) (fun _ => rfl) ((hN2.other _ (fun _ => by show w.heap.size + 1 ≠ w.heap.size; omega)).other _ (fun _ => by show w.heap.size + 1 ≠ w.heap.size; omega)) (by have := nl_le hN2.lt; omega) (fun _ => by omega)
set_option maxHeartbeats 1600000 in
set_option maxRecDepth 100000 in
theorem of_neg (n : Nat) (w : World) (h1 : 0 < n) (hn : Hid (n ≤ 9223372036854775808)) :
    Calls Try.prog 30 #[.int .i64 (-(n : Int))] w (RetInt w (-(n : Int))) := by
  have h0 : -(n : Int) < 0 := by omega
  go_enter Try.func30, Try.ntmps30
  go_wp2_with fail
  have e0 : IntKind.u64.wrap (-IntKind.u64.wrap (-(n : Int))) % 4294967296 = (dg n 0 : Nat) := by
    have := hn.out; rw [of_dg0, IntKind.wrap_u64, IntKind.wrap_u64]; omega
  have e1 : IntKind.u64.wrap (-IntKind.u64.wrap (-(n : Int))) / 4294967296 % 4294967296 = (dg n 1 : Nat) := by
    have := hn.out; rw [of_dg1 (by omega), IntKind.wrap_u64, IntKind.wrap_u64]; omega
  rw [e0, e1]
  clear e0 e1
  generalize hW : World.alloc _ _ = W
  have B0 : Blk W w.heap.size #[.bool false, .slice none 0 0] := by rw [← hW]; exact (blk_new rfl).alloc _
  have B1 : Blk W (w.heap.size + 1) #[.int .u32 (dg n 0), .int .u32 (dg n 1)] := by rw [← hW]; exact blk_new (by simp)
  have hbW : Below w.heap.size w W := by rw [← hW]; exact ((Below.refl _ _).alloc (Nat.le_refl _) _).alloc (by simp) _
  have HS := Lib.hid (show W.heap.size = w.heap.size + 2 by rw [← hW]; simp)
  have hN : Num W (w.heap.size + 1) 0 2 n := ⟨by have := hn.out; show n < 18446744073709551616; omega, fun i hi => by
    have : i = 0 ∨ i = 1 := by omega
    rcases this with rfl | rfl
    · exact B1.cell 0 _ rfl
    · exact B1.cell 1 _ rfl⟩
  clear hW B1
  refine (number_any true _ (w.heap.size + 1) 0 2 2 n W (fun _ => rfl) hN (Nat.le_refl _) (by omega)).mono ?_
  rintro e w2 ⟨rfl, hb2⟩
  have hbw2 : Below w.heap.size w w2 := hbW.trans (hb2.mono (by have := HS.out; omega))
  obtain ⟨c0, c1⟩ := Blk2 (B0.kept hb2)
  obtain ⟨f0, f1⟩ := Blk2f (B0.kept hb2)
  have hN2 := hN.kept hb2
  obtain ⟨s', q, m, hv⟩ := intv_form true (some ⟨w.heap.size + 1, 0, none⟩) n
  rw [hv]
  have HV := Lib.hid hv
  clear hv B0
  go_wp2_with fail
  refine bodyPost_ret (v := .agg #[.bool s', .slice q m m]) (by simp [results, Try.results30, go_sem, c0, c1]) rfl ⟨_, rfl, ?_, (hbw2.setCell (Nat.le_refl _) _).setCell (Nat.le_refl _) _⟩
  rw [← HV.out]
  exact can_intv (n := 2) (fun _ => rfl) ((hN2.other _ (fun _ => by show w.heap.size + 1 ≠ w.heap.size; omega)).other _ (fun _ => by show w.heap.size + 1 ≠ w.heap.size; omega)) (by have := nl_le hN2.lt; omega) (fun _ => by omega)
theorem of_any (n : Int) (w : World) (h1 : -9223372036854775808 ≤ n) (h2 : n ≤ 9223372036854775807) :
    Calls Try.prog 30 #[.int .i64 n] w (RetInt w n) := by
  by_cases h : 0 ≤ n
  · obtain ⟨k, rfl⟩ := Int.eq_ofNat_of_zero_le h
    exact of_nonneg k w (Lib.hid (by omega))
  · obtain ⟨k, hk⟩ := Int.eq_ofNat_of_zero_le (show 0 ≤ -n by omega)
    obtain rfl : n = -(k : Int) := by omega
    exact of_neg k w (by omega) (Lib.hid (by omega))
end Go.Proofs.Ytdgfmkideghhaaa

namespace PB
open Go Go.RowKit
theorem nl_small {X : Nat} (h0 : X ≠ 0) (h : X < B) : nl X = 1 := by
  have h1 : nl X ≤ 1 := nl_le (by rw [Nat.pow_one]; exact h)
  have h2 : nl X ≠ 0 := mt nl_eq_zero.1 h0
  omega
theorem nl_lit : nl 18446744073709551616 = 3 := nl_eq (by decide) (Or.inr (by decide))
theorem sg_eq {s : Bool} {X : Nat} {z : Int} (h : sg s X = z) (hz : z ≠ 0) : X = z.natAbs ∧ s = decide (z < 0) := by
  subst h
  refine ⟨(sg_natAbs s X).symm, ?_⟩
  have h0 := mt sg_zero.2 hz
  unfold sg at hz ⊢
  cases s
  · symm; simp
  · symm; simp; simp at hz; omega
def lit64 : ByteArray := ⟨#[49, 56, 52, 52, 54, 55, 52, 52, 48, 55, 51, 55, 48, 57, 53, 53, 49, 54, 49, 54]⟩
theorem lit64_digits : AllDigits lit64 := by
  have h : ∀ k : Fin 20, 48 ≤ byte lit64 k.val ∧ byte lit64 k.val ≤ 57 := by decide
  intro k hk
  exact h ⟨k, hk⟩
theorem lit64_val : dv lit64 20 = 18446744073709551616 := by decide
theorem lit64_nd : IsND 18446744073709551616 20 := ⟨by decide, Or.inr (by decide)⟩
theorem lit64_text : lit64 = strOfNums ((txt false 18446744073709551616 20).map Int.ofNat) := by decide
end PB
namespace Go.Proofs.Ytdgfmkideghhaaa
open Go.RowKit PB

theorem aw_quo (v1 v2 : Value) (w : World) (h1 : IsInt w v1 (-7)) (h2 : IsInt w v2 2) :
    Calls Try.prog 15 #[v1, v2] w (RetIntIntE w (-3) (-1) 0) := by
  obtain ⟨s, base, b, off, n, c, X, rfl, hb, hX, hn, hl, hz⟩ := h1
  obtain ⟨t, base', b', off', n', c', Y, rfl, hb', hY, hn', hl', hz'⟩ := h2
  obtain ⟨rfl, rfl⟩ := sg_eq hz.symm (by decide)
  obtain ⟨rfl, rfl⟩ := sg_eq hz'.symm (by decide)
  have e1 : nl 7 = 1 := nl_small (by decide) (by decide)
  have e2 : nl 2 = 1 := nl_small (by decide) (by decide)
  have hn1 := nl_le hX.lt
  have hn2 := nl_le hY.lt
  have k1 : nl (Int.natAbs (-7)) = 1 := e1
  have k2 : nl (Int.natAbs 2) = 1 := e2
  obtain rfl := hb' (by omega)
  refine quo_ok _ _ base b off n c _ _ b' off' n' c' _ w hb hX hn hl (fun _ => rfl) hY hn' hl' (by omega) (by decide) true (by decide) fun W hW => ?_
  exact divide_one base b off _ _ b' off' _ _ W (fun h => hb (by omega)) ((hX.kept hW).fewer hn1 (lt_nl _)) ((hY.kept hW).fewer hn2 (lt_nl _)) (by omega) k2 (by decide)

theorem aw_shift (v1 : Value) (w : World) (h1 : IsInt w v1 (-5)) :
    Calls Try.prog 17 #[v1, .int .i64 (-1)] w (RetIntE w (-3) 0) := by
  obtain ⟨s, base, b, off, n, c, X, rfl, hb, hX, hn, hl, hz⟩ := h1
  obtain ⟨rfl, rfl⟩ := sg_eq hz.symm (by decide)
  have k1 : nl (Int.natAbs (-5)) = 1 := nl_small (by decide) (by decide)
  exact shift_down _ base b off n c _ 1 w hb hX hn hl (by omega) (by decide) (by decide) (by decide)

theorem aw_gcd (v1 v2 : Value) (w : World) (h1 : IsInt w v1 12) (h2 : IsInt w v2 18) :
    Calls Try.prog 16 #[v1, v2] w (RetIntE w 6 0) := by
  obtain ⟨s, base, b, off, n, c, X, rfl, hb, hX, hn, hl, hz⟩ := h1
  obtain ⟨t, base', b', off', n', c', Y, rfl, hb', hY, hn', hl', hz'⟩ := h2
  obtain ⟨rfl, rfl⟩ := sg_eq hz.symm (by decide)
  obtain ⟨rfl, rfl⟩ := sg_eq hz'.symm (by decide)
  have k1 : nl (Int.natAbs 12) = 1 := nl_small (by decide) (by decide)
  have k2 : nl (Int.natAbs 18) = 1 := nl_small (by decide) (by decide)
  refine gcd_ok _ _ base b off n c _ base' b' off' n' c' _ w hb hX hn hl hb' hY hn' hl' (by omega) fun gx gy W _ _ hx hy _ _ _ _ _ => ?_
  refine (common_any gx gy _ _ W hx hy (by omega) (by omega) (by omega)).mono ?_
  rintro e w' ⟨base, c, b, off, n, h1, h2, h3, h4, h5, h6, h7⟩
  exact ⟨base, c, b, off, n, h1, h2, h3, h4, h5, fun hn => by have := h6 hn; have := hx.block_lt (by omega); omega, h7.mono (by have := hx.block_lt (by omega); omega)⟩

theorem aw_parse (w : World) : Calls Try.prog 68 #[.string lit64] w (RetIntE w 18446744073709551616 0) := by
  have h := parse_digits lit64 lit64 false w (fun W => cut_none lit64 W (by decide) (by decide)) lit64_digits (by decide) (by decide) (Nat.le_refl _)
  have e : dv lit64 lit64.size = 18446744073709551616 := lit64_val
  rw [e, nl_lit] at h
  exact h

theorem aw_text (v1 : Value) (w : World) (h1 : IsInt w v1 18446744073709551616) :
    Calls Try.prog 69 #[v1] w fun e w' => e = .returned (.tuple #[.string lit64, .int .i64 0]) ∧ Below w.heap.size w w' := by
  obtain ⟨s, base, b, off, n, c, X, rfl, hb, hX, hn, hl, hz⟩ := h1
  obtain ⟨rfl, rfl⟩ := sg_eq hz.symm (by decide)
  exact text_any _ base b off n c _ 20 w hb hX hn hl (by have := nl_lit; show ¬ 256 < nl 18446744073709551616; omega) (by decide) lit64_nd (by decide) lit64 lit64_text
theorem bl_255 : bl (Int.natAbs 255) = 8 := by
  have k1 : nl (Int.natAbs 255) = 1 := nl_small (by decide) (by decide)
  unfold bl
  rw [k1]
  decide
theorem bl_64 : bl (Int.natAbs 18446744073709551616) = 65 := by
  have k1 : nl (Int.natAbs 18446744073709551616) = 3 := nl_lit
  unfold bl
  rw [k1]
  decide
end Go.Proofs.Ytdgfmkideghhaaa

namespace PB
theorem sg_sign {s : Bool} {X : Nat} (h : X ≠ 0) : (sg s X).sign = if s then -1 else 1 := by
  unfold sg
  cases s
  · simp; omega
  · simp; omega
end PB
namespace Go.Proofs.Ytdgfmkideghhaaa
open Go.RowKit PB

set_option maxRecDepth 100000 in
theorem sign_any (v : Value) (z : Int) (w : World) (h : IsInt w v z) :
    Calls Try.prog 32 #[v] w fun e w' => e = .returned (.int .i64 z.sign) ∧ Below w.heap.size w w' := by
  obtain ⟨s, base, b, off, n, c, X, rfl, hb, hX, hn, hl, hz⟩ := h
  by_cases h0 : X = 0
  · have hz0 : z.sign = 0 := by subst hz h0; cases s <;> rfl
    rw [hz0]
    have ht : ((nl X : Int) == 0) = true := by rw [h0, nl_zero]; rfl
    clear hz hz0 h0
    go_enter Try.func32, Try.ntmps32
    go_wp2_with (go_at_call 75; refine (cut_any base b off n c X _ hb (by exact hX.alloc _) hn (by omega)).mono ?_; rintro e w' ⟨rfl, rfl⟩)
    go_ret
    exact ⟨rfl, (Below.refl _ _).alloc (Nat.le_refl _) _⟩
  · have hz0 := sg_sign (s := s) h0
    rw [← hz] at hz0
    rw [hz0]
    have ht : ((nl X : Int) == 0) = false := by have := mt nl_eq_zero.1 h0; simp; omega
    clear hz hz0 h0
    cases s
    · go_enter Try.func32, Try.ntmps32
      go_wp2_with (go_at_call 75; refine (cut_any base b off n c X _ hb (by exact hX.alloc _) hn (by omega)).mono ?_; rintro e w' ⟨rfl, rfl⟩)
      go_ret
      exact ⟨rfl, (Below.refl _ _).alloc (Nat.le_refl _) _⟩
    · go_enter Try.func32, Try.ntmps32
      go_wp2_with (go_at_call 75; refine (cut_any base b off n c X _ hb (by exact hX.alloc _) hn (by omega)).mono ?_; rintro e w' ⟨rfl, rfl⟩)
      go_ret
      exact ⟨rfl, (Below.refl _ _).alloc (Nat.le_refl _) _⟩
end Go.Proofs.Ytdgfmkideghhaaa

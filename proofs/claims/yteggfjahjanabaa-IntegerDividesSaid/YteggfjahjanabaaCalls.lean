/-
  Single calls with given numbers.
-/
import Derived.Test.YteggfjahjanabaaText
import Derived.Test.YteggfjahjanabaaParse
import Derived.Test.YteggfjahjanabaaGcdB
import Derived.Test.YteggfjahjanabaaShift
import Derived.Test.YteggfjahjanabaaQuo
import Derived.Test.YteggfjahjanabaaOf
import Derived.Test.YteggfjahjanabaaLength
namespace PB
open Go Go.RowKit
theorem nl_small {X : Nat} (h0 : X ≠ 0) (h : X < B) : nl X = 1 := by
  have h1 : nl X ≤ 1 := nl_le (by rw [Nat.pow_one]; exact h)
  have h2 : nl X ≠ 0 := mt nl_eq_zero.1 h0
  omega
theorem nl_lit : nl 18446744073709551616 = 3 := nl_eq (by decide) (Or.inr (by decide))
theorem sg_eq {s : Bool} {X : Nat} {z : Int} (h : sg s X = z) (hz : z ≠ 0) : X = z.natAbs ∧ s = decide (z < 0) := by
  subst h
  refine ⟨(sg_natAbs s X).symm, ?_⟩
  have h0 := mt sg_zero.2 hz
  unfold sg at hz ⊢
  cases s
  · symm; simp
  · symm; simp; simp at hz; omega
def lit64 : ByteArray := ⟨#[49, 56, 52, 52, 54, 55, 52, 52, 48, 55, 51, 55, 48, 57, 53, 53, 49, 54, 49, 54]⟩
theorem lit64_digits : AllDigits lit64 := by
  have h : ∀ k : Fin 20, 48 ≤ byte lit64 k.val ∧ byte lit64 k.val ≤ 57 := by decide
  intro k hk
  exact h ⟨k, hk⟩
theorem lit64_val : dv lit64 20 = 18446744073709551616 := by decide
theorem lit64_nd : IsND 18446744073709551616 20 := ⟨by decide, Or.inr (by decide)⟩
theorem lit64_text : lit64 = strOfNums ((txt false 18446744073709551616 20).map Int.ofNat) := by decide
end PB
namespace Go.Proofs.Yteggfjahjanabaa
open Go.RowKit PB

theorem aw_quo (v1 v2 : Value) (w : World) (h1 : IsInt w v1 (-7)) (h2 : IsInt w v2 2) :
    Calls Try.prog 15 #[v1, v2] w (RetIntIntE w (-3) (-1) 0) := by
  obtain ⟨s, base, b, off, n, c, X, rfl, hb, hX, hn, hl, hz⟩ := h1
  obtain ⟨t, base', b', off', n', c', Y, rfl, hb', hY, hn', hl', hz'⟩ := h2
  obtain ⟨rfl, rfl⟩ := sg_eq hz.symm (by decide)
  obtain ⟨rfl, rfl⟩ := sg_eq hz'.symm (by decide)
  have e1 : nl 7 = 1 := nl_small (by decide) (by decide)
  have e2 : nl 2 = 1 := nl_small (by decide) (by decide)
  have hn1 := nl_le hX.lt
  have hn2 := nl_le hY.lt
  have k1 : nl (Int.natAbs (-7)) = 1 := e1
  have k2 : nl (Int.natAbs 2) = 1 := e2
  obtain rfl := hb' (by omega)
  refine quo_ok _ _ base b off n c _ _ b' off' n' c' _ w hb hX hn hl (fun _ => rfl) hY hn' hl' (by omega) (by decide) true (by decide) fun W hW => ?_
  exact divide_one base b off _ _ b' off' _ _ W (fun h => hb (by omega)) ((hX.kept hW).fewer hn1 (lt_nl _)) ((hY.kept hW).fewer hn2 (lt_nl _)) (by omega) k2 (by decide)

theorem aw_shift (v1 : Value) (w : World) (h1 : IsInt w v1 (-5)) :
    Calls Try.prog 17 #[v1, .int .i64 (-1)] w (RetIntE w (-3) 0) := by
  obtain ⟨s, base, b, off, n, c, X, rfl, hb, hX, hn, hl, hz⟩ := h1
  obtain ⟨rfl, rfl⟩ := sg_eq hz.symm (by decide)
  have k1 : nl (Int.natAbs (-5)) = 1 := nl_small (by decide) (by decide)
  exact shift_down _ base b off n c _ 1 w hb hX hn hl (by omega) (by decide) (by decide) (by decide)

theorem aw_gcd (v1 v2 : Value) (w : World) (h1 : IsInt w v1 12) (h2 : IsInt w v2 18) :
    Calls Try.prog 16 #[v1, v2] w (RetIntE w 6 0) := by
  obtain ⟨s, base, b, off, n, c, X, rfl, hb, hX, hn, hl, hz⟩ := h1
  obtain ⟨t, base', b', off', n', c', Y, rfl, hb', hY, hn', hl', hz'⟩ := h2
  obtain ⟨rfl, rfl⟩ := sg_eq hz.symm (by decide)
  obtain ⟨rfl, rfl⟩ := sg_eq hz'.symm (by decide)
  have k1 : nl (Int.natAbs 12) = 1 := nl_small (by decide) (by decide)
  have k2 : nl (Int.natAbs 18) = 1 := nl_small (by decide) (by decide)
  refine gcd_ok _ _ base b off n c _ base' b' off' n' c' _ w hb hX hn hl hb' hY hn' hl' (by omega) fun gx gy W _ _ hx hy _ _ _ _ _ => ?_
  refine (common_any gx gy _ _ W hx hy (by omega) (by omega) (by omega)).mono ?_
  rintro e w' ⟨base, c, b, off, n, h1, h2, h3, h4, h5, h6, h7⟩
  exact ⟨base, c, b, off, n, h1, h2, h3, h4, h5, fun hn => by have := h6 hn; have := hx.block_lt (by omega); omega, h7.mono (by have := hx.block_lt (by omega); omega)⟩

theorem aw_parse (w : World) : Calls Try.prog 38 #[.string lit64] w (RetIntE w 18446744073709551616 0) := by
  have h := parse_digits lit64 lit64 false w (fun W => cut_none lit64 W (by decide) (by decide)) lit64_digits (by decide) (by decide) (Nat.le_refl _)
  have e : dv lit64 lit64.size = 18446744073709551616 := lit64_val
  rw [e, nl_lit] at h
  exact h

theorem aw_text (v1 : Value) (w : World) (h1 : IsInt w v1 18446744073709551616) :
    Calls Try.prog 40 #[v1] w fun e w' => e = .returned (.tuple #[.string lit64, .int .i64 0]) ∧ Below w.heap.size w w' := by
  obtain ⟨s, base, b, off, n, c, X, rfl, hb, hX, hn, hl, hz⟩ := h1
  obtain ⟨rfl, rfl⟩ := sg_eq hz.symm (by decide)
  exact text_any _ base b off n c _ 20 w hb hX hn hl (by have := nl_lit; show ¬ 256 < nl 18446744073709551616; omega) (by decide) lit64_nd (by decide) lit64 lit64_text
theorem bl_255 : bl (Int.natAbs 255) = 8 := by
  have k1 : nl (Int.natAbs 255) = 1 := nl_small (by decide) (by decide)
  unfold bl
  rw [k1]
  decide
theorem bl_64 : bl (Int.natAbs 18446744073709551616) = 65 := by
  have k1 : nl (Int.natAbs 18446744073709551616) = 3 := nl_lit
  unfold bl
  rw [k1]
  decide
end Go.Proofs.Yteggfjahjanabaa

/-
  integer.length and Bits.
-/
import Derived.Test.YteggfjahjanabaaSum
namespace PB
open Go Go.RowKit
/-- The number of bits of X, by its limbs. -/
def bl (X : Nat) : Nat := if X = 0 then 0 else 32 * (nl X - 1) + Lib.bitLen (dg X (nl X - 1))
end PB
namespace Go.Proofs.Yteggfjahjanabaa
open Go.RowKit PB

set_option maxRecDepth 100000 in
theorem length_any (base : Option Addr) (b off c X : Nat) (w : World) (hb : nl X ≠ 0 → base = some ⟨b, off, none⟩) (hX : Num w b off (nl X) X) (hl : nl X ≤ 1000000000) :
    Calls Try.prog 68 #[.slice base (nl X) c] w fun e w' => e = .returned (.int .i64 (bl X)) ∧ w = w' := by
  by_cases h0 : X = 0
  · have hbl : bl X = 0 := if_pos h0
    rw [hbl]
    have ht : ((nl X : Int) == 0) = true := by rw [h0, nl_zero]; rfl
    clear hbl h0 hb
    go_enter Try.func68, Try.ntmps68
    go_wp2
    go_ret
    exact ⟨rfl, rfl⟩
  · have hnl : nl X ≠ 0 := mt nl_eq_zero.1 h0
    have hbl := Lib.hid (show bl X = 32 * (nl X - 1) + Lib.bitLen (dg X (nl X - 1)) from if_neg h0)
    obtain rfl := hb hnl
    obtain ⟨k, hk⟩ : ∃ k, nl X = k + 1 := ⟨nl X - 1, by omega⟩
    have hc := hX.cell (show k < nl X by omega)
    rw [hk] at hl ⊢
    have HK := Lib.hid hk
    have hd := dg_lt X k
    have h32 := Lib.bitLen_le (dg X k) 32 (by omega) hd
    clear hb h0 hnl hk hX
    go_enter Try.func68, Try.ntmps68
    go_wp2_with (go_at_call 89; refine (len32_any (dg X k) _ hd).mono ?_; rintro e w' ⟨rfl, rfl⟩)
    go_ret
    exact iret (by rw [hbl.out, HK.out, Nat.add_sub_cancel]; omega) _

set_option maxRecDepth 100000 in
theorem bits_any (v : Value) (z : Int) (w : World) (h : IsInt w v z) :
    Calls Try.prog 34 #[v] w fun e w' => e = .returned (.int .i64 (bl z.natAbs)) ∧ Below w.heap.size w w' := by
  obtain ⟨s, base, b, off, n, c, X, rfl, hb, hX, hn, hl, rfl⟩ := h
  rw [sg_natAbs]
  have hnX := nl_le hX.lt
  have HB := Lib.hid hb
  clear hb
  go_enter Try.func34, Try.ntmps34
  go_wp2_with (first | (go_at_call 51; refine (cut_any base b off n c X _ HB.out (by exact hX.alloc _) hn (by omega)).mono ?_; rintro e w' ⟨rfl, rfl⟩) | (go_at_call 68; refine (length_any base b off (nl X) X _ (fun h => HB.out (by omega)) ((hX.alloc _).fewer hnX (lt_nl X)) (by omega)).mono ?_; rintro e w' ⟨rfl, rfl⟩))
  go_ret
  exact ⟨rfl, (Below.refl _ _).alloc (Nat.le_refl _) _⟩
end Go.Proofs.Yteggfjahjanabaa

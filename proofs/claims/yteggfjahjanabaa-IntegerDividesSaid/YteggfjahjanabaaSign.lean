/-
  integer.Sign and Cmp.
-/
import Derived.Test.YteggfjahjanabaaSum
namespace PB
theorem sg_sign {s : Bool} {X : Nat} (h : X ≠ 0) : (sg s X).sign = if s then -1 else 1 := by
  unfold sg
  cases s
  · simp; omega
  · simp; omega
end PB
namespace Go.Proofs.Yteggfjahjanabaa
open Go.RowKit PB

set_option maxRecDepth 100000 in
theorem sign_any (v : Value) (z : Int) (w : World) (h : IsInt w v z) :
    Calls Try.prog 32 #[v] w fun e w' => e = .returned (.int .i64 z.sign) ∧ Below w.heap.size w w' := by
  obtain ⟨s, base, b, off, n, c, X, rfl, hb, hX, hn, hl, hz⟩ := h
  by_cases h0 : X = 0
  · have hz0 : z.sign = 0 := by subst hz h0; cases s <;> rfl
    rw [hz0]
    have ht : ((nl X : Int) == 0) = true := by rw [h0, nl_zero]; rfl
    clear hz hz0 h0
    go_enter Try.func32, Try.ntmps32
    go_wp2_with (go_at_call 51; refine (cut_any base b off n c X _ hb (by exact hX.alloc _) hn (by omega)).mono ?_; rintro e w' ⟨rfl, rfl⟩)
    go_ret
    exact ⟨rfl, (Below.refl _ _).alloc (Nat.le_refl _) _⟩
  · have hz0 := sg_sign (s := s) h0
    rw [← hz] at hz0
    rw [hz0]
    have ht : ((nl X : Int) == 0) = false := by have := mt nl_eq_zero.1 h0; simp; omega
    clear hz hz0 h0
    cases s
    · go_enter Try.func32, Try.ntmps32
      go_wp2_with (go_at_call 51; refine (cut_any base b off n c X _ hb (by exact hX.alloc _) hn (by omega)).mono ?_; rintro e w' ⟨rfl, rfl⟩)
      go_ret
      exact ⟨rfl, (Below.refl _ _).alloc (Nat.le_refl _) _⟩
    · go_enter Try.func32, Try.ntmps32
      go_wp2_with (go_at_call 51; refine (cut_any base b off n c X _ hb (by exact hX.alloc _) hn (by omega)).mono ?_; rintro e w' ⟨rfl, rfl⟩)
      go_ret
      exact ⟨rfl, (Below.refl _ _).alloc (Nat.le_refl _) _⟩
end Go.Proofs.Yteggfjahjanabaa

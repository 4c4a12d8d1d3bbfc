/-
  integer.cut returns the slice without the zeros at its high end.
-/
import Derived.Test.YteggfjahjanabaaProg
import Derived.Test.YteggfjahjanabaaMem
namespace Go.Proofs.Yteggfjahjanabaa
open Go.RowKit PB

theorem cut_any (base : Option Addr) (b off n c X : Nat) (w : World) (hb : n ≠ 0 → base = some ⟨b, off, none⟩) (hX : Num w b off n X) (hn : n ≤ c) (hc : n ≤ 1099511627776) :
    Calls Try.prog 51 #[.slice base n c] w fun e w' => e = .returned (.slice base (nl X) (nl X)) ∧ w = w' := by
  have hnl : nl X ≤ n := nl_le hX.lt
  have HB := Lib.hid hb
  clear hb
  go_enter Try.func51, Try.ntmps51
  go_wp2
  go_loop [3] (fun v => ∃ k : Nat, nl X ≤ k ∧ k ≤ n ∧ v = .int .i64 k) (fun v => (intOf v).toNat)
  case atStart => exact ⟨n, hnl, Nat.le_refl _, rfl⟩
  case round =>
    obtain ⟨k, hk1, hk2, rfl⟩ := hrel
    by_cases h0 : k = 0
    · subst h0
      have HX := Lib.hid (show nl X = 0 by omega)
      go_wp2
      go_ret
      exact ⟨by rw [HX.out]; rfl, rfl⟩
    · have hk0 : (0:Int) < k := by omega
      have hcell := hX.cell (i := k - 1) (by omega)
      have hI : ((k : Int) - 1).toNat = k - 1 := by omega
      have HD : nl X = k ∨ nl X < k := by omega
      obtain rfl := HB.out (by omega)
      rcases HD with HD | HD
      · have hd : ((dg X (k-1) : Int) == 0) = false := by
          have := nl_top (X := X) (by rintro rfl; rw [nl_zero] at HD; omega)
          rw [HD] at this
          simp; omega
        subst HD
        go_wp2
        go_ret
        exact ⟨rfl, rfl⟩
      · have hd : ((dg X (k-1) : Int) == 0) = true := by
          rw [dg_of_lt (lt_nl X) (by omega)]; rfl
        go_wp2
        go_round
        case rel => exact ⟨k - 1, by omega, by omega, by go_num⟩
        case measure => simp [intOf]; omega
end Go.Proofs.Yteggfjahjanabaa

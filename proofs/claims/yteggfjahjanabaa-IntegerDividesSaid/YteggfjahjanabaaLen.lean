/-
  math/bits.Len32 and LeadingZeros32; integer.length.
-/
import Derived.Test.YteggfjahjanabaaSmall
import Derived.Lib.Strings
import Derived.Lib.Slices
import Derived.Lib.Small
import Derived.Lib.Walk
import Derived.Lib.BitFns
import Derived.Lib.ItoaNum
namespace Go.Proofs.Yteggfjahjanabaa
open Go.RowKit PB

theorem iret {a b : Int} (h : a = b) (w : World) : Ending.returned (.int .i64 a) = Ending.returned (.int .i64 b) ∧ w = w := ⟨by rw [h], rfl⟩
theorem len8_nat (b : Nat) (h : b ≤ 255) : Lib.len8 (b : Int) = (Lib.bitLen b : Int) := Lib.len8_of b (by omega) (by omega)

set_option maxHeartbeats 4000000 in
set_option maxRecDepth 100000 in
theorem len32_a (x : Int) (w : World) (h0 : 0 ≤ x) (h1 : x ≤ 255) :
    Calls Try.prog 89 #[.int .u32 x] w fun e w' => e = .returned (.int .i64 (Lib.bitLen x.toNat)) ∧ w = w' := by
  have e := Lib.len8_of x h0 h1
  have l := Lib.bitLen_le8' x h0 h1
  generalize Lib.bitLen x.toNat = L at *
  have b0 : 0 ≤ Lib.len8 x := by omega
  have b1 : Lib.len8 x ≤ 8 := by omega
  have E := Lib.hid e
  clear e l
  go_enter Try.func89, Try.ntmps89
  go_wp2
  go_ret
  exact iret E.out _
set_option maxHeartbeats 4000000 in
set_option maxRecDepth 100000 in
theorem len32_b (x : Int) (w : World) (h0 : 256 ≤ x) (h1 : x < 65536) :
    Calls Try.prog 89 #[.int .u32 x] w fun e w' => e = .returned (.int .i64 (Lib.bitLen x.toNat)) ∧ w = w' := by
  have h3 : 0 ≤ x / 256 := by omega
  have h4 : x / 256 ≤ 255 := by omega
  have e := Lib.len8_of (x / 256) h3 h4
  have l := Lib.bitLen_le8' (x / 256) h3 h4
  have s := Lib.bitLen_shift8 x.toNat (by omega) (by omega)
  rw [show x.toNat / 256 = (x / 256).toNat by omega] at s
  have b0 : 0 ≤ Lib.len8 (x / 256) := by omega
  have b1 : Lib.len8 (x / 256) ≤ 8 := by omega
  have E := Lib.hid (show 8 + Lib.len8 (x / 256) = (Lib.bitLen x.toNat : Int) by omega)
  clear e l s
  go_enter Try.func89, Try.ntmps89
  go_wp2
  go_ret
  exact iret E.out _
set_option maxHeartbeats 4000000 in
set_option maxRecDepth 100000 in
theorem len32_c (x : Int) (w : World) (h0 : 65536 ≤ x) (h1 : x < 16777216) :
    Calls Try.prog 89 #[.int .u32 x] w fun e w' => e = .returned (.int .i64 (Lib.bitLen x.toNat)) ∧ w = w' := by
  have h3 : 0 ≤ x / 65536 := by omega
  have h4 : x / 65536 ≤ 255 := by omega
  have e := Lib.len8_of (x / 65536) h3 h4
  have l := Lib.bitLen_le8' (x / 65536) h3 h4
  have s := Lib.bitLen_shift16 x.toNat (by omega) (by omega)
  rw [show x.toNat / 65536 = (x / 65536).toNat by omega] at s
  have b0 : 0 ≤ Lib.len8 (x / 65536) := by omega
  have b1 : Lib.len8 (x / 65536) ≤ 8 := by omega
  have E := Lib.hid (show 16 + Lib.len8 (x / 65536) = (Lib.bitLen x.toNat : Int) by omega)
  clear e l s
  go_enter Try.func89, Try.ntmps89
  go_wp2
  go_ret
  exact iret E.out _
set_option maxHeartbeats 4000000 in
set_option maxRecDepth 100000 in
theorem len32_d (x : Int) (w : World) (h0 : 16777216 ≤ x) (h1 : x < 4294967296) :
    Calls Try.prog 89 #[.int .u32 x] w fun e w' => e = .returned (.int .i64 (Lib.bitLen x.toNat)) ∧ w = w' := by
  have h3 : 0 ≤ x / 65536 / 256 := by omega
  have h4 : x / 65536 / 256 ≤ 255 := by omega
  have h5 : 256 ≤ x / 65536 := by omega
  have e := Lib.len8_of (x / 65536 / 256) h3 h4
  have l := Lib.bitLen_le8' (x / 65536 / 256) h3 h4
  have s := Lib.bitLen_shift24 x.toNat (by omega) (by omega)
  rw [show x.toNat / 16777216 = (x / 65536 / 256).toNat by omega] at s
  have b0 : 0 ≤ Lib.len8 (x / 65536 / 256) := by omega
  have b1 : Lib.len8 (x / 65536 / 256) ≤ 8 := by omega
  have E := Lib.hid (show 24 + Lib.len8 (x / 65536 / 256) = (Lib.bitLen x.toNat : Int) by omega)
  clear e l s
  go_enter Try.func89, Try.ntmps89
  go_wp2
  go_ret
  exact iret E.out _
theorem len32_any (x : Nat) (w : World) (hx : x < B) :
    Calls Try.prog 89 #[.int .u32 x] w fun e w' => e = .returned (.int .i64 (Lib.bitLen x)) ∧ w = w' := by
  unfold B at hx
  have h : (x : Int).toNat = x := by omega
  by_cases h1 : x ≤ 255
  · have := len32_a x w (by omega) (by omega); rwa [h] at this
  · by_cases h2 : x < 65536
    · have := len32_b x w (by omega) (by omega); rwa [h] at this
    · by_cases h3 : x < 16777216
      · have := len32_c x w (by omega) (by omega); rwa [h] at this
      · have := len32_d x w (by omega) (by omega); rwa [h] at this
theorem lz32_any (x : Nat) (w : World) (hx : x < B) :
    Calls Try.prog 79 #[.int .u32 x] w fun e w' => e = .returned (.int .i64 ((32 : Int) - Lib.bitLen x)) ∧ w = w' := by
  have hl : Lib.bitLen x ≤ 32 := Lib.bitLen_le x 32 (by omega) hx
  go_enter Try.func79, Try.ntmps79
  go_wp2_with (go_at_call 89; refine (len32_any x _ hx).mono ?_; rintro e w' ⟨rfl, rfl⟩)
  go_ret
  exact ⟨rfl, rfl⟩
end Go.Proofs.Yteggfjahjanabaa

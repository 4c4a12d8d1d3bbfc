/-
  integer.sink divides limbs by a power of 2, in place.
-/
import Derived.Test.YteggfjahjanabaaShorten
namespace PB
open Go
/-- The limb that a shift to the right by p lays: of a limb and the one above it. -/
def sinkLimb (x d p : Nat) : Nat := x / 2^p + (d % 2^p) * 2^(32-p)
theorem two_split {p : Nat} (hp : p < 32) : 2^p * 2^(32-p) = B := by rw [← Nat.pow_add, show p + (32 - p) = 32 by omega]; rfl
theorem sinkLimb_lt {x d p : Nat} (hx : x < B) (hp : p < 32) : sinkLimb x d p < B := by
  unfold sinkLimb
  have h2 := two_split hp
  have h1 : x / 2^p < 2^(32-p) := Nat.div_lt_of_lt_mul (by rw [h2]; exact hx)
  have h3 : d % 2^p < 2^p := Nat.mod_lt _ (Nat.pow_pos (by decide))
  have h4 : (d % 2^p + 1) * 2^(32-p) ≤ 2^p * 2^(32-p) := Nat.mul_le_mul_right _ h3
  rw [h2, Nat.add_mul] at h4
  omega
theorem sink_step {X j p : Nat} (hp : p < 32) : X / B^j / 2^p = X / B^(j+1) / 2^p * B + sinkLimb (dg X j) (dg X (j+1)) p := by
  have h2 := two_split hp
  rw [div_succ X j]
  have hd : dg X (j+1) % 2^p = (X / B^(j+1)) % 2^p := by unfold dg; exact Nat.mod_mod_of_dvd _ ⟨2^(32-p), h2.symm⟩
  unfold sinkLimb
  rw [hd]
  generalize X / B^(j+1) = H
  have e : H * B + dg X j = dg X j + (H * 2^(32-p)) * 2^p := by rw [Nat.mul_assoc, Nat.mul_comm (2^(32-p)), h2]; omega
  rw [e, Nat.add_mul_div_right _ _ (Nat.pow_pos (by decide))]
  have e2 : H * 2^(32-p) = H / 2^p * B + H % 2^p * 2^(32-p) := by
    rw [← h2, ← Nat.mul_assoc, ← Nat.add_mul, Nat.div_add_mod']
  omega
theorem sink_bits {x d p : Nat} (hx : x < B) (hp : p < 32) :
    bits BinOp.or IntKind.u32 ((x : Int) / 2^p) ((d : Int) * 2^(32-p) % 4294967296) = (sinkLimb x d p : Nat) := by
  have h2 := two_split hp
  have e1 : (x : Int) / 2^p = ((x / 2^p : Nat) : Int) := by rw [Int.natCast_ediv]; rfl
  have e2 : (d : Int) * 2^(32-p) % 4294967296 = ((d * 2^(32-p) % 4294967296 : Nat) : Int) := by rw [Int.natCast_emod, Int.natCast_mul]; rfl
  have h1 : x / 2^p < 2^(32-p) := Nat.div_lt_of_lt_mul (by rw [h2]; exact hx)
  have hA : x / 2^p < 4294967296 := Nat.lt_of_le_of_lt (Nat.div_le_self _ _) hx
  have h3 : d * 2^(32-p) % 4294967296 = (d % 2^p) * 2^(32-p) := by rw [show 4294967296 = 2^p * 2^(32-p) from h2.symm, Nat.mul_mod_mul_right]
  rw [e1, e2, u32_or_nat _ _ hA (Nat.mod_lt _ (by decide)), Nat.or_comm, h3, nat_join (32-p) _ _ (Nat.mul_mod_left _ _) h1]
  unfold sinkLimb
  rw [Nat.add_comm]
end PB
namespace Go.Proofs.Yteggfjahjanabaa
open Go.RowKit PB

set_option maxHeartbeats 1600000 in
set_option maxRecDepth 100000 in
theorem sink_any (base : Option Addr) (b off n c X p : Nat) (w : World) (hb : n ≠ 0 → base = some ⟨b, off, none⟩) (hX : Num w b off n X) (hF : Free w b off n) (hp : p < 32) (hc : n ≤ 1099511627776) :
    Calls Try.prog 81 #[.slice base n c, .int .i64 p] w fun e w' => e = .returned (.tuple #[]) ∧ Num w' b off n (X / 2^p) ∧ Wr w w' b off (off + n) := by
  have HB := Lib.hid hb
  clear hb
  go_enter Try.func81, Try.ntmps81
  go_wp2_with fail
  go_loopw [4, 5] (fun v i wr => ∃ k d : Nat, k ≤ n ∧ d < B ∧ v = .int .u32 d ∧ i = .int .i64 ((k : Int) - 1) ∧ Hid (d = dg X k) ∧ Num wr b off n (X % B^k + (X / B^k / 2^p) * B^k) ∧ Wr w wr b off (off + n)) (fun _ i _ => (intOf i + 1).toNat)
  case atStart => exact ⟨n, 0, by omega, by decide, rfl, rfl, Lib.hid (by rw [dg_of_lt hX.lt (Nat.le_refl _)]), hX.val (by rw [mod_of_lt hX.lt, Nat.div_eq_of_lt hX.lt, Nat.zero_div]; omega), Wr.refl _ _ _ _⟩
  case round =>
    obtain ⟨k, d, hk, hd, rfl, rfl, hE, hN, hw⟩ := hrel
    by_cases h0 : k = 0
    · subst h0
      have hz : decide ((0 : Int) ≤ ((0 : Nat) : Int) - 1) = false := by decide
      go_wp2_with fail
      go_end0
      exact ⟨rfl, hN.val (by simp [Nat.mod_one]), hw⟩
    · obtain ⟨j, rfl⟩ : ∃ j, k = j + 1 := ⟨k - 1, by omega⟩
      obtain rfl := HB.out (by omega)
      have e1 : (((j + 1 : Nat) : Int) - 1) = j := by omega
      rw [e1]
      clear e1
      have c1 := hN.cell (i := j) (by omega)
      have hdg : dg (X % B^(j+1) + X / B^(j+1) / 2^p * B^(j+1)) j = dg X j := by rw [dg_add_lo (by omega), dg_mod (by omega)]
      rw [hdg] at c1
      have f1 := (hw.free hF).at (i := j) (by omega)
      have hx := dg_lt X j
      have i1 : (j : Int) < n := by omega
      have i2 : (0 : Int) ≤ j := by omega
      have i3 : (p : Int) < 32 := by omega
      have i4 : (0 : Int) ≤ p := by omega
      clear hdg
      go_wp2_with fail
      go_region
      rw [sink_bits hx hp]
      have hv := sinkLimb_lt (d := d) hx hp
      go_wp2_with fail
      go_roundw
      case rel =>
        refine ⟨j, dg X j, by omega, hx, rfl, rfl, Lib.hid rfl, ?_, ?_⟩
        · rw [sink_step hp, ← hE.out, ← short_put]
          exact (hN.set (by omega) hv).drew
        · exact (hw.set _ _ (by omega) (by omega)).drew
      case measure => simp [intOf]
end Go.Proofs.Yteggfjahjanabaa

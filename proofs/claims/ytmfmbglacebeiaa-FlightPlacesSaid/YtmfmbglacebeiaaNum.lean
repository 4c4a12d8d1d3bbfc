/-
  Plain arithmetic of numbers written with limbs of 32 bits: digits, lengths, sums, products. It speaks of no program.
-/
namespace PB
def B : Nat := 4294967296
theorem B_eq : B = 4294967296 := rfl
theorem B_pos : 0 < B := by decide
theorem Bp (i : Nat) : 0 < B^i := Nat.pow_pos (by decide)
/-- Limb i of X. -/
def dg (X i : Nat) : Nat := X / B^i % B
theorem dg_lt (X i : Nat) : dg X i < B := Nat.mod_lt _ (by decide)
theorem dg_lt' (X i : Nat) : dg X i < 4294967296 := dg_lt X i
theorem dg_zero (i : Nat) : dg 0 i = 0 := by simp [dg]
theorem mod_succ (X i : Nat) : X % B^(i+1) = X % B^i + dg X i * B^i := by
  unfold dg
  rw [Nat.pow_succ, Nat.mod_mul, Nat.mul_comm]
theorem div_succ (X i : Nat) : X / B^i = X / B^(i+1) * B + dg X i := by
  unfold dg
  rw [Nat.pow_succ, ← Nat.div_div_eq_div_mul, Nat.mul_comm, Nat.div_add_mod]
theorem pow_le {n m : Nat} (h : n ≤ m) : B^n ≤ B^m := Nat.pow_le_pow_right (by decide) h
theorem pow_add (n m : Nat) : B^(n+m) = B^n * B^m := Nat.pow_add _ _ _
theorem pow_succ (n : Nat) : B^(n+1) = B^n * B := Nat.pow_succ _ _
theorem dg_of_lt {X n i : Nat} (h : X < B^n) (hi : n ≤ i) : dg X i = 0 := by
  unfold dg
  rw [Nat.div_eq_of_lt (Nat.lt_of_lt_of_le h (pow_le hi)), Nat.zero_mod]
theorem dg_add_lo {S d k i : Nat} (hi : i < k) : dg (S + d * B^k) i = dg S i := by
  obtain ⟨j, rfl⟩ : ∃ j, k = i + 1 + j := ⟨k - i - 1, by omega⟩
  unfold dg
  rw [pow_add, pow_succ, show S + d * (B^i * B * B^j) = S + B^i * (d * B^j * B) by grind, Nat.add_mul_div_left _ _ (Bp i), Nat.add_mul_mod_self_right]
theorem dg_add_hi {S d k i : Nat} (hS : S < B^k) : dg (S + d * B^k) (k + i) = dg d i := by
  unfold dg
  rw [pow_add, ← Nat.div_div_eq_div_mul, Nat.add_mul_div_right _ _ (Bp k), Nat.div_eq_of_lt hS, Nat.zero_add]
theorem dg_add_eq {S d k : Nat} (hS : S < B^k) (hd : d < B) : dg (S + d * B^k) k = d := by
  have h := dg_add_hi (i := 0) (d := d) hS
  rw [Nat.add_zero] at h
  rw [h]; unfold dg; rw [Nat.pow_zero, Nat.div_one, Nat.mod_eq_of_lt hd]
theorem add_lt_pow {S d k : Nat} (hS : S < B^k) (hd : d < B) : S + d * B^k < B^(k+1) := by
  rw [pow_succ, Nat.mul_comm (B^k)]
  have h1 : (d + 1) * B^k ≤ B * B^k := Nat.mul_le_mul_right _ hd
  have h2 : (d + 1) * B^k = d * B^k + B^k := by grind
  omega
theorem mod_lt_pow (X k : Nat) : X % B^k < B^k := Nat.mod_lt _ (Bp k)
theorem mod_of_lt {X k : Nat} (h : X < B^k) : X % B^k = X := Nat.mod_eq_of_lt h
theorem dg_mod {X k i : Nat} (hi : i < k) : dg (X % B^k) i = dg X i := by
  have h := dg_add_lo (S := X % B^k) (d := X / B^k) hi
  rw [← h, Nat.mod_add_div' X (B^k)]
theorem dg_div (X k i : Nat) : dg (X / B^k) i = dg X (k + i) := by
  unfold dg; rw [pow_add, Nat.div_div_eq_div_mul]
theorem split (X k : Nat) : X = X % B^k + X / B^k * B^k := (Nat.mod_add_div' X (B^k)).symm
theorem dg_ext {X Y n : Nat} (hX : X < B^n) (hY : Y < B^n) (h : ∀ i, i < n → dg X i = dg Y i) : X = Y := by
  suffices ∀ k, k ≤ n → X % B^k = Y % B^k by
    have := this n (Nat.le_refl _); rwa [mod_of_lt hX, mod_of_lt hY] at this
  intro k hk
  induction k with
  | zero => simp [Nat.mod_one]
  | succ k ih => rw [mod_succ, mod_succ, ih (by omega), h k (by omega)]
theorem lt_pow_of_dg {X n k : Nat} (hX : X < B^n) (hk : k ≤ n) (h : ∀ i, k ≤ i → i < n → dg X i = 0) : X < B^k := by
  have : ∀ j, j ≤ n - k → X < B^(n - j) := by
    intro j hj
    induction j with
    | zero => simpa using hX
    | succ j ih =>
      have i1 := ih (by omega)
      have e : n - j = (n - (j+1)) + 1 := by omega
      rw [e] at i1
      have hm := mod_succ X (n - (j+1))
      rw [mod_of_lt i1, h (n - (j+1)) (by omega) (by omega), Nat.zero_mul, Nat.add_zero] at hm
      rw [hm]; exact mod_lt_pow _ _
  have h2 := this (n - k) (Nat.le_refl _)
  rwa [show n - (n - k) = k by omega] at h2
/-- The number of limbs of X. -/
def nl (X : Nat) : Nat := if h : X = 0 then 0 else nl (X / B) + 1
termination_by X
decreasing_by exact Nat.div_lt_self (by omega) (by decide)
theorem nl_zero : nl 0 = 0 := by rw [nl, dif_pos rfl]
theorem nl_pos {X : Nat} (h : X ≠ 0) : nl X = nl (X / B) + 1 := by rw [nl, dif_neg h]
theorem lt_nl (X : Nat) : X < B^(nl X) := by
  induction X using Nat.strongRecOn with
  | _ X ih =>
    by_cases h : X = 0
    · subst h; exact Bp _
    · rw [nl_pos h, pow_succ]
      have := ih (X / B) (Nat.div_lt_self (by omega) (by decide))
      exact (Nat.div_lt_iff_lt_mul B_pos).1 this
theorem nl_le {X k : Nat} (h : X < B^k) : nl X ≤ k := by
  induction k generalizing X with
  | zero => simp at h; subst h; rw [nl_zero]; omega
  | succ k ih =>
    by_cases h0 : X = 0
    · subst h0; rw [nl_zero]; omega
    · rw [nl_pos h0]
      have := ih (X := X / B) ((Nat.div_lt_iff_lt_mul B_pos).2 (by rwa [pow_succ] at h))
      omega
theorem nl_le_iff {X k : Nat} : nl X ≤ k ↔ X < B^k := ⟨fun h => Nat.lt_of_lt_of_le (lt_nl X) (pow_le h), nl_le⟩
theorem nl_eq {X k : Nat} (h : X < B^k) (ht : k = 0 ∨ dg X (k-1) ≠ 0) : nl X = k := by
  have h1 := nl_le h
  rcases ht with rfl | ht
  · omega
  · by_cases h2 : nl X = k
    · exact h2
    · exact absurd (dg_of_lt (lt_nl X) (show nl X ≤ k - 1 by omega)) ht
theorem nl_eq_zero {X : Nat} : nl X = 0 ↔ X = 0 := by
  constructor
  · intro h; have := lt_nl X; rw [h] at this; simp at this; exact this
  · rintro rfl; exact nl_zero
theorem nl_top {X : Nat} (h : X ≠ 0) : dg X (nl X - 1) ≠ 0 := by
  intro h0
  have hz : nl X ≠ 0 := fun e => h (nl_eq_zero.1 e)
  have := lt_pow_of_dg (k := nl X - 1) (lt_nl X) (by omega) (fun i h1 h2 => by rw [show i = nl X - 1 by omega]; exact h0)
  have := nl_le this
  omega
theorem pow_le_of_nl {X : Nat} (h : X ≠ 0) : B^(nl X - 1) ≤ X := by
  apply Nat.le_of_not_lt
  intro hlt
  have := nl_le hlt
  have hz : nl X ≠ 0 := fun e => h (nl_eq_zero.1 e)
  omega
theorem nl_mono {X Y : Nat} (h : X ≤ Y) : nl X ≤ nl Y := nl_le (Nat.lt_of_le_of_lt h (lt_nl Y))
/-- One more limb: what the first k+1 limbs are. -/
theorem lt_of_nl_lt {X Y : Nat} (h : nl X < nl Y) : X < Y := by
  apply Nat.lt_of_not_le
  intro h2
  have := nl_mono h2
  omega
/-- Comparing from the top. -/
theorem lt_of_dg {X Y k : Nat} (h : X / B^(k+1) = Y / B^(k+1)) (hd : dg X k < dg Y k) : X < Y := by
  have hx := div_succ X k
  have hy := div_succ Y k
  have : X / B^k < Y / B^k := by rw [hx, hy, h]; omega
  apply Nat.lt_of_not_le
  intro hle
  have := Nat.div_le_div_right (c := B^k) hle
  omega
theorem div_eq_of_dg {X Y k : Nat} (h : X / B^(k+1) = Y / B^(k+1)) (hd : dg X k = dg Y k) : X / B^k = Y / B^k := by
  rw [div_succ X k, div_succ Y k, h, hd]
/-- The number X with limb k replaced by d. -/
def put (X k d : Nat) : Nat := X % B^k + d * B^k + X / B^(k+1) * B^(k+1)
theorem put_eq (X k d : Nat) : put X k d + dg X k * B^k = X + d * B^k := by
  have h1 := split X (k+1)
  have h2 := mod_succ X k
  unfold put
  omega
theorem dg_put_same {X k d : Nat} (hd : d < B) : dg (put X k d) k = d := by
  unfold put
  rw [dg_add_lo (by omega), dg_add_eq (mod_lt_pow _ _) hd]
theorem dg_put_other {X k d i : Nat} (hd : d < B) (h : i ≠ k) : dg (put X k d) i = dg X i := by
  unfold put
  by_cases hlt : i < k
  · rw [dg_add_lo (by omega), dg_add_lo hlt, dg_mod hlt]
  · obtain ⟨j, rfl⟩ : ∃ j, i = k + 1 + j := ⟨i - k - 1, by omega⟩
    rw [dg_add_hi (add_lt_pow (mod_lt_pow _ _) hd), dg_div]
theorem put_lt {X k d n : Nat} (hd : d < B) (hX : X < B^n) (hk : k < n) : put X k d < B^n := by
  have hq : X / B^(k+1) < B^(n - (k+1)) := (Nat.div_lt_iff_lt_mul (Bp _)).2 (by rw [← pow_add, show n - (k+1) + (k+1) = n by omega]; exact hX)
  have h1 := add_lt_pow (mod_lt_pow X k) hd
  unfold put
  have h2 : (X / B^(k+1) + 1) * B^(k+1) ≤ B^(n - (k+1)) * B^(k+1) := Nat.mul_le_mul_right _ hq
  rw [← pow_add, show n - (k+1) + (k+1) = n by omega, Nat.add_mul, Nat.one_mul] at h2
  omega
/-- Adding limb by limb. -/
theorem add_step {S c x y d c' P X Y : Nat} (h : S + c * P = X + Y) (hd : d + c' * B = x + y + c) :
    (S + d * P) + c' * (P * B) = (X + x * P) + (Y + y * P) := by
  have : (d + c' * B) * P = (x + y + c) * P := by rw [hd]
  grind
end PB

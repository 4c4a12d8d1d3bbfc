/-
  Plain facts on decimal digits.
-/
namespace PB
/-- Decimal digit i of X as a character. -/
def dch (X i : Nat) : Nat := X / 10^i % 10 + 48
theorem ten_pos (i : Nat) : 0 < 10^i := Nat.pow_pos (by decide)
theorem dch_lt (X i : Nat) : dch X i < 256 := by unfold dch; omega
theorem digit_in {X a i : Nat} (hi : i < 9) : X / 10^a % 1000000000 / 10^i % 10 = X / 10^(a+i) % 10 := by
  have h1 : (1000000000 : Nat) = 10^i * 10^(9-i) := by rw [← Nat.pow_add, show i + (9 - i) = 9 by omega]
  rw [h1, Nat.mod_mul_right_div_self, Nat.div_div_eq_div_mul, ← Nat.pow_add]
  have h2 : 10 ∣ 10^(9-i) := ⟨10^(8-i), by rw [← Nat.pow_succ', show (8 - i).succ = 9 - i by omega]⟩
  exact Nat.mod_mod_of_dvd _ h2
theorem digits_step {X a i : Nat} : X / 10^a % 1000000000 / 10^i / 10 = X / 10^a % 1000000000 / 10^(i+1) := by rw [Nat.div_div_eq_div_mul, ← Nat.pow_succ]
theorem group_step {X a : Nat} : X / 10^a / 1000000000 = X / 10^(a+9) := by rw [Nat.div_div_eq_div_mul, show (1000000000:Nat) = 10^9 from rfl, ← Nat.pow_add]
/-- One zero less. -/
theorem strip_step {X m : Nat} (h : X < 10^(m+1)) (hd : dch X m = 48) : X < 10^m := by
  unfold dch at hd
  have h1 : X / 10^m < 10 := Nat.div_lt_of_lt_mul (by rw [← Nat.pow_succ]; exact h)
  have h2 : X / 10^m = 0 := by generalize X / 10^m = q at *; omega
  exact (Nat.div_eq_zero_iff_lt (ten_pos m)).1 h2
theorem two_ten {a b : Nat} (h : 32 * a ≤ 3 * b) : (4294967296 : Nat)^a ≤ 10^b := by
  have e : (4294967296 : Nat) = 2^32 := rfl
  rw [e, ← Nat.pow_mul]
  have h1 : (2:Nat)^(32*a) ≤ 2^(3*b) := Nat.pow_le_pow_right (by decide) h
  rw [Nat.pow_mul 2 3 b] at h1
  exact Nat.le_trans h1 (Nat.pow_le_pow_left (by decide) b)
/-- How many digits there can be. -/
theorem digits_few {X a b : Nat} (hb : 32 * 256 ≤ 3 * b) (hX : X < 4294967296^256) (h : X / 10^a ≠ 0) : a < b := by
  have h1 : 10^a ≤ X := by
    apply Nat.le_of_not_lt
    intro hlt
    exact h (Nat.div_eq_of_lt hlt)
  have h2 : 10^a < 10^b := Nat.lt_of_le_of_lt h1 (Nat.lt_of_lt_of_le hX (two_ten hb))
  exact (Nat.pow_lt_pow_iff_right (by decide)).1 h2
/-- The number of decimal digits, from below and above. -/
def IsND (X m : Nat) : Prop := X < 10^m ∧ (m = 0 ∨ dch X (m-1) ≠ 48)
theorem isND_pos {X m : Nat} (h : IsND X m) (hX : X ≠ 0) : 0 < m := by
  apply Nat.pos_of_ne_zero
  rintro rfl
  have := h.1
  rw [Nat.pow_zero] at this
  omega
theorem isND_ge {X m : Nat} (h : IsND X m) (hm : 0 < m) : 10^(m-1) ≤ X := by
  apply Nat.le_of_not_lt
  intro hlt
  rcases h.2 with h2 | h2
  · omega
  · apply h2
    unfold dch
    rw [Nat.div_eq_of_lt hlt]
theorem isND_unique {X m m' : Nat} (h : IsND X m) (h' : IsND X m') : m = m' := by
  rcases Nat.lt_trichotomy m m' with hlt | heq | hlt
  · have h1 := isND_ge h' (by omega)
    have h2 : 10^m ≤ 10^(m'-1) := Nat.pow_le_pow_right (by decide) (by omega)
    have h3 := h.1
    omega
  · exact heq
  · have h1 := isND_ge h (by omega)
    have h2 : 10^m' ≤ 10^(m-1) := Nat.pow_le_pow_right (by decide) (by omega)
    have h3 := h'.1
    omega
/-- The bytes of the text of a number that is not 0. -/
def txt (neg : Bool) (X m : Nat) : List Nat := (((List.range m).map (dch X)) ++ if neg then [45] else []).reverse
end PB

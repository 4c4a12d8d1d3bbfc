/-
  What Lift returns is the best of the candidates, and there is one best alone.
-/
import Derived.Test.YtejodcpigfbnpaaVSidesA
namespace VB
/-- A set of vectors, said by which ones are in it. -/
abbrev VSet := Int → Int → Prop
def Al (S : VSet) (y : Int × Int) : Prop := ∀ a b, S a b → 0 ≤ dotI y.1 y.2 a b
def Cand (xx xy : Int) (S : VSet) (y : Int × Int) : Prop := y = (0, 0) ∨ ∃ a b, S a b ∧ dotI xx xy a b < 0 ∧ ∃ j, j < 4 ∧ y = cnd xx xy a b j
/-- y is not worse than z. -/
def Key (xx xy : Int) (y z : Int × Int) : Prop := distI xx xy y.1 y.2 < distI xx xy z.1 z.2 ∨ distI xx xy y.1 y.2 = distI xx xy z.1 z.2 ∧ dotI y.1 y.2 y.1 y.2 ≤ dotI z.1 z.2 z.1 z.2
structure IsBest (xx xy : Int) (S : VSet) (y : Int × Int) : Prop where
  c : Cand xx xy S y
  s : Sm y.1 y.2
  a : Al S y
  m : ∀ z, Cand xx xy S z → Sm z.1 z.2 → Al S z → Key xx xy y z
theorem key_refl (xx xy : Int) (y : Int × Int) : Key xx xy y y := Or.inr ⟨rfl, Int.le_refl _⟩
theorem key_trans {xx xy : Int} {a b c : Int × Int} (h : Key xx xy a b) (h' : Key xx xy b c) : Key xx xy a c := by
  unfold Key at *; omega
theorem sm_zero' : Sm ((0, 0) : Int × Int).1 ((0, 0) : Int × Int).2 := sm_zero
theorem al_zero (S : VSet) : Al S (0, 0) := fun a b _ => by unfold dotI; omega
theorem sq_sum_zero {a b : Int} (h : a * a + b * b ≤ 0) : a = 0 ∧ b = 0 := by
  have h1 := sq_nonneg a
  have h2 := sq_nonneg b
  have e1 : a * a = 0 := by omega
  have e2 : b * b = 0 := by omega
  exact ⟨by rcases Int.mul_eq_zero.1 e1 with h | h <;> exact h, by rcases Int.mul_eq_zero.1 e2 with h | h <;> exact h⟩
/-- There is one best alone, where something is forbidden. -/
theorem best_one {xx xy : Int} {S : VSet} {y z : Int × Int} (hS : ∃ a b, S a b ∧ dotI xx xy a b < 0) (hy : IsBest xx xy S y) (hz : IsBest xx xy S z) : y = z := by
  obtain ⟨n, m, hn, hneg⟩ := hS
  have k1 := hy.m z hz.c hz.s hz.a
  have k2 := hz.m y hy.c hy.s hy.a
  have k3 := hy.m (0, 0) (Or.inl rfl) sm_zero' (al_zero S)
  have k4 := hz.m (0, 0) (Or.inl rfl) sm_zero' (al_zero S)
  have ay := hy.a n m hn
  have az := hz.a n m hn
  obtain ⟨a, b⟩ := y
  obtain ⟨c, d⟩ := z
  unfold Key at k1 k2 k3 k4
  dsimp only at k1 k2 k3 k4 ay az
  have eD : distI xx xy a b = distI xx xy c d := by omega
  have eL : dotI a b a b = dotI c d c d := by omega
  have l3 : distI xx xy a b ≤ distI xx xy 0 0 := by omega
  have l4 : distI xx xy c d ≤ distI xx xy 0 0 := by omega
  clear k1 k2 k3 k4
  have dd : ∀ u v : Int, distI xx xy u v = dotI u v u v - 2 * dotI xx xy u v + dotI xx xy xx xy := fun u v => by unfold distI dotI; grind
  rw [dd, dd] at eD l3 l4
  rw [show dotI xx xy 0 0 = 0 from dot_z _ _, show dotI 0 0 0 0 = 0 from dot_z _ _] at l3 l4
  have eP : dotI xx xy a b = dotI xx xy c d := by omega
  have l5 : dotI a b a b ≤ 2 * dotI xx xy a b := by omega
  by_cases hne : a = c ∧ b = d
  · rw [hne.1, hne.2]
  · exfalso
    -- both x and y + z are at right angles to y - z
    have r1 : xx * (a - c) + xy * (b - d) = 0 := by unfold dotI at eP; grind
    have r2 : (a + c) * (a - c) + (b + d) * (b - d) = 0 := by unfold dotI at eL; grind
    have par : xx * (b + d) - xy * (a + c) = 0 := by
      have p1 : (xx * (b + d) - xy * (a + c)) * (a - c) = 0 := by grind
      have p2 : (xx * (b + d) - xy * (a + c)) * (b - d) = 0 := by grind
      rcases Int.mul_eq_zero.1 p1 with h | h
      · exact h
      · rcases Int.mul_eq_zero.1 p2 with h' | h'
        · exact h'
        · exact absurd ⟨by omega, by omega⟩ hne
    -- (y + z) |x|^2 = 2 (x y) x
    have t : dotI xx xy xx xy * dotI (a + c) (b + d) n m = 2 * dotI xx xy a b * dotI xx xy n m := by
      have e1 : dotI xx xy xx xy * (a + c) = 2 * dotI xx xy a b * xx := by unfold dotI at *; grind
      have e2 : dotI xx xy xx xy * (b + d) = 2 * dotI xx xy a b * xy := by unfold dotI at *; grind
      have : dotI xx xy xx xy * dotI (a + c) (b + d) n m = dotI xx xy xx xy * (a + c) * n + dotI xx xy xx xy * (b + d) * m := by unfold dotI; grind
      rw [this, e1, e2]; unfold dotI; grind
    have xpos : 0 ≤ dotI xx xy xx xy := by have := sq_nonneg xx; have := sq_nonneg xy; unfold dotI; omega
    have spos : 0 ≤ dotI (a + c) (b + d) n m := by
      have : dotI (a + c) (b + d) n m = dotI a b n m + dotI c d n m := by unfold dotI; grind
      omega
    have tpos := Int.mul_nonneg xpos spos
    have yl : 0 ≤ dotI a b a b := by have := sq_nonneg a; have := sq_nonneg b; unfold dotI; omega
    have hle : dotI xx xy a b ≤ 0 := by
      apply Int.le_of_not_gt
      intro hgt
      have := Int.mul_neg_of_pos_of_neg (show 0 < 2 * dotI xx xy a b by omega) hneg
      omega
    have y0 := sq_sum_zero (a := a) (b := b) (by unfold dotI at l5 hle yl; omega)
    have z0 := sq_sum_zero (a := c) (b := d) (by unfold dotI at *; omega)
    exact hne ⟨by omega, by omega⟩
theorem lex_key {xx xy : Int} {y z : Int × Int} : lexB (distI xx xy y.1 y.2) (distI xx xy z.1 z.2) (dotI y.1 y.2 y.1 y.2) (dotI z.1 z.2 z.1 z.2) = true ↔ ¬ Key xx xy z y := by
  unfold lexB Key
  rw [decide_eq_true_iff]
  omega
/-- The set of the first k vectors. -/
def SetOf (f : Nat → Int × Int) (k : Nat) : VSet := fun a b => ∃ i, i < k ∧ f i = (a, b)
theorem al_set (f : Nat → Int × Int) (n : Nat) (y : Int × Int) : (sidesOf f n).al y.1 y.2 = true ↔ Al (SetOf f n) y := by
  rw [sides_al]
  constructor
  · rintro h a b ⟨i, hi, e⟩
    have := h i hi
    rw [e] at this
    exact this
  · intro h i hi
    exact h _ _ ⟨i, hi, rfl⟩
/-- Best among some. -/
structure Among (xx xy : Int) (s : Both) (C : Int × Int → Prop) (y : Int × Int) : Prop where
  c : C y
  q : Sm y.1 y.2 ∧ s.al y.1 y.2 = true
  m : ∀ z, C z → Sm z.1 z.2 → s.al z.1 z.2 = true → Key xx xy y z
theorem among_upd {xx xy : Int} {s : Both} {C : Int × Int → Prop} {y z : Int × Int} (h : Among xx xy s C y) : Among xx xy s (fun u => C u ∨ u = z) (upd xx xy s y z) := by
  unfold upd
  by_cases hz : Sm z.1 z.2 ∧ s.al z.1 z.2 = true ∧ lexB (distI xx xy z.1 z.2) (distI xx xy y.1 y.2) (dotI z.1 z.2 z.1 z.2) (dotI y.1 y.2 y.1 y.2) = true
  · rw [if_pos hz]
    have hk := lex_key.1 hz.2.2
    refine ⟨Or.inr rfl, ⟨hz.1, hz.2.1⟩, fun u hu s1 s2 => ?_⟩
    rcases hu with hu | rfl
    · have := h.m u hu s1 s2
      unfold Key at *; omega
    · exact key_refl _ _ _
  · rw [if_neg hz]
    refine ⟨Or.inl h.c, h.q, fun u hu s1 s2 => ?_⟩
    rcases hu with hu | rfl
    · exact h.m u hu s1 s2
    · apply Classical.byContradiction
      intro hk
      exact hz ⟨s1, s2, lex_key.2 hk⟩
theorem among_congr {xx xy : Int} {s : Both} {C D : Int × Int → Prop} {y : Int × Int} (h : Among xx xy s C y) (e : ∀ u, C u ↔ D u) : Among xx xy s D y :=
  ⟨(e y).1 h.c, h.q, fun z hz => h.m z ((e z).2 hz)⟩
theorem among_updN {xx xy : Int} {s : Both} {C : Int × Int → Prop} {y : Int × Int} (h : Among xx xy s C y) (c : Nat → Int × Int) : ∀ n, Among xx xy s (fun u => C u ∨ ∃ j, j < n ∧ u = c j) (updN xx xy s y c n)
  | 0 => among_congr h fun u => ⟨Or.inl, fun k => k.elim id fun ⟨j, hj, _⟩ => by omega⟩
  | n + 1 => by
    refine among_congr (among_upd (z := c n) (among_updN h c n)) fun u => ?_
    constructor
    · rintro ((h | ⟨j, hj, e⟩) | e)
      · exact Or.inl h
      · exact Or.inr ⟨j, by omega, e⟩
      · exact Or.inr ⟨n, by omega, e⟩
    · rintro (h | ⟨j, hj, e⟩)
      · exact Or.inl (Or.inl h)
      · by_cases hjn : j = n
        · subst hjn; exact Or.inr e
        · exact Or.inl (Or.inr ⟨j, by omega, e⟩)
theorem among_best {xx xy : Int} (s : Both) (f : Nat → Int × Int) (h0 : s.al 0 0 = true) : ∀ k, Among xx xy s (Cand xx xy (SetOf f k)) (bestOf xx xy s f k)
  | 0 => ⟨Or.inl rfl, ⟨sm_zero, h0⟩, fun z hz _ _ => by
      rcases hz with rfl | ⟨a, b, ⟨i, hi, _⟩, _⟩
      · exact key_refl _ _ _
      · omega⟩
  | k + 1 => by
    have ih := among_best (xx := xx) (xy := xy) s f h0 k
    have more : ∀ u, Cand xx xy (SetOf f k) u → Cand xx xy (SetOf f (k + 1)) u := fun u hu => by
      rcases hu with e | ⟨a, b, ⟨i, hi, e⟩, r⟩
      · exact Or.inl e
      · exact Or.inr ⟨a, b, ⟨i, by omega, e⟩, r⟩
    show Among xx xy s _ (if 0 ≤ dotI xx xy (f k).1 (f k).2 then _ else _)
    by_cases hd : 0 ≤ dotI xx xy (f k).1 (f k).2
    · rw [if_pos hd]
      refine among_congr ih fun u => ⟨more u, fun hu => ?_⟩
      rcases hu with e | ⟨a, b, ⟨i, hi, e⟩, hneg, r⟩
      · exact Or.inl e
      · by_cases hik : i = k
        · subst hik; rw [e] at hd; dsimp only at hd; omega
        · exact Or.inr ⟨a, b, ⟨i, by omega, e⟩, hneg, r⟩
    · rw [if_neg hd]
      refine among_congr (among_updN ih (cnd xx xy (f k).1 (f k).2) 4) fun u => ?_
      constructor
      · rintro (hu | ⟨j, hj, e⟩)
        · exact more u hu
        · exact Or.inr ⟨_, _, ⟨k, by omega, rfl⟩, by omega, j, hj, e⟩
      · rintro (e | ⟨a, b, ⟨i, hi, e⟩, hneg, j, hj, r⟩)
        · exact Or.inl (Or.inl e)
        · by_cases hik : i = k
          · subst hik; rw [e]; exact Or.inr ⟨j, hj, r⟩
          · exact Or.inl (Or.inr ⟨a, b, ⟨i, by omega, e⟩, hneg, j, hj, r⟩)
theorem best_is (xx xy : Int) (f : Nat → Int × Int) (n : Nat) : IsBest xx xy (SetOf f n) (bestOf xx xy (sidesOf f n) f n) := by
  have h := among_best (xx := xx) (xy := xy) (sidesOf f n) f ((al_set f n (0, 0)).2 (al_zero _)) n
  exact ⟨h.c, h.q.1, (al_set f n _).1 h.q.2, fun z hz s a => h.m z hz s ((al_set f n z).2 a)⟩
end VB

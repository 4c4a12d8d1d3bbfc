/-
  The four sides allow just what all the vectors allow.
-/
import Derived.Test.YtejodcpigfbnpaaVSidesM
namespace VB
/-- What is known of one half behind k vectors; Q: which of them belong to it. -/
def St (g : Nat → Int × Int) (Q : Nat → Prop) (p : Half) (k : Nat) : Prop :=
  (p = Half.zero ∧ ∀ i, i < k → Q i → (g i).1 = 0 ∧ (g i).2 = 0) ∨
  (Up p.fx p.fy ∧ Up p.lx p.ly ∧ (∃ i, i < k ∧ Q i ∧ g i = (p.fx, p.fy)) ∧ (∃ i, i < k ∧ Q i ∧ g i = (p.lx, p.ly)) ∧
    ∀ i, i < k → Q i → ((g i).1 = 0 ∧ (g i).2 = 0) ∨ (Up (g i).1 (g i).2 ∧ 0 ≤ crossI p.fx p.fy (g i).1 (g i).2 ∧ 0 ≤ crossI (g i).1 (g i).2 p.lx p.ly))
theorem st_zero (g : Nat → Int × Int) (Q : Nat → Prop) : St g Q Half.zero 0 := Or.inl ⟨rfl, fun i h => by omega⟩
theorem st_skip {g : Nat → Int × Int} {Q : Nat → Prop} {p : Half} {k : Nat} (h : St g Q p k) (hq : ¬ Q k) : St g Q p (k + 1) := by
  have lt : ∀ i, i < k + 1 → Q i → i < k := fun i hi q => by
    by_cases e : i = k
    · subst e; exact absurd q hq
    · omega
  rcases h with ⟨h1, h2⟩ | ⟨h1, h2, ⟨i, hi, q, e⟩, ⟨j, hj, q', e'⟩, h3⟩
  · exact Or.inl ⟨h1, fun i hi q => h2 i (lt i hi q) q⟩
  · exact Or.inr ⟨h1, h2, ⟨i, by omega, q, e⟩, ⟨j, by omega, q', e'⟩, fun i hi q => h3 i (lt i hi q) q⟩
theorem up_not_zero {x y : Int} (h : Up x y) : ¬ (x = 0 ∧ y = 0) := by unfold Up at h; omega
theorem cross_anti (ax ay bx b_ : Int) : crossI ax ay bx b_ = -crossI bx b_ ax ay := by unfold crossI; grind
theorem cross_zero_l (x y : Int) : crossI 0 0 x y = 0 := by unfold crossI; omega
theorem cross_zero_r (x y : Int) : crossI x y 0 0 = 0 := by unfold crossI; omega
theorem st_take {g : Nat → Int × Int} {Q : Nat → Prop} {p : Half} {k : Nat} (h : St g Q p k) (hq : Q k) (hg : ((g k).1 = 0 ∧ (g k).2 = 0) ∨ Up (g k).1 (g k).2) : St g Q (p.step (g k).1 (g k).2) (k + 1) := by
  have gk : g k = ((g k).1, (g k).2) := rfl
  obtain ⟨fx, fy, lx, ly⟩ := p
  generalize hx : (g k).1 = x at *
  generalize hy : (g k).2 = y at *
  have split : ∀ i, i < k + 1 → i < k ∨ i = k := fun i hi => by omega
  rcases h with ⟨h1, h2⟩ | ⟨h1, h2, ⟨i, hi, q, e⟩, ⟨j, hj, q', e'⟩, h3⟩
  · cases h1
    rw [half_zero ⟨rfl, rfl⟩]
    rcases hg with ⟨rfl, rfl⟩ | hg
    · exact Or.inl ⟨rfl, fun i hi q => by
        rcases split i hi with h | rfl
        · exact h2 i h q
        · exact ⟨hx, hy⟩⟩
    · refine Or.inr ⟨hg, hg, ⟨k, by omega, hq, gk⟩, ⟨k, by omega, hq, gk⟩, fun i hi q => ?_⟩
      rcases split i hi with h | rfl
      · exact Or.inl (h2 i h q)
      · right; rw [hx, hy]; exact ⟨hg, by rw [cross_self]; exact Int.le_refl _, by rw [cross_self]; exact Int.le_refl _⟩
  · dsimp only at h1 h2 e e' h3
    rw [half_not (up_not_zero h1)]
    rcases hg with ⟨rfl, rfl⟩ | hg
    · rw [cross_zero_l, cross_zero_r]
      simp only [Int.lt_irrefl, if_false]
      refine Or.inr ⟨h1, h2, ⟨i, by omega, q, e⟩, ⟨j, by omega, q', e'⟩, fun i hi q => ?_⟩
      rcases split i hi with h | rfl
      · exact h3 i h q
      · exact Or.inl ⟨hx, hy⟩
    · -- first
      have hF : ∃ F G, (F = if 0 < crossI x y fx fy then x else fx) ∧ (G = if 0 < crossI x y fx fy then y else fy) ∧ Up F G ∧ (∃ i, i < k + 1 ∧ Q i ∧ g i = (F, G)) ∧ 0 ≤ crossI F G x y ∧ ∀ a b, Up a b → 0 ≤ crossI fx fy a b → 0 ≤ crossI F G a b := by
        by_cases c : 0 < crossI x y fx fy
        · rw [if_pos c, if_pos c]
          exact ⟨x, y, rfl, rfl, hg, ⟨k, by omega, hq, gk⟩, by rw [cross_self]; exact Int.le_refl _, fun a b u hc => up_trans hg h1 u (by omega) hc⟩
        · rw [if_neg c, if_neg c]
          exact ⟨fx, fy, rfl, rfl, h1, ⟨i, by omega, q, e⟩, by rw [cross_anti]; omega, fun a b _ hc => hc⟩
      have hL : ∃ F G, (F = if 0 < crossI lx ly x y then x else lx) ∧ (G = if 0 < crossI lx ly x y then y else ly) ∧ Up F G ∧ (∃ i, i < k + 1 ∧ Q i ∧ g i = (F, G)) ∧ 0 ≤ crossI x y F G ∧ ∀ a b, Up a b → 0 ≤ crossI a b lx ly → 0 ≤ crossI a b F G := by
        by_cases c : 0 < crossI lx ly x y
        · rw [if_pos c, if_pos c]
          exact ⟨x, y, rfl, rfl, hg, ⟨k, by omega, hq, gk⟩, by rw [cross_self]; exact Int.le_refl _, fun a b u hc => up_trans u h2 hg hc (by omega)⟩
        · rw [if_neg c, if_neg c]
          exact ⟨lx, ly, rfl, rfl, h2, ⟨j, by omega, q', e'⟩, by rw [cross_anti]; omega, fun a b _ hc => hc⟩
      obtain ⟨F, G, rF, rG, uF, mF, cF, tF⟩ := hF
      obtain ⟨K, L, rK, rL, uL, mL, cL, tL⟩ := hL
      rw [← rF, ← rG, ← rK, ← rL]
      refine Or.inr ⟨uF, uL, mF, mL, fun i hi q => ?_⟩
      rcases split i hi with h | rfl
      · rcases h3 i h q with z | ⟨u, c1, c2⟩
        · exact Or.inl z
        · exact Or.inr ⟨u, tF _ _ u c1, tL _ _ u c2⟩
      · right; rw [hx, hy]; exact ⟨hg, cF, cL⟩
theorem dot_z (vx vy : Int) : dotI vx vy 0 0 = 0 := by unfold dotI; omega
/-- The two of a half allow what its vectors allow. -/
theorem st_al {g : Nat → Int × Int} {Q : Nat → Prop} {p : Half} {k : Nat} (h : St g Q p k) (vx vy : Int) : (0 ≤ dotI vx vy p.fx p.fy ∧ 0 ≤ dotI vx vy p.lx p.ly) ↔ ∀ i, i < k → Q i → 0 ≤ dotI vx vy (g i).1 (g i).2 := by
  rcases h with ⟨rfl, h2⟩ | ⟨h1, h2, ⟨i, hi, q, e⟩, ⟨j, hj, q', e'⟩, h3⟩
  · constructor
    · intro _ i hi q
      rw [(h2 i hi q).1, (h2 i hi q).2, dot_z]; exact Int.le_refl _
    · intro _
      show 0 ≤ dotI vx vy 0 0 ∧ 0 ≤ dotI vx vy 0 0
      rw [dot_z]; exact ⟨Int.le_refl _, Int.le_refl _⟩
  · constructor
    · intro ⟨k1, k2⟩ i hi q
      rcases h3 i hi q with ⟨z1, z2⟩ | ⟨u, c1, c2⟩
      · rw [z1, z2, dot_z]; exact Int.le_refl _
      · exact up_between h1 u h2 c1 c2 k1 k2
    · intro k
      have a := k i hi q
      have b := k j hj q'
      rw [e] at a
      rw [e'] at b
      exact ⟨a, b⟩
/-- The other side. -/
def Half.neg (p : Half) : Half := ⟨-p.fx, -p.fy, -p.lx, -p.ly⟩
theorem cross_neg (ax ay bx b_ : Int) : crossI (-ax) (-ay) (-bx) (-b_) = crossI ax ay bx b_ := by unfold crossI; grind
theorem dot_neg (ax ay bx b_ : Int) : dotI (-ax) (-ay) (-bx) (-b_) = dotI ax ay bx b_ := by unfold dotI; grind
theorem step_neg (p : Half) (x y : Int) : (p.neg).step (-x) (-y) = (p.step x y).neg := by
  obtain ⟨fx, fy, lx, ly⟩ := p
  show Half.step ⟨-fx, -fy, -lx, -ly⟩ (-x) (-y) = _
  by_cases h : fx = 0 ∧ fy = 0
  · rw [half_zero h, half_zero (by omega)]; rfl
  · rw [half_not h, half_not (by omega), cross_neg, cross_neg]
    unfold Half.neg
    dsimp only
    split <;> split <;> rfl
theorem sides_st (f : Nat → Int × Int) : ∀ k, St f (fun i => ¬ lower (f i).1 (f i).2) (sidesOf f k).u k ∧ St (fun i => (-(f i).1, -(f i).2)) (fun i => lower (f i).1 (f i).2) (sidesOf f k).d.neg k
  | 0 => ⟨st_zero _ _, st_zero _ _⟩
  | k + 1 => by
    obtain ⟨h1, h2⟩ := sides_st f k
    show St _ _ (Both.step (sidesOf f k) (f k).1 (f k).2).u _ ∧ St _ _ (Both.step (sidesOf f k) (f k).1 (f k).2).d.neg _
    unfold Both.step
    by_cases hl : lower (f k).1 (f k).2
    · rw [if_pos hl]
      refine ⟨st_skip h1 (fun h => h hl), ?_⟩
      have := st_take h2 hl (Or.inr (by dsimp only; unfold lower at hl; unfold Up; omega))
      rw [step_neg] at this
      exact this
    · rw [if_neg hl]
      exact ⟨st_take h1 hl (by unfold lower at hl; unfold Up; omega), st_skip h2 hl⟩
/-- The four sides allow just what all the vectors allow. -/
theorem sides_al (f : Nat → Int × Int) (n : Nat) (vx vy : Int) : (sidesOf f n).al vx vy = true ↔ ∀ i, i < n → 0 ≤ dotI vx vy (f i).1 (f i).2 := by
  obtain ⟨h1, h2⟩ := sides_st f n
  have a := st_al h1 vx vy
  have b := st_al h2 (-vx) (-vy)
  unfold Half.neg at b
  simp only [dot_neg] at b
  unfold Both.al alB
  rw [decide_eq_true_iff]
  constructor
  · intro ⟨k1, k2, k3, k4⟩ i hi
    by_cases hl : lower (f i).1 (f i).2
    · exact b.1 ⟨k3, k4⟩ i hi hl
    · exact a.1 ⟨k1, k2⟩ i hi hl
  · intro k
    obtain ⟨k1, k2⟩ := a.2 (fun i hi _ => k i hi)
    obtain ⟨k3, k4⟩ := b.2 (fun i hi _ => k i hi)
    exact ⟨k1, k2, k3, k4⟩
end VB

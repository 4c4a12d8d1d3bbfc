/-
  What Lift returns is the best of the candidates, and there is one best alone.
  Lift's result: by the set alone, mirrored with it, and not lifted again.
  Small, Dot, Cross of the document's reference.
-/
import Derived.Test.YtdgfmkideghhaaaM04
import Derived.Test.YtdgfmkideghhaaaM09
namespace VB
/-- A set of vectors, said by which ones are in it. -/
abbrev VSet := Int → Int → Prop
def Al (S : VSet) (y : Int × Int) : Prop := ∀ a b, S a b → 0 ≤ dotI y.1 y.2 a b
def Cand (xx xy : Int) (S : VSet) (y : Int × Int) : Prop := y = (0, 0) ∨ ∃ a b, S a b ∧ dotI xx xy a b < 0 ∧ ∃ j, j < 4 ∧ y = cnd xx xy a b j
/-- y is not worse than z. -/
def Key (xx xy : Int) (y z : Int × Int) : Prop := distI xx xy y.1 y.2 < distI xx xy z.1 z.2 ∨ distI xx xy y.1 y.2 = distI xx xy z.1 z.2 ∧ dotI y.1 y.2 y.1 y.2 ≤ dotI z.1 z.2 z.1 z.2
structure IsBest (xx xy : Int) (S : VSet) (y : Int × Int) : Prop where
  c : Cand xx xy S y
  s : Sm y.1 y.2
  a : Al S y
  m : ∀ z, Cand xx xy S z → Sm z.1 z.2 → Al S z → Key xx xy y z
theorem key_refl (xx xy : Int) (y : Int × Int) : Key xx xy y y := Or.inr ⟨rfl, Int.le_refl _⟩
theorem key_trans {xx xy : Int} {a b c : Int × Int} (h : Key xx xy a b) (h' : Key xx xy b c) : Key xx xy a c := by
  unfold Key at *; omega
theorem sm_zero' : Sm ((0, 0) : Int × Int).1 ((0, 0) : Int × Int).2 := sm_zero
theorem al_zero (S : VSet) : Al S (0, 0) := fun a b _ => by unfold dotI; omega
theorem sq_sum_zero {a b : Int} (h : a * a + b * b ≤ 0) : a = 0 ∧ b = 0 := by
  have h1 := sq_nonneg a
  have h2 := sq_nonneg b
  have e1 : a * a = 0 := by omega
  have e2 : b * b = 0 := by omega
  exact ⟨by rcases Int.mul_eq_zero.1 e1 with h | h <;> exact h, by rcases Int.mul_eq_zero.1 e2 with h | h <;> exact h⟩
/-- There is one best alone, where something is forbidden. -/
theorem best_one {xx xy : Int} {S : VSet} {y z : Int × Int} (hS : ∃ a b, S a b ∧ dotI xx xy a b < 0) (hy : IsBest xx xy S y) (hz : IsBest xx xy S z) : y = z := by
  obtain ⟨n, m, hn, hneg⟩ := hS
  have k1 := hy.m z hz.c hz.s hz.a
  have k2 := hz.m y hy.c hy.s hy.a
  have k3 := hy.m (0, 0) (Or.inl rfl) sm_zero' (al_zero S)
  have k4 := hz.m (0, 0) (Or.inl rfl) sm_zero' (al_zero S)
  have ay := hy.a n m hn
  have az := hz.a n m hn
  obtain ⟨a, b⟩ := y
  obtain ⟨c, d⟩ := z
  unfold Key at k1 k2 k3 k4
  dsimp only at k1 k2 k3 k4 ay az
  have eD : distI xx xy a b = distI xx xy c d := by omega
  have eL : dotI a b a b = dotI c d c d := by omega
  have l3 : distI xx xy a b ≤ distI xx xy 0 0 := by omega
  have l4 : distI xx xy c d ≤ distI xx xy 0 0 := by omega
  clear k1 k2 k3 k4
  have dd : ∀ u v : Int, distI xx xy u v = dotI u v u v - 2 * dotI xx xy u v + dotI xx xy xx xy := fun u v => by unfold distI dotI; grind
  rw [dd, dd] at eD l3 l4
  rw [show dotI xx xy 0 0 = 0 from dot_z _ _, show dotI 0 0 0 0 = 0 from dot_z _ _] at l3 l4
  have eP : dotI xx xy a b = dotI xx xy c d := by omega
  have l5 : dotI a b a b ≤ 2 * dotI xx xy a b := by omega
  by_cases hne : a = c ∧ b = d
  · rw [hne.1, hne.2]
  · exfalso
    -- both x and y + z are at right angles to y - z
    have r1 : xx * (a - c) + xy * (b - d) = 0 := by unfold dotI at eP; grind
    have r2 : (a + c) * (a - c) + (b + d) * (b - d) = 0 := by unfold dotI at eL; grind
    have par : xx * (b + d) - xy * (a + c) = 0 := by
      have p1 : (xx * (b + d) - xy * (a + c)) * (a - c) = 0 := by grind
      have p2 : (xx * (b + d) - xy * (a + c)) * (b - d) = 0 := by grind
      rcases Int.mul_eq_zero.1 p1 with h | h
      · exact h
      · rcases Int.mul_eq_zero.1 p2 with h' | h'
        · exact h'
        · exact absurd ⟨by omega, by omega⟩ hne
    -- (y + z) |x|^2 = 2 (x y) x
    have t : dotI xx xy xx xy * dotI (a + c) (b + d) n m = 2 * dotI xx xy a b * dotI xx xy n m := by
      have e1 : dotI xx xy xx xy * (a + c) = 2 * dotI xx xy a b * xx := by unfold dotI at *; grind
      have e2 : dotI xx xy xx xy * (b + d) = 2 * dotI xx xy a b * xy := by unfold dotI at *; grind
      have : dotI xx xy xx xy * dotI (a + c) (b + d) n m = dotI xx xy xx xy * (a + c) * n + dotI xx xy xx xy * (b + d) * m := by unfold dotI; grind
      rw [this, e1, e2]; unfold dotI; grind
    have xpos : 0 ≤ dotI xx xy xx xy := by have := sq_nonneg xx; have := sq_nonneg xy; unfold dotI; omega
    have spos : 0 ≤ dotI (a + c) (b + d) n m := by
      have : dotI (a + c) (b + d) n m = dotI a b n m + dotI c d n m := by unfold dotI; grind
      omega
    have tpos := Int.mul_nonneg xpos spos
    have yl : 0 ≤ dotI a b a b := by have := sq_nonneg a; have := sq_nonneg b; unfold dotI; omega
    have hle : dotI xx xy a b ≤ 0 := by
      apply Int.le_of_not_gt
      intro hgt
      have := Int.mul_neg_of_pos_of_neg (show 0 < 2 * dotI xx xy a b by omega) hneg
      omega
    have y0 := sq_sum_zero (a := a) (b := b) (by unfold dotI at l5 hle yl; omega)
    have z0 := sq_sum_zero (a := c) (b := d) (by unfold dotI at *; omega)
    exact hne ⟨by omega, by omega⟩
theorem lex_key {xx xy : Int} {y z : Int × Int} : lexB (distI xx xy y.1 y.2) (distI xx xy z.1 z.2) (dotI y.1 y.2 y.1 y.2) (dotI z.1 z.2 z.1 z.2) = true ↔ ¬ Key xx xy z y := by
  unfold lexB Key
  rw [decide_eq_true_iff]
  omega
/-- The set of the first k vectors. -/
def SetOf (f : Nat → Int × Int) (k : Nat) : VSet := fun a b => ∃ i, i < k ∧ f i = (a, b)
theorem al_set (f : Nat → Int × Int) (n : Nat) (y : Int × Int) : (sidesOf f n).al y.1 y.2 = true ↔ Al (SetOf f n) y := by
  rw [sides_al]
  constructor
  · rintro h a b ⟨i, hi, e⟩
    have := h i hi
    rw [e] at this
    exact this
  · intro h i hi
    exact h _ _ ⟨i, hi, rfl⟩
/-- Best among some. -/
structure Among (xx xy : Int) (s : Both) (C : Int × Int → Prop) (y : Int × Int) : Prop where
  c : C y
  q : Sm y.1 y.2 ∧ s.al y.1 y.2 = true
  m : ∀ z, C z → Sm z.1 z.2 → s.al z.1 z.2 = true → Key xx xy y z
theorem among_upd {xx xy : Int} {s : Both} {C : Int × Int → Prop} {y z : Int × Int} (h : Among xx xy s C y) : Among xx xy s (fun u => C u ∨ u = z) (upd xx xy s y z) := by
  unfold upd
  by_cases hz : Sm z.1 z.2 ∧ s.al z.1 z.2 = true ∧ lexB (distI xx xy z.1 z.2) (distI xx xy y.1 y.2) (dotI z.1 z.2 z.1 z.2) (dotI y.1 y.2 y.1 y.2) = true
  · rw [if_pos hz]
    have hk := lex_key.1 hz.2.2
    refine ⟨Or.inr rfl, ⟨hz.1, hz.2.1⟩, fun u hu s1 s2 => ?_⟩
    rcases hu with hu | rfl
    · have := h.m u hu s1 s2
      unfold Key at *; omega
    · exact key_refl _ _ _
  · rw [if_neg hz]
    refine ⟨Or.inl h.c, h.q, fun u hu s1 s2 => ?_⟩
    rcases hu with hu | rfl
    · exact h.m u hu s1 s2
    · apply Classical.byContradiction
      intro hk
      exact hz ⟨s1, s2, lex_key.2 hk⟩
theorem among_congr {xx xy : Int} {s : Both} {C D : Int × Int → Prop} {y : Int × Int} (h : Among xx xy s C y) (e : ∀ u, C u ↔ D u) : Among xx xy s D y :=
  ⟨(e y).1 h.c, h.q, fun z hz => h.m z ((e z).2 hz)⟩
theorem among_updN {xx xy : Int} {s : Both} {C : Int × Int → Prop} {y : Int × Int} (h : Among xx xy s C y) (c : Nat → Int × Int) : ∀ n, Among xx xy s (fun u => C u ∨ ∃ j, j < n ∧ u = c j) (updN xx xy s y c n)
  | 0 => among_congr h fun u => ⟨Or.inl, fun k => k.elim id fun ⟨j, hj, _⟩ => by omega⟩
  | n + 1 => by
    refine among_congr (among_upd (z := c n) (among_updN h c n)) fun u => ?_
    constructor
    · rintro ((h | ⟨j, hj, e⟩) | e)
      · exact Or.inl h
      · exact Or.inr ⟨j, by omega, e⟩
      · exact Or.inr ⟨n, by omega, e⟩
    · rintro (h | ⟨j, hj, e⟩)
      · exact Or.inl (Or.inl h)
      · by_cases hjn : j = n
        · subst hjn; exact Or.inr e
        · exact Or.inl (Or.inr ⟨j, by omega, e⟩)
theorem among_best {xx xy : Int} (s : Both) (f : Nat → Int × Int) (h0 : s.al 0 0 = true) : ∀ k, Among xx xy s (Cand xx xy (SetOf f k)) (bestOf xx xy s f k)
  | 0 => ⟨Or.inl rfl, ⟨sm_zero, h0⟩, fun z hz _ _ => by
      rcases hz with rfl | ⟨a, b, ⟨i, hi, _⟩, _⟩
      · exact key_refl _ _ _
      · omega⟩
  | k + 1 => by
    have ih := among_best (xx := xx) (xy := xy) s f h0 k
    have more : ∀ u, Cand xx xy (SetOf f k) u → Cand xx xy (SetOf f (k + 1)) u := fun u hu => by
      rcases hu with e | ⟨a, b, ⟨i, hi, e⟩, r⟩
      · exact Or.inl e
      · exact Or.inr ⟨a, b, ⟨i, by omega, e⟩, r⟩
    show Among xx xy s _ (if 0 ≤ dotI xx xy (f k).1 (f k).2 then _ else _)
    by_cases hd : 0 ≤ dotI xx xy (f k).1 (f k).2
    · rw [if_pos hd]
      refine among_congr ih fun u => ⟨more u, fun hu => ?_⟩
      rcases hu with e | ⟨a, b, ⟨i, hi, e⟩, hneg, r⟩
      · exact Or.inl e
      · by_cases hik : i = k
        · subst hik; rw [e] at hd; dsimp only at hd; omega
        · exact Or.inr ⟨a, b, ⟨i, by omega, e⟩, hneg, r⟩
    · rw [if_neg hd]
      refine among_congr (among_updN ih (cnd xx xy (f k).1 (f k).2) 4) fun u => ?_
      constructor
      · rintro (hu | ⟨j, hj, e⟩)
        · exact more u hu
        · exact Or.inr ⟨_, _, ⟨k, by omega, rfl⟩, by omega, j, hj, e⟩
      · rintro (e | ⟨a, b, ⟨i, hi, e⟩, hneg, j, hj, r⟩)
        · exact Or.inl (Or.inl e)
        · by_cases hik : i = k
          · subst hik; rw [e]; exact Or.inr ⟨j, hj, r⟩
          · exact Or.inl (Or.inr ⟨a, b, ⟨i, by omega, e⟩, hneg, j, hj, r⟩)
theorem best_is (xx xy : Int) (f : Nat → Int × Int) (n : Nat) : IsBest xx xy (SetOf f n) (bestOf xx xy (sidesOf f n) f n) := by
  have h := among_best (xx := xx) (xy := xy) (sidesOf f n) f ((al_set f n (0, 0)).2 (al_zero _)) n
  exact ⟨h.c, h.q.1, (al_set f n _).1 h.q.2, fun z hz s a => h.m z hz s ((al_set f n z).2 a)⟩
end VB

namespace VB
/-- What is asked of a lifted vector. -/
structure LiftIs (xx xy : Int) (S : VSet) (y : Int × Int) : Prop where
  ok : Al S (xx, xy) → y = (xx, xy)
  no : ¬ Al S (xx, xy) → IsBest xx xy S y
theorem lift_is {xx xy : Int} {f : Nat → Int × Int} {n : Nat} (hx : Sm xx xy) (hl : AllSm f n) : LiftIs xx xy (SetOf f n) (liftV xx xy f n) := by
  have e := al_set f n (xx, xy)
  have hb := best_is xx xy f n
  dsimp only at e
  unfold liftV
  rw [if_pos ⟨hx, hl⟩]
  constructor
  · intro h
    rw [if_pos (e.2 h)]
  · intro h
    rw [if_neg (fun k => h (e.1 k))]
    exact hb
theorem not_al {xx xy : Int} {S : VSet} (h : ¬ Al S (xx, xy)) : ∃ a b, S a b ∧ dotI xx xy a b < 0 := by
  apply Classical.byContradiction
  intro hn
  refine h fun a b hs => ?_
  apply Int.le_of_not_gt
  intro hd
  exact hn ⟨a, b, hs, hd⟩
theorem lift_alone {xx xy : Int} {S : VSet} {y z : Int × Int} (hy : LiftIs xx xy S y) (hz : LiftIs xx xy S z) : y = z := by
  by_cases h : Al S (xx, xy)
  · rw [hy.ok h, hz.ok h]
  · exact best_one (not_al h) (hy.no h) (hz.no h)
theorem lift_allows {xx xy : Int} {S : VSet} {y : Int × Int} (hy : LiftIs xx xy S y) : Al S y := by
  by_cases h : Al S (xx, xy)
  · rw [hy.ok h]; exact h
  · exact (hy.no h).a
theorem lift_small {xx xy : Int} {S : VSet} {y : Int × Int} (hx : Sm xx xy) (hy : LiftIs xx xy S y) : Sm y.1 y.2 := by
  by_cases h : Al S (xx, xy)
  · rw [hy.ok h]; exact hx
  · exact (hy.no h).s
theorem set_ext {S T : VSet} (h : ∀ a b, S a b ↔ T a b) : S = T := funext fun a => funext fun b => propext (h a b)
/-- The same vectors in another list. -/
theorem lift_list {xx xy : Int} {f g : Nat → Int × Int} {n m : Nat} (hx : Sm xx xy) (hf : AllSm f n) (hg : AllSm g m) (h : ∀ a b, SetOf f n a b ↔ SetOf g m a b) : liftV xx xy f n = liftV xx xy g m := by
  have h1 := lift_is (f := f) (n := n) hx hf
  rw [set_ext h] at h1
  exact lift_alone h1 (lift_is hx hg)
/-- A lifted vector is not lifted again. -/
theorem lift_twice {xx xy : Int} {f : Nat → Int × Int} {n : Nat} (hx : Sm xx xy) (hf : AllSm f n) : liftV (liftV xx xy f n).1 (liftV xx xy f n).2 f n = liftV xx xy f n := by
  have h1 := lift_is (f := f) (n := n) hx hf
  have h2 := lift_is (xx := (liftV xx xy f n).1) (xy := (liftV xx xy f n).2) (f := f) (n := n) (lift_small hx h1) hf
  exact h2.ok (lift_allows h1)
/-- It points against none. -/
theorem lift_dot {xx xy : Int} {f : Nat → Int × Int} {n : Nat} (hx : Sm xx xy) (hf : AllSm f n) {i : Nat} (hi : i < n) : 0 ≤ dotI (liftV xx xy f n).1 (liftV xx xy f n).2 (f i).1 (f i).2 :=
  lift_allows (lift_is (f := f) (n := n) hx hf) _ _ ⟨i, hi, rfl⟩
/-- Mirrored. -/
def flipP (y : Int × Int) : Int × Int := (-y.1, y.2)
def Mir (S : VSet) : VSet := fun a b => S (-a) b
theorem flip_flip (y : Int × Int) : flipP (flipP y) = y := by unfold flipP; simp
theorem mir_mir (S : VSet) : Mir (Mir S) = S := by unfold Mir; funext a b; simp
theorem dot_flip (a b c d : Int) : dotI (-a) b (-c) d = dotI a b c d := by unfold dotI; grind
theorem dot_flip' (a b c d : Int) : dotI (-a) b c d = dotI a b (-c) d := by unfold dotI; grind
theorem cross_flip (a b c d : Int) : crossI (-a) b (-c) d = -crossI a b c d := by unfold crossI; grind
theorem dist_flip (a b c d : Int) : distI (-a) b (-c) d = distI a b c d := by unfold distI; grind
theorem key_flip {xx xy : Int} {y z : Int × Int} (h : Key xx xy y z) : Key (-xx) xy (flipP y) (flipP z) := by
  unfold Key flipP at *
  dsimp only
  rw [dist_flip, dist_flip, dot_flip, dot_flip]
  exact h
theorem al_flip {S : VSet} {y : Int × Int} (h : Al S y) : Al (Mir S) (flipP y) := fun a b hs => by
  have := h _ _ hs
  unfold flipP
  dsimp only
  rw [dot_flip']
  exact this
theorem sm_flip {x y : Int} (h : Sm x y) : Sm (-x) y := by
  obtain ⟨a, b, c, d⟩ := h
  exact ⟨by omega, by omega, c, d⟩
theorem sm_flipP {y : Int × Int} (h : Sm y.1 y.2) : Sm (flipP y).1 (flipP y).2 := sm_flip h
theorem fl_neg (a c d : Int) : -a * -c / d = -cdiv (-a * c) d := by
  unfold cdiv
  rw [show -a * -c = -(-a * c) by grind, Int.neg_neg]
theorem cd_neg (a c d : Int) : cdiv (-a * -c) d = -(-a * c / d) := by
  unfold cdiv
  rw [show -(-a * -c) = -a * c by grind]
theorem same_m (a c : Int) : -a * -c = a * c := by grind
theorem cnd_flip (xx xy nx ny : Int) {j : Nat} (hj : j < 4) : ∃ i, i < 4 ∧ cnd (-xx) xy (-nx) ny j = flipP (cnd xx xy nx ny i) := by
  have h : j = 0 ∨ j = 1 ∨ j = 2 ∨ j = 3 := by omega
  rcases h with rfl | rfl | rfl | rfl
  · refine ⟨2, by decide, ?_⟩
    simp only [cnd, flipP]
    rw [cross_flip, dot_flip, fl_neg ny, same_m nx]
  · refine ⟨3, by decide, ?_⟩
    simp only [cnd, flipP]
    rw [cross_flip, dot_flip, fl_neg ny, same_m nx]
  · refine ⟨0, by decide, ?_⟩
    simp only [cnd, flipP]
    rw [cross_flip, dot_flip, cd_neg ny, same_m nx]
  · refine ⟨1, by decide, ?_⟩
    simp only [cnd, flipP]
    rw [cross_flip, dot_flip, cd_neg ny, same_m nx]
theorem cand_flip {xx xy : Int} {S : VSet} {y : Int × Int} (h : Cand xx xy S y) : Cand (-xx) xy (Mir S) (flipP y) := by
  rcases h with rfl | ⟨a, b, hs, hd, j, hj, rfl⟩
  · exact Or.inl rfl
  · obtain ⟨i, hi, e⟩ := cnd_flip (-xx) xy (-a) b hj
    rw [Int.neg_neg, Int.neg_neg] at e
    refine Or.inr ⟨-a, b, by unfold Mir; rwa [Int.neg_neg], by rwa [dot_flip], i, hi, ?_⟩
    rw [e, flip_flip]
theorem cand_back {xx xy : Int} {S : VSet} {z : Int × Int} (h : Cand (-xx) xy (Mir S) z) : Cand xx xy S (flipP z) := by
  have := cand_flip h
  rwa [Int.neg_neg, mir_mir] at this
theorem best_flip {xx xy : Int} {S : VSet} {y : Int × Int} (h : IsBest xx xy S y) : IsBest (-xx) xy (Mir S) (flipP y) := by
  refine ⟨cand_flip h.c, sm_flipP h.s, al_flip h.a, fun z hc hs ha => ?_⟩
  have ha' := al_flip ha
  rw [mir_mir] at ha'
  have := key_flip (h.m (flipP z) (cand_back hc) (sm_flipP hs) ha')
  rwa [flip_flip] at this
theorem lift_flip {xx xy : Int} {S : VSet} {y : Int × Int} (h : LiftIs xx xy S y) : LiftIs (-xx) xy (Mir S) (flipP y) := by
  have hal : Al (Mir S) (-xx, xy) → Al S (xx, xy) := fun k => by
    have := al_flip k
    rw [mir_mir] at this
    unfold flipP at this
    dsimp only at this
    rwa [Int.neg_neg] at this
  refine ⟨fun k => ?_, fun k => best_flip (h.no fun k' => k (al_flip k'))⟩
  rw [h.ok (hal k)]
  rfl
/-- The mirrored list. -/
def flipF (f : Nat → Int × Int) : Nat → Int × Int := fun i => flipP (f i)
theorem set_flip (f : Nat → Int × Int) (n : Nat) : SetOf (flipF f) n = Mir (SetOf f n) := set_ext fun a b => by
  constructor
  · rintro ⟨i, hi, e⟩
    refine ⟨i, hi, ?_⟩
    unfold flipF at e
    rw [← flip_flip (f i), e]
    rfl
  · rintro ⟨i, hi, e⟩
    refine ⟨i, hi, ?_⟩
    unfold flipF
    rw [e]
    unfold flipP
    simp
theorem allsm_flip {f : Nat → Int × Int} {n : Nat} (h : AllSm f n) : AllSm (flipF f) n := fun i hi => sm_flip (h i hi)
theorem lift_mirror {xx xy : Int} {f : Nat → Int × Int} {n : Nat} (hx : Sm xx xy) (hf : AllSm f n) : liftV (-xx) xy (flipF f) n = flipP (liftV xx xy f n) := by
  have h1 := lift_is (f := flipF f) (n := n) (sm_flip hx) (allsm_flip hf)
  rw [set_flip] at h1
  exact lift_alone h1 (lift_flip (lift_is hx hf))
/-- The list doubled and turned round. -/
def backF (f : Nat → Int × Int) (n : Nat) : Nat → Int × Int := fun i => f (n - 1 - i / 2)
theorem set_back (f : Nat → Int × Int) (n : Nat) (a b : Int) : SetOf (backF f n) (2 * n) a b ↔ SetOf f n a b := by
  constructor
  · rintro ⟨i, hi, e⟩
    exact ⟨n - 1 - i / 2, by omega, e⟩
  · rintro ⟨i, hi, e⟩
    refine ⟨2 * (n - 1 - i), by omega, ?_⟩
    unfold backF
    rw [show n - 1 - 2 * (n - 1 - i) / 2 = i by omega]
    exact e
theorem allsm_back {f : Nat → Int × Int} {n : Nat} (h : AllSm f n) : AllSm (backF f n) (2 * n) := fun i hi => h _ (by omega)
theorem lift_back {xx xy : Int} {f : Nat → Int × Int} {n : Nat} (hx : Sm xx xy) (hf : AllSm f n) : liftV xx xy (backF f n) (2 * n) = liftV xx xy f n :=
  lift_list hx (allsm_back hf) hf (set_back f n)
end VB

namespace Go.Proofs.Ytdgfmkideghhaaa
open Go.RowKit PB VB
set_option maxRecDepth 100000 in
theorem rsmall_t (x y : Int) (w : World) (h : Sm x y) : Calls Try.prog 40 #[vec x y] w fun e w' => e = .returned (.bool true) ∧ Below w.heap.size w w' := by
  obtain ⟨a, b, c, d⟩ := h
  go_enter Try.func40, Try.ntmps40
  go_wp2
  go_ret
  exact ⟨rfl, (Below.refl _ _).alloc (Nat.le_refl _) _⟩
set_option maxRecDepth 100000 in
theorem rsmall_f (x y : Int) (w : World) (h : ¬ Sm x y) : Calls Try.prog 40 #[vec x y] w fun e w' => e = .returned (.bool false) ∧ Below w.heap.size w w' := by
  by_cases h0 : -1073741824 ≤ x
  case neg =>
    clear h
    have k : decide (-1073741824 ≤ x) = false := decide_eq_false h0
    clear h0
    go_enter Try.func40, Try.ntmps40
    go_wp2
    go_ret
    exact ⟨rfl, (Below.refl _ _).alloc (Nat.le_refl _) _⟩
  by_cases h1 : x ≤ 1073741824
  case neg =>
    clear h
    have k : decide (x ≤ 1073741824) = false := decide_eq_false h1
    clear h1
    go_enter Try.func40, Try.ntmps40
    go_wp2
    go_ret
    exact ⟨rfl, (Below.refl _ _).alloc (Nat.le_refl _) _⟩
  by_cases h2 : -1073741824 ≤ y
  case neg =>
    clear h
    have k : decide (-1073741824 ≤ y) = false := decide_eq_false h2
    clear h2
    go_enter Try.func40, Try.ntmps40
    go_wp2
    go_ret
    exact ⟨rfl, (Below.refl _ _).alloc (Nat.le_refl _) _⟩
  by_cases h3 : y ≤ 1073741824
  case neg =>
    clear h
    have k : decide (y ≤ 1073741824) = false := decide_eq_false h3
    clear h3
    go_enter Try.func40, Try.ntmps40
    go_wp2
    go_ret
    exact ⟨rfl, (Below.refl _ _).alloc (Nat.le_refl _) _⟩
  case pos => exact absurd ⟨h0, h1, h2, h3⟩ h
set_option maxRecDepth 100000 in
theorem rdot_t (ax ay bx b_ : Int) (w : World) (ha : Sm ax ay) (hb : Sm bx b_) : Calls Try.prog 48 #[vec ax ay, vec bx b_] w fun e w' => e = .returned (.int .i64 (dotI ax ay bx b_)) ∧ Below w.heap.size w w' := by
  obtain ⟨h1, h1'⟩ := mul_bd ha.a ha.b hb.a hb.b
  obtain ⟨h2, h2'⟩ := mul_bd ha.c ha.d hb.c hb.d
  go_enter Try.func48, Try.ntmps48
  go_wp2_with fail
  refine (rsmall_t _ _ _ ha).mono ?_
  rintro e w1 ⟨rfl, hw1⟩
  have A1 := blk_prev hw1
  have B1 := blk_last2 hw1
  have q1 := in2 hw1
  obtain ⟨a0, a1⟩ := Blk2 A1
  obtain ⟨b0, b1⟩ := Blk2 B1
  clear hw1
  go_wp2_with fail
  refine (rsmall_t _ _ _ hb).mono ?_
  rintro e w2 ⟨rfl, hw2⟩
  obtain ⟨a2, a3⟩ := Blk2 (A1.kept hw2)
  obtain ⟨b2, b3⟩ := Blk2 (B1.kept hw2)
  clear a0 a1 b0 b1
  go_wp2_with fail
  go_ret
  exact vint_ret rfl (next q1 hw2)
set_option maxRecDepth 100000 in
theorem rdot_f (ax ay bx b_ : Int) (w : World) (h : ¬ (Sm ax ay ∧ Sm bx b_)) : Calls Try.prog 48 #[vec ax ay, vec bx b_] w fun e w' => e = .returned (.int .i64 0) ∧ Below w.heap.size w w' := by
  by_cases ha : Sm ax ay
  · have hb : ¬ Sm bx b_ := fun hb => h ⟨ha, hb⟩
    clear h
    go_enter Try.func48, Try.ntmps48
    go_wp2_with fail
    refine (rsmall_t _ _ _ ha).mono ?_
    rintro e w1 ⟨rfl, hw1⟩
    have B1 := blk_last2 hw1
    have q1 := in2 hw1
    obtain ⟨b0, b1⟩ := Blk2 B1
    clear hw1
    go_wp2_with fail
    refine (rsmall_f _ _ _ hb).mono ?_
    rintro e w2 ⟨rfl, hw2⟩
    go_wp2_with fail
    go_ret
    exact vint_ret rfl (next q1 hw2)
  · clear h
    go_enter Try.func48, Try.ntmps48
    go_wp2_with fail
    refine (rsmall_f _ _ _ ha).mono ?_
    rintro e w1 ⟨rfl, hw1⟩
    go_wp2_with fail
    go_ret
    exact vint_ret rfl (in2 hw1)
set_option maxRecDepth 100000 in
theorem rcross_t (ax ay bx b_ : Int) (w : World) (ha : Sm ax ay) (hb : Sm bx b_) : Calls Try.prog 50 #[vec ax ay, vec bx b_] w fun e w' => e = .returned (.int .i64 (crossI ax ay bx b_)) ∧ Below w.heap.size w w' := by
  obtain ⟨h1, h1'⟩ := mul_bd ha.a ha.b hb.c hb.d
  obtain ⟨h2, h2'⟩ := mul_bd ha.c ha.d hb.a hb.b
  go_enter Try.func50, Try.ntmps50
  go_wp2_with fail
  refine (rsmall_t _ _ _ ha).mono ?_
  rintro e w1 ⟨rfl, hw1⟩
  have A1 := blk_prev hw1
  have B1 := blk_last2 hw1
  have q1 := in2 hw1
  obtain ⟨a0, a1⟩ := Blk2 A1
  obtain ⟨b0, b1⟩ := Blk2 B1
  clear hw1
  go_wp2_with fail
  refine (rsmall_t _ _ _ hb).mono ?_
  rintro e w2 ⟨rfl, hw2⟩
  obtain ⟨a2, a3⟩ := Blk2 (A1.kept hw2)
  obtain ⟨b2, b3⟩ := Blk2 (B1.kept hw2)
  clear a0 a1 b0 b1
  go_wp2_with fail
  go_ret
  exact vint_ret rfl (next q1 hw2)
set_option maxRecDepth 100000 in
theorem rcross_f (ax ay bx b_ : Int) (w : World) (h : ¬ (Sm ax ay ∧ Sm bx b_)) : Calls Try.prog 50 #[vec ax ay, vec bx b_] w fun e w' => e = .returned (.int .i64 0) ∧ Below w.heap.size w w' := by
  by_cases ha : Sm ax ay
  · have hb : ¬ Sm bx b_ := fun hb => h ⟨ha, hb⟩
    clear h
    go_enter Try.func50, Try.ntmps50
    go_wp2_with fail
    refine (rsmall_t _ _ _ ha).mono ?_
    rintro e w1 ⟨rfl, hw1⟩
    have B1 := blk_last2 hw1
    have q1 := in2 hw1
    obtain ⟨b0, b1⟩ := Blk2 B1
    clear hw1
    go_wp2_with fail
    refine (rsmall_f _ _ _ hb).mono ?_
    rintro e w2 ⟨rfl, hw2⟩
    go_wp2_with fail
    go_ret
    exact vint_ret rfl (next q1 hw2)
  · clear h
    go_enter Try.func50, Try.ntmps50
    go_wp2_with fail
    refine (rsmall_f _ _ _ ha).mono ?_
    rintro e w1 ⟨rfl, hw1⟩
    go_wp2_with fail
    go_ret
    exact vint_ret rfl (in2 hw1)
end Go.Proofs.Ytdgfmkideghhaaa

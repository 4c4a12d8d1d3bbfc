/-
  Lift's result: by the set alone, mirrored with it, and not lifted again.
-/
import Derived.Test.YtejodcpigfbnpaaVBest
namespace VB
/-- What is asked of a lifted vector. -/
structure LiftIs (xx xy : Int) (S : VSet) (y : Int × Int) : Prop where
  ok : Al S (xx, xy) → y = (xx, xy)
  no : ¬ Al S (xx, xy) → IsBest xx xy S y
theorem lift_is {xx xy : Int} {f : Nat → Int × Int} {n : Nat} (hx : Sm xx xy) (hl : AllSm f n) : LiftIs xx xy (SetOf f n) (liftV xx xy f n) := by
  have e := al_set f n (xx, xy)
  have hb := best_is xx xy f n
  dsimp only at e
  unfold liftV
  rw [if_pos ⟨hx, hl⟩]
  constructor
  · intro h
    rw [if_pos (e.2 h)]
  · intro h
    rw [if_neg (fun k => h (e.1 k))]
    exact hb
theorem not_al {xx xy : Int} {S : VSet} (h : ¬ Al S (xx, xy)) : ∃ a b, S a b ∧ dotI xx xy a b < 0 := by
  apply Classical.byContradiction
  intro hn
  refine h fun a b hs => ?_
  apply Int.le_of_not_gt
  intro hd
  exact hn ⟨a, b, hs, hd⟩
theorem lift_alone {xx xy : Int} {S : VSet} {y z : Int × Int} (hy : LiftIs xx xy S y) (hz : LiftIs xx xy S z) : y = z := by
  by_cases h : Al S (xx, xy)
  · rw [hy.ok h, hz.ok h]
  · exact best_one (not_al h) (hy.no h) (hz.no h)
theorem lift_allows {xx xy : Int} {S : VSet} {y : Int × Int} (hy : LiftIs xx xy S y) : Al S y := by
  by_cases h : Al S (xx, xy)
  · rw [hy.ok h]; exact h
  · exact (hy.no h).a
theorem lift_small {xx xy : Int} {S : VSet} {y : Int × Int} (hx : Sm xx xy) (hy : LiftIs xx xy S y) : Sm y.1 y.2 := by
  by_cases h : Al S (xx, xy)
  · rw [hy.ok h]; exact hx
  · exact (hy.no h).s
theorem set_ext {S T : VSet} (h : ∀ a b, S a b ↔ T a b) : S = T := funext fun a => funext fun b => propext (h a b)
/-- The same vectors in another list. -/
theorem lift_list {xx xy : Int} {f g : Nat → Int × Int} {n m : Nat} (hx : Sm xx xy) (hf : AllSm f n) (hg : AllSm g m) (h : ∀ a b, SetOf f n a b ↔ SetOf g m a b) : liftV xx xy f n = liftV xx xy g m := by
  have h1 := lift_is (f := f) (n := n) hx hf
  rw [set_ext h] at h1
  exact lift_alone h1 (lift_is hx hg)
/-- A lifted vector is not lifted again. -/
theorem lift_twice {xx xy : Int} {f : Nat → Int × Int} {n : Nat} (hx : Sm xx xy) (hf : AllSm f n) : liftV (liftV xx xy f n).1 (liftV xx xy f n).2 f n = liftV xx xy f n := by
  have h1 := lift_is (f := f) (n := n) hx hf
  have h2 := lift_is (xx := (liftV xx xy f n).1) (xy := (liftV xx xy f n).2) (f := f) (n := n) (lift_small hx h1) hf
  exact h2.ok (lift_allows h1)
/-- It points against none. -/
theorem lift_dot {xx xy : Int} {f : Nat → Int × Int} {n : Nat} (hx : Sm xx xy) (hf : AllSm f n) {i : Nat} (hi : i < n) : 0 ≤ dotI (liftV xx xy f n).1 (liftV xx xy f n).2 (f i).1 (f i).2 :=
  lift_allows (lift_is (f := f) (n := n) hx hf) _ _ ⟨i, hi, rfl⟩
/-- Mirrored. -/
def flipP (y : Int × Int) : Int × Int := (-y.1, y.2)
def Mir (S : VSet) : VSet := fun a b => S (-a) b
theorem flip_flip (y : Int × Int) : flipP (flipP y) = y := by unfold flipP; simp
theorem mir_mir (S : VSet) : Mir (Mir S) = S := by unfold Mir; funext a b; simp
theorem dot_flip (a b c d : Int) : dotI (-a) b (-c) d = dotI a b c d := by unfold dotI; grind
theorem dot_flip' (a b c d : Int) : dotI (-a) b c d = dotI a b (-c) d := by unfold dotI; grind
theorem cross_flip (a b c d : Int) : crossI (-a) b (-c) d = -crossI a b c d := by unfold crossI; grind
theorem dist_flip (a b c d : Int) : distI (-a) b (-c) d = distI a b c d := by unfold distI; grind
theorem key_flip {xx xy : Int} {y z : Int × Int} (h : Key xx xy y z) : Key (-xx) xy (flipP y) (flipP z) := by
  unfold Key flipP at *
  dsimp only
  rw [dist_flip, dist_flip, dot_flip, dot_flip]
  exact h
theorem al_flip {S : VSet} {y : Int × Int} (h : Al S y) : Al (Mir S) (flipP y) := fun a b hs => by
  have := h _ _ hs
  unfold flipP
  dsimp only
  rw [dot_flip']
  exact this
theorem sm_flip {x y : Int} (h : Sm x y) : Sm (-x) y := by
  obtain ⟨a, b, c, d⟩ := h
  exact ⟨by omega, by omega, c, d⟩
theorem sm_flipP {y : Int × Int} (h : Sm y.1 y.2) : Sm (flipP y).1 (flipP y).2 := sm_flip h
theorem fl_neg (a c d : Int) : -a * -c / d = -cdiv (-a * c) d := by
  unfold cdiv
  rw [show -a * -c = -(-a * c) by grind, Int.neg_neg]
theorem cd_neg (a c d : Int) : cdiv (-a * -c) d = -(-a * c / d) := by
  unfold cdiv
  rw [show -(-a * -c) = -a * c by grind]
theorem same_m (a c : Int) : -a * -c = a * c := by grind
theorem cnd_flip (xx xy nx ny : Int) {j : Nat} (hj : j < 4) : ∃ i, i < 4 ∧ cnd (-xx) xy (-nx) ny j = flipP (cnd xx xy nx ny i) := by
  have h : j = 0 ∨ j = 1 ∨ j = 2 ∨ j = 3 := by omega
  rcases h with rfl | rfl | rfl | rfl
  · refine ⟨2, by decide, ?_⟩
    simp only [cnd, flipP]
    rw [cross_flip, dot_flip, fl_neg ny, same_m nx]
  · refine ⟨3, by decide, ?_⟩
    simp only [cnd, flipP]
    rw [cross_flip, dot_flip, fl_neg ny, same_m nx]
  · refine ⟨0, by decide, ?_⟩
    simp only [cnd, flipP]
    rw [cross_flip, dot_flip, cd_neg ny, same_m nx]
  · refine ⟨1, by decide, ?_⟩
    simp only [cnd, flipP]
    rw [cross_flip, dot_flip, cd_neg ny, same_m nx]
theorem cand_flip {xx xy : Int} {S : VSet} {y : Int × Int} (h : Cand xx xy S y) : Cand (-xx) xy (Mir S) (flipP y) := by
  rcases h with rfl | ⟨a, b, hs, hd, j, hj, rfl⟩
  · exact Or.inl rfl
  · obtain ⟨i, hi, e⟩ := cnd_flip (-xx) xy (-a) b hj
    rw [Int.neg_neg, Int.neg_neg] at e
    refine Or.inr ⟨-a, b, by unfold Mir; rwa [Int.neg_neg], by rwa [dot_flip], i, hi, ?_⟩
    rw [e, flip_flip]
theorem cand_back {xx xy : Int} {S : VSet} {z : Int × Int} (h : Cand (-xx) xy (Mir S) z) : Cand xx xy S (flipP z) := by
  have := cand_flip h
  rwa [Int.neg_neg, mir_mir] at this
theorem best_flip {xx xy : Int} {S : VSet} {y : Int × Int} (h : IsBest xx xy S y) : IsBest (-xx) xy (Mir S) (flipP y) := by
  refine ⟨cand_flip h.c, sm_flipP h.s, al_flip h.a, fun z hc hs ha => ?_⟩
  have ha' := al_flip ha
  rw [mir_mir] at ha'
  have := key_flip (h.m (flipP z) (cand_back hc) (sm_flipP hs) ha')
  rwa [flip_flip] at this
theorem lift_flip {xx xy : Int} {S : VSet} {y : Int × Int} (h : LiftIs xx xy S y) : LiftIs (-xx) xy (Mir S) (flipP y) := by
  have hal : Al (Mir S) (-xx, xy) → Al S (xx, xy) := fun k => by
    have := al_flip k
    rw [mir_mir] at this
    unfold flipP at this
    dsimp only at this
    rwa [Int.neg_neg] at this
  refine ⟨fun k => ?_, fun k => best_flip (h.no fun k' => k (al_flip k'))⟩
  rw [h.ok (hal k)]
  rfl
/-- The mirrored list. -/
def flipF (f : Nat → Int × Int) : Nat → Int × Int := fun i => flipP (f i)
theorem set_flip (f : Nat → Int × Int) (n : Nat) : SetOf (flipF f) n = Mir (SetOf f n) := set_ext fun a b => by
  constructor
  · rintro ⟨i, hi, e⟩
    refine ⟨i, hi, ?_⟩
    unfold flipF at e
    rw [← flip_flip (f i), e]
    rfl
  · rintro ⟨i, hi, e⟩
    refine ⟨i, hi, ?_⟩
    unfold flipF
    rw [e]
    unfold flipP
    simp
theorem allsm_flip {f : Nat → Int × Int} {n : Nat} (h : AllSm f n) : AllSm (flipF f) n := fun i hi => sm_flip (h i hi)
theorem lift_mirror {xx xy : Int} {f : Nat → Int × Int} {n : Nat} (hx : Sm xx xy) (hf : AllSm f n) : liftV (-xx) xy (flipF f) n = flipP (liftV xx xy f n) := by
  have h1 := lift_is (f := flipF f) (n := n) (sm_flip hx) (allsm_flip hf)
  rw [set_flip] at h1
  exact lift_alone h1 (lift_flip (lift_is hx hf))
/-- The list doubled and turned round. -/
def backF (f : Nat → Int × Int) (n : Nat) : Nat → Int × Int := fun i => f (n - 1 - i / 2)
theorem set_back (f : Nat → Int × Int) (n : Nat) (a b : Int) : SetOf (backF f n) (2 * n) a b ↔ SetOf f n a b := by
  constructor
  · rintro ⟨i, hi, e⟩
    exact ⟨n - 1 - i / 2, by omega, e⟩
  · rintro ⟨i, hi, e⟩
    refine ⟨2 * (n - 1 - i), by omega, ?_⟩
    unfold backF
    rw [show n - 1 - 2 * (n - 1 - i) / 2 = i by omega]
    exact e
theorem allsm_back {f : Nat → Int × Int} {n : Nat} (h : AllSm f n) : AllSm (backF f n) (2 * n) := fun i hi => h _ (by omega)
theorem lift_back {xx xy : Int} {f : Nat → Int × Int} {n : Nat} (hx : Sm xx xy) (hf : AllSm f n) : liftV xx xy (backF f n) (2 * n) = liftV xx xy f n :=
  lift_list hx (allsm_back hf) hf (set_back f n)
end VB

/-
  What the reference's Lift finds is the best, too.
  The list of the reference's candidates as a row; append of four vectors.
  The corners of the reference are the candidates: plain laws.
  integer.cut returns the slice without the zeros at its high end.
-/
import Derived.Test.YtdgfmkideghhaaaProg
import Derived.Test.YtdgfmkideghhaaaM01
import Derived.Test.YtdgfmkideghhaaaM09
import Derived.Test.YtdgfmkideghhaaaM10
import Derived.Test.YtdgfmkideghhaaaM12
namespace VB
/-- How the reference compares two candidates. -/
def betI (xx xy : Int) (y z : Int × Int) : Int :=
  if distI xx xy y.1 y.2 < distI xx xy z.1 z.2 then 1 else if distI xx xy z.1 z.2 < distI xx xy y.1 y.2 then -1 else
  if dotI y.1 y.2 y.1 y.2 < dotI z.1 z.2 z.1 z.2 then 1 else if dotI z.1 z.2 z.1 z.2 < dotI y.1 y.2 y.1 y.2 then -1 else 0
theorem bet_one {xx xy : Int} {y z : Int × Int} : betI xx xy y z = 1 ↔ ¬ Key xx xy z y := by
  unfold betI Key
  constructor
  · intro h; split at h
    · omega
    · split at h
      · omega
      · split at h
        · omega
        · split at h <;> omega
  · intro h
    split
    · rfl
    · split
      · omega
      · split
        · rfl
        · omega
theorem bet_zero {xx xy : Int} {y z : Int × Int} : betI xx xy y z = 0 ↔ Key xx xy z y ∧ Key xx xy y z := by
  unfold betI Key
  constructor
  · intro h; split at h
    · omega
    · split at h
      · omega
      · split at h
        · omega
        · split at h <;> omega
  · intro h
    split
    · omega
    · split
      · omega
      · split
        · omega
        · split <;> omega
open Classical in
/-- One candidate more. -/
noncomputable def rstep (xx xy : Int) (S : VSet) (b : (Int × Int) × Bool) (y : Int × Int) : (Int × Int) × Bool :=
  if ¬ Sm y.1 y.2 ∨ ¬ Al S y ∨ y = b.1 then b else if betI xx xy y b.1 = 1 then (y, false) else if betI xx xy y b.1 = 0 then (b.1, true) else b
/-- What is known behind some candidates. -/
structure RInv (xx xy : Int) (S : VSet) (C : Int × Int → Prop) (b : (Int × Int) × Bool) : Prop where
  c : C b.1
  s : Sm b.1.1 b.1.2
  a : Al S b.1
  m : ∀ z, C z → Sm z.1 z.2 → Al S z → Key xx xy b.1 z
  t : b.2 = true → ∃ z, C z ∧ Sm z.1 z.2 ∧ Al S z ∧ z ≠ b.1 ∧ Key xx xy z b.1
theorem rinv_step {xx xy : Int} {S : VSet} {C : Int × Int → Prop} {b : (Int × Int) × Bool} {y : Int × Int} (h : RInv xx xy S C b) : RInv xx xy S (fun u => C u ∨ u = y) (rstep xx xy S b y) := by
  unfold rstep
  by_cases h1 : ¬ Sm y.1 y.2 ∨ ¬ Al S y ∨ y = b.1
  · rw [if_pos h1]
    refine ⟨Or.inl h.c, h.s, h.a, fun z hz s a => ?_, fun ht => ?_⟩
    · rcases hz with hz | rfl
      · exact h.m z hz s a
      · rcases h1 with h1 | h1 | h1
        · exact absurd s h1
        · exact absurd a h1
        · rw [h1]; exact key_refl _ _ _
    · obtain ⟨z, hz, r⟩ := h.t ht
      exact ⟨z, Or.inl hz, r⟩
  · rw [if_neg h1]
    have hs : Sm y.1 y.2 := Classical.byContradiction fun k => h1 (Or.inl k)
    have ha : Al S y := Classical.byContradiction fun k => h1 (Or.inr (Or.inl k))
    have hne : y ≠ b.1 := fun k => h1 (Or.inr (Or.inr k))
    by_cases h2 : betI xx xy y b.1 = 1
    · rw [if_pos h2]
      have hk := bet_one.1 h2
      refine ⟨Or.inr rfl, hs, ha, fun z hz s a => ?_, fun ht => by cases ht⟩
      rcases hz with hz | rfl
      · have := h.m z hz s a
        unfold Key at *
        dsimp only
        omega
      · exact key_refl _ _ _
    · rw [if_neg h2]
      have hk : Key xx xy b.1 y := Classical.byContradiction fun k => h2 (bet_one.2 k)
      have hm : ∀ z, (C z ∨ z = y) → Sm z.1 z.2 → Al S z → Key xx xy b.1 z := fun z hz s a => by
        rcases hz with hz | rfl
        · exact h.m z hz s a
        · exact hk
      by_cases h3 : betI xx xy y b.1 = 0
      · rw [if_pos h3]
        exact ⟨Or.inl h.c, h.s, h.a, hm, fun _ => ⟨y, Or.inr rfl, hs, ha, hne, (bet_zero.1 h3).2⟩⟩
      · rw [if_neg h3]
        refine ⟨Or.inl h.c, h.s, h.a, hm, fun ht => ?_⟩
        obtain ⟨z, hz, r⟩ := h.t ht
        exact ⟨z, Or.inl hz, r⟩
theorem rinv_congr {xx xy : Int} {S : VSet} {C D : Int × Int → Prop} {b : (Int × Int) × Bool} (h : RInv xx xy S C b) (e : ∀ u, C u ↔ D u) : RInv xx xy S D b :=
  ⟨(e _).1 h.c, h.s, h.a, fun z hz => h.m z ((e z).2 hz), fun ht => by
    obtain ⟨z, hz, r⟩ := h.t ht
    exact ⟨z, (e z).1 hz, r⟩⟩
/-- All candidates in the reference's order. -/
def allL (xx xy : Int) (f : Nat → Int × Int) : Nat → List (Int × Int)
  | 0 => [(0, 0)]
  | k + 1 => if dotI xx xy (f k).1 (f k).2 < 0 then allL xx xy f k ++ [cnd xx xy (f k).1 (f k).2 0, cnd xx xy (f k).1 (f k).2 1, cnd xx xy (f k).1 (f k).2 2, cnd xx xy (f k).1 (f k).2 3] else allL xx xy f k
theorem all_cand (xx xy : Int) (f : Nat → Int × Int) : ∀ k y, y ∈ allL xx xy f k ↔ Cand xx xy (SetOf f k) y
  | 0, y => by
    unfold allL Cand
    rw [List.mem_singleton]
    refine ⟨Or.inl, fun h => ?_⟩
    rcases h with h | ⟨a, b, ⟨i, hi, _⟩, _⟩
    · exact h
    · omega
  | k + 1, y => by
    have ih := all_cand xx xy f k y
    have more : Cand xx xy (SetOf f k) y → Cand xx xy (SetOf f (k + 1)) y := fun hu => by
      rcases hu with e | ⟨a, b, ⟨i, hi, e⟩, r⟩
      · exact Or.inl e
      · exact Or.inr ⟨a, b, ⟨i, by omega, e⟩, r⟩
    unfold allL
    by_cases hd : dotI xx xy (f k).1 (f k).2 < 0
    · rw [if_pos hd, List.mem_append]
      constructor
      · rintro (h | h)
        · exact more (ih.1 h)
        · refine Or.inr ⟨(f k).1, (f k).2, ⟨k, by omega, rfl⟩, hd, ?_⟩
          simp only [List.mem_cons, List.not_mem_nil, or_false] at h
          rcases h with h | h | h | h
          · exact ⟨0, by decide, h⟩
          · exact ⟨1, by decide, h⟩
          · exact ⟨2, by decide, h⟩
          · exact ⟨3, by decide, h⟩
      · rintro (e | ⟨a, b, ⟨i, hi, e⟩, hneg, j, hj, r⟩)
        · exact Or.inl (ih.2 (Or.inl e))
        · by_cases hik : i = k
          · subst hik
            right
            rw [e]
            have h : j = 0 ∨ j = 1 ∨ j = 2 ∨ j = 3 := by omega
            rcases h with rfl | rfl | rfl | rfl <;> rw [r] <;> simp
          · exact Or.inl (ih.2 (Or.inr ⟨a, b, ⟨i, by omega, e⟩, hneg, j, hj, r⟩))
    · rw [if_neg hd]
      refine ⟨fun h => more (ih.1 h), fun h => ih.2 ?_⟩
      rcases h with e | ⟨a, b, ⟨i, hi, e⟩, hneg, r⟩
      · exact Or.inl e
      · by_cases hik : i = k
        · subst hik; rw [e] at hd; exact absurd hneg hd
        · exact Or.inr ⟨a, b, ⟨i, by omega, e⟩, hneg, r⟩
/-- The reference's loop, behind the first m of its candidates. -/
noncomputable def rloop (xx xy : Int) (S : VSet) (l : List (Int × Int)) : Nat → (Int × Int) × Bool
  | 0 => ((0, 0), false)
  | m + 1 => rstep xx xy S (rloop xx xy S l m) (l.getD m (0, 0))
theorem rloop_inv (xx xy : Int) (S : VSet) (l : List (Int × Int)) : ∀ m, m ≤ l.length → RInv xx xy S (fun u => u = (0, 0) ∨ ∃ i, i < m ∧ l.getD i (0, 0) = u) (rloop xx xy S l m)
  | 0, _ => ⟨Or.inl rfl, sm_zero, al_zero S, fun z hz _ _ => by
      rcases hz with rfl | ⟨i, hi, _⟩
      · exact key_refl _ _ _
      · omega, fun h => by cases h⟩
  | m + 1, hm => by
    refine rinv_congr (rinv_step (y := l.getD m (0, 0)) (rloop_inv xx xy S l m (by omega))) fun u => ?_
    constructor
    · rintro ((h | ⟨i, hi, e⟩) | h)
      · exact Or.inl h
      · exact Or.inr ⟨i, by omega, e⟩
      · exact Or.inr ⟨m, by omega, h.symm⟩
    · rintro (h | ⟨i, hi, e⟩)
      · exact Or.inl (Or.inl h)
      · by_cases him : i = m
        · subst him; exact Or.inr e.symm
        · exact Or.inl (Or.inr ⟨i, by omega, e⟩)
/-- At its end: the best, and no other one as good. -/
theorem rloop_best {xx xy : Int} {f : Nat → Int × Int} {n : Nat} (h : ¬ Al (SetOf f n) (xx, xy)) :
    IsBest xx xy (SetOf f n) (rloop xx xy (SetOf f n) (allL xx xy f n) (allL xx xy f n).length).1 ∧ (rloop xx xy (SetOf f n) (allL xx xy f n) (allL xx xy f n).length).2 = false := by
  have hi := rinv_congr (rloop_inv xx xy (SetOf f n) (allL xx xy f n) _ (Nat.le_refl _)) (D := Cand xx xy (SetOf f n)) fun u => by
    rw [← all_cand xx xy f n u]
    constructor
    · rintro (rfl | ⟨i, hi, e⟩)
      · exact (all_cand xx xy f n (0, 0)).2 (Or.inl rfl)
      · rw [List.getD_eq_getElem?_getD, List.getElem?_eq_getElem hi] at e
        rw [← e]
        exact List.getElem_mem _
    · intro hu
      obtain ⟨i, hi, e⟩ := List.getElem_of_mem hu
      exact Or.inr ⟨i, hi, by rw [List.getD_eq_getElem?_getD, List.getElem?_eq_getElem hi]; exact e⟩
  generalize rloop xx xy (SetOf f n) (allL xx xy f n) (allL xx xy f n).length = b at *
  have hb : IsBest xx xy (SetOf f n) b.1 := ⟨hi.c, hi.s, hi.a, hi.m⟩
  refine ⟨hb, ?_⟩
  cases ht : b.2 with
  | false => rfl
  | true =>
    obtain ⟨z, hz, s, a, hne, hk⟩ := hi.t ht
    have hzb : IsBest xx xy (SetOf f n) z := ⟨hz, s, a, fun u hu su au => key_trans hk (hi.m u hu su au)⟩
    exact absurd (best_one (not_al h) hzb hb) hne
end VB

namespace VB
open Go Go.RowKit PB
theorem all_pre (xx xy : Int) (f : Nat → Int × Int) (k : Nat) : ∀ n, k ≤ n → ∃ r, allL xx xy f n = allL xx xy f k ++ r
  | 0, h => ⟨[], by rw [show k = 0 by omega, List.append_nil]⟩
  | n + 1, h => by
    by_cases e : k = n + 1
    · exact ⟨[], by rw [e, List.append_nil]⟩
    · obtain ⟨r, hr⟩ := all_pre xx xy f k n (by omega)
      by_cases hd : dotI xx xy (f n).1 (f n).2 < 0
      · refine ⟨r ++ [cnd xx xy (f n).1 (f n).2 0, cnd xx xy (f n).1 (f n).2 1, cnd xx xy (f n).1 (f n).2 2, cnd xx xy (f n).1 (f n).2 3], ?_⟩
        show (if dotI xx xy (f n).1 (f n).2 < 0 then _ else _) = _
        rw [if_pos hd, hr, List.append_assoc]
      · refine ⟨r, ?_⟩
        show (if dotI xx xy (f n).1 (f n).2 < 0 then _ else _) = _
        rw [if_neg hd, hr]
/-- The candidates. -/
def candF (xx xy : Int) (f : Nat → Int × Int) (n i : Nat) : Int × Int := (allL xx xy f n).getD i (0, 0)
theorem cand_get {xx xy : Int} {f : Nat → Int × Int} {k n i : Nat} (hk : k ≤ n) (hi : i < (allL xx xy f k).length) : candF xx xy f n i = (allL xx xy f k).getD i (0, 0) := by
  obtain ⟨r, hr⟩ := all_pre xx xy f k n hk
  unfold candF
  rw [hr, List.getD_eq_getElem?_getD, List.getD_eq_getElem?_getD, List.getElem?_append_left hi]
theorem cand_zero (xx xy : Int) (f : Nat → Int × Int) (n : Nat) : candF xx xy f n 0 = (0, 0) := by
  rw [cand_get (Nat.zero_le n) (by unfold allL; decide)]
  rfl
theorem all_neg {xx xy : Int} {f : Nat → Int × Int} {k : Nat} (hd : dotI xx xy (f k).1 (f k).2 < 0) : allL xx xy f (k + 1) = allL xx xy f k ++ [cnd xx xy (f k).1 (f k).2 0, cnd xx xy (f k).1 (f k).2 1, cnd xx xy (f k).1 (f k).2 2, cnd xx xy (f k).1 (f k).2 3] := by
  show (if dotI xx xy (f k).1 (f k).2 < 0 then _ else _) = _
  rw [if_pos hd]
theorem all_not {xx xy : Int} {f : Nat → Int × Int} {k : Nat} (hd : ¬ dotI xx xy (f k).1 (f k).2 < 0) : allL xx xy f (k + 1) = allL xx xy f k := by
  show (if dotI xx xy (f k).1 (f k).2 < 0 then _ else _) = _
  rw [if_neg hd]
theorem all_len4 {xx xy : Int} {f : Nat → Int × Int} {k : Nat} (hd : dotI xx xy (f k).1 (f k).2 < 0) : (allL xx xy f (k + 1)).length = (allL xx xy f k).length + 4 := by
  rw [all_neg hd, List.length_append]; rfl
theorem cand_four {xx xy : Int} {f : Nat → Int × Int} {k n : Nat} (hk : k < n) (hd : dotI xx xy (f k).1 (f k).2 < 0) (j : Nat) (hj : j < 4) : candF xx xy f n ((allL xx xy f k).length + j) = cnd xx xy (f k).1 (f k).2 j := by
  rw [cand_get (k := k + 1) hk (by rw [all_len4 hd]; omega), all_neg hd, List.getD_eq_getElem?_getD, List.getElem?_append_right (by omega), Nat.add_sub_cancel_left]
  rcases (show j = 0 ∨ j = 1 ∨ j = 2 ∨ j = 3 by omega) with rfl | rfl | rfl | rfl <;> rfl
theorem all_len (xx xy : Int) (f : Nat → Int × Int) : ∀ k, (allL xx xy f k).length ≤ 4 * k + 1 ∧ 1 ≤ (allL xx xy f k).length
  | 0 => by unfold allL; decide
  | k + 1 => by
    have := all_len xx xy f k
    by_cases hd : dotI xx xy (f k).1 (f k).2 < 0
    · rw [all_len4 hd]; omega
    · rw [all_not hd]; omega
theorem OwnV.one (E : TypeId) {N : Nat} {w : World} {f : Nat → Int × Int} (hf : f 0 = (0, 0)) (hN : N ≤ w.heap.size) : OwnV E N (w.alloc (.cells #[.int .i64 0, .int .i64 0] E)) (.slice (some ⟨w.heap.size, 0, none⟩) 1 1) 1 f := by
  refine ⟨by rw [vlist_length], .inr ⟨w.heap.size, 1, #[.int .i64 0, .int .i64 0], rfl, hN, heap_made _ _, Nat.le_refl _, by decide, rfl, ?_⟩⟩
  unfold vlist vlist
  rw [hf]
  rfl
/-- 'append(own, p...)' for four vectors at a step of a region that draws its order. -/
theorem step_append_vec4 {P : Program} {w : World} {ops : Array Oper} {o : Oper} {a : Act} {K : Act → World → Prop} {Q : Exit → Act → World → Prop} {Ep : Prop} (hgd : o.guard = none) (s x : Operand) (t : TypeId)
    (ho : o.op = .call { callee := .builtin .append, args := #[s, x], argTypes := #[t, t] }) (E : TypeId) (i : TypeInfo) (ht : P.underlying t = some (.slice E)) (hi : P.info? E = some i) (hz : i.zero = some (vec 0 0)) (hsize : i.size = 2) (hby : i.bytes = 16)
    (N : Nat) (v : Value) (n : Nat) (f : Nat → Int × Int) (hs : a.eval s = v) (hown : OwnV E N w v n f) (b : Nat) (hx : a.eval x = .slice (some ⟨b, 0, none⟩) 4 4) (hb : ∀ j u, ([.int .i64 (f n).1, .int .i64 (f n).2, .int .i64 (f (n + 1)).1, .int .i64 (f (n + 1)).2, .int .i64 (f (n + 2)).1, .int .i64 (f (n + 2)).2, .int .i64 (f (n + 3)).1, .int .i64 (f (n + 3)).2] : List Value)[j]? = some u → w.cell? ((⟨b, 0, none⟩ : Addr).add j) = some u) (hn : n ≤ 1000000) (hN : N ≤ w.heap.size)
    (h : ∀ v' w', OwnV E N w' v' (n + 4) f → Below N w w' → w.grownBy w' v.ownBlock → K (a.put o.dst v') w') : if Region.wanted o (yielded ops a.tmps) = true then Oper.wp P o a w K Q else Ep := by
  have hw : Region.wanted o (yielded ops a.tmps) = true := by simp [Region.wanted, hgd]
  rw [if_pos hw]
  refine wp_append_own w s x t ho N E i (vec 0 0) 2 16 ht hi hz hsize hby rfl (by decide) v n (vlist f n) hs hown ⟨b, 0, none⟩ 4 4 [.int .i64 (f n).1, .int .i64 (f n).2, .int .i64 (f (n + 1)).1, .int .i64 (f (n + 1)).2, .int .i64 (f (n + 2)).1, .int .i64 (f (n + 2)).2, .int .i64 (f (n + 3)).1, .int .i64 (f (n + 3)).2] hx rfl hb ?_ (by unfold maxLen; omega) (by omega) hN ?_
  · intro u hu
    simp at hu
    rcases hu with rfl | rfl | rfl | rfl | rfl | rfl | rfl | rfl <;> rfl
  · intro v' w' k1 k2 _
    refine h v' w' ?_ ((Below.refl _ _).grown k2 hN (fun q hq => (World.ownsRow.lt hown q hq).1)) k2
    show w'.ownsRow N E 2 v' (n + 4) (vlist f n ++ [.int .i64 (f n).1, .int .i64 (f n).2] ++ [.int .i64 (f (n + 1)).1, .int .i64 (f (n + 1)).2] ++ [.int .i64 (f (n + 2)).1, .int .i64 (f (n + 2)).2] ++ [.int .i64 (f (n + 3)).1, .int .i64 (f (n + 3)).2])
    rw [List.append_assoc, List.append_assoc, List.append_assoc]
    exact k1
/-- What corners returns, for append. -/
theorem four_cells {w : World} {g : Nat} {F : Nat → Int × Int} {m : Nat} {a b c d : Int × Int} (h : Blk w g #[.int .i64 a.1, .int .i64 a.2, .int .i64 b.1, .int .i64 b.2, .int .i64 c.1, .int .i64 c.2, .int .i64 d.1, .int .i64 d.2]) (h0 : F m = a) (h1 : F (m + 1) = b) (h2 : F (m + 2) = c) (h3 : F (m + 3) = d) :
    ∀ j u, ([.int .i64 (F m).1, .int .i64 (F m).2, .int .i64 (F (m + 1)).1, .int .i64 (F (m + 1)).2, .int .i64 (F (m + 2)).1, .int .i64 (F (m + 2)).2, .int .i64 (F (m + 3)).1, .int .i64 (F (m + 3)).2] : List Value)[j]? = some u → w.cell? ((⟨g, 0, none⟩ : Addr).add j) = some u := by
  intro j u hj
  rw [addr0]
  rw [h0, h1, h2, h3] at hj
  exact h.cell j u (by simpa using hj)
theorem lift_zero {xx xy : Int} {f : Nat → Int × Int} {n : Nat} (h : ¬ (Sm xx xy ∧ AllSm f n)) : liftV xx xy f n = (0, 0) := by
  unfold liftV
  rw [if_neg h]
end VB

namespace VB
open PB
theorem cnd_bd {nx ny xx xy : Int} (hx : Sm xx xy) (h : dotI xx xy nx ny < 0) (j : Nat) : (-2592242075 ≤ (cnd xx xy nx ny j).1 ∧ (cnd xx xy nx ny j).1 ≤ 2592242075) ∧ (-2592242075 ≤ (cnd xx xy nx ny j).2 ∧ (cnd xx xy nx ny j).2 ≤ 2592242075) := by
  have hd := dot_self_pos h
  obtain ⟨p1, p2, p3, p4⟩ := parts_le (nx := nx) (ny := ny) (xx := xx) (xy := xy)
  have hl : dotI xx xy xx xy < 1518500250 * 1518500250 := Int.lt_of_le_of_lt (len_lt hx) (by decide)
  obtain ⟨k1, k2⟩ := side_lt (m := nx) (c := dotI xx xy nx ny) hl hd p1 p4 (by decide)
  obtain ⟨l1, l2⟩ := side_lt (m := ny) (c := dotI xx xy nx ny) hl hd p2 p4 (by decide)
  obtain ⟨⟨c1, c2⟩, c3, c4⟩ := cnd_fl (xx := xx) (xy := xy) hd j
  have e1 := split_x nx ny xx xy
  have e2 := split_y nx ny xx xy
  obtain ⟨n1, n2⟩ := near_lt hd (show xx * dotI nx ny nx ny = -ny * crossI nx ny xx xy + nx * dotI xx xy nx ny by rw [e1]; grind) c1 c2 k1 k2
  obtain ⟨n3, n4⟩ := near_lt hd (show xy * dotI nx ny nx ny = nx * crossI nx ny xx xy + ny * dotI xx xy nx ny by rw [e2]; grind) c3 c4 l1 l2
  have b1 := hx.a; have b2 := hx.b; have b3 := hx.c; have b4 := hx.d
  omega
theorem corn_a (nx ny xx xy : Int) : xx * dotI nx ny nx ny - dotI xx xy nx ny * nx = -ny * crossI nx ny xx xy := by
  have := split_x nx ny xx xy
  unfold dotI crossI; grind
theorem corn_b (nx ny xx xy : Int) : xy * dotI nx ny nx ny - dotI xx xy nx ny * ny = nx * crossI nx ny xx xy := by
  unfold dotI crossI; grind
/-- What corners reckons with. -/
structure Corn (xx xy nx ny A B D lx ly hx hy : Int) : Prop where
  ea : A = xx * D - dotI xx xy nx ny * nx
  eb : B = xy * D - dotI xx xy nx ny * ny
  ed : D = dotI nx ny nx ny
  pos : 0 < D
  elx : lx = A / D
  ely : ly = B / D
  ehx : hx = -((-A) / D)
  ehy : hy = -((-B) / D)
  c0 : cnd xx xy nx ny 0 = (lx, ly)
  c1 : cnd xx xy nx ny 1 = (lx, hy)
  c2 : cnd xx xy nx ny 2 = (hx, ly)
  c3 : cnd xx xy nx ny 3 = (hx, hy)
  blx : -2592242075 ≤ lx ∧ lx ≤ 2592242075
  bly : -2592242075 ≤ ly ∧ ly ≤ 2592242075
  bhx : -2592242075 ≤ hx ∧ hx ≤ 2592242075
  bhy : -2592242075 ≤ hy ∧ hy ≤ 2592242075
theorem corn_of {nx ny xx xy : Int} (hx : Sm xx xy) (h : dotI xx xy nx ny < 0) :
    Corn xx xy nx ny (-ny * crossI nx ny xx xy) (nx * crossI nx ny xx xy) (dotI nx ny nx ny) (-ny * crossI nx ny xx xy / dotI nx ny nx ny) (nx * crossI nx ny xx xy / dotI nx ny nx ny) (cdiv (-ny * crossI nx ny xx xy) (dotI nx ny nx ny)) (cdiv (nx * crossI nx ny xx xy) (dotI nx ny nx ny)) := by
  have b0 := cnd_bd hx h 0
  have b3 := cnd_bd hx h 3
  exact ⟨(corn_a nx ny xx xy).symm, (corn_b nx ny xx xy).symm, rfl, dot_self_pos h, rfl, rfl, rfl, rfl, rfl, rfl, rfl, rfl, b0.1, b0.2, b3.1, b3.2⟩
end VB

namespace Go.Proofs.Ytdgfmkideghhaaa
open Go.RowKit PB

theorem cut_any (base : Option Addr) (b off n c X : Nat) (w : World) (hb : n ≠ 0 → base = some ⟨b, off, none⟩) (hX : Num w b off n X) (hn : n ≤ c) (hc : n ≤ 1099511627776) :
    Calls Try.prog 75 #[.slice base n c] w fun e w' => e = .returned (.slice base (nl X) (nl X)) ∧ w = w' := by
  have hnl : nl X ≤ n := nl_le hX.lt
  have HB := Lib.hid hb
  clear hb
  go_enter Try.func75, Try.ntmps75
  go_wp2
  go_loop [3] (fun v => ∃ k : Nat, nl X ≤ k ∧ k ≤ n ∧ v = .int .i64 k) (fun v => (intOf v).toNat)
  case atStart => exact ⟨n, hnl, Nat.le_refl _, rfl⟩
  case round =>
    obtain ⟨k, hk1, hk2, rfl⟩ := hrel
    by_cases h0 : k = 0
    · subst h0
      have HX := Lib.hid (show nl X = 0 by omega)
      go_wp2
      go_ret
      exact ⟨by rw [HX.out]; rfl, rfl⟩
    · have hk0 : (0:Int) < k := by omega
      have hcell := hX.cell (i := k - 1) (by omega)
      have hI : ((k : Int) - 1).toNat = k - 1 := by omega
      have HD : nl X = k ∨ nl X < k := by omega
      obtain rfl := HB.out (by omega)
      rcases HD with HD | HD
      · have hd : ((dg X (k-1) : Int) == 0) = false := by
          have := nl_top (X := X) (by rintro rfl; rw [nl_zero] at HD; omega)
          rw [HD] at this
          simp; omega
        subst HD
        go_wp2
        go_ret
        exact ⟨rfl, rfl⟩
      · have hd : ((dg X (k-1) : Int) == 0) = true := by
          rw [dg_of_lt (lt_nl X) (by omega)]; rfl
        go_wp2
        go_round
        case rel => exact ⟨k - 1, by omega, by omega, by go_num⟩
        case measure => simp [intOf]; omega
end Go.Proofs.Ytdgfmkideghhaaa

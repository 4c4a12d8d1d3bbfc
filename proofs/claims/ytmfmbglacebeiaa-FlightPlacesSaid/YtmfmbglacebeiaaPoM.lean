/-
  Polynomials in memory: rows of numbers of any size.
-/
import Derived.Test.YtmfmbglacebeiaaZInt
import Derived.Maps.AppendAt
import Derived.Deep.AppendLies
import Derived.Deep.RegionHeld3
namespace PO
open Go Go.RowKit PB
/-- An element of a polynomial: its sign and limbs, these in block g, in canonical form. -/
def Elt (w : World) (s : Bool) (q : Option Addr) (m c g : Nat) (z : Int) : Prop :=
  ∃ off X, m = nl X ∧ (m ≠ 0 → q = some ⟨g, off, none⟩) ∧ Num w g off m X ∧ m ≤ c ∧ m ≤ 1000000000 ∧ z = sg s X ∧ (X = 0 → s = false)
theorem Elt.can {w : World} {s : Bool} {q : Option Addr} {m c g : Nat} {z : Int} {N : Nat} (h : Elt w s q m c g z) (hN : m ≠ 0 → N ≤ g) : IsCan N w (.agg #[.bool s, .slice q m c]) z := by
  obtain ⟨off, X, rfl, h1, h2, h3, h4, h5, h6⟩ := h
  exact ⟨s, q, g, off, X, c, rfl, h1, h2, h3, h4, h5, h6, hN⟩
theorem can_elt {N : Nat} {w : World} {v : Value} {z : Int} (h : IsCan N w v z) : ∃ s q m c g, v = .agg #[.bool s, .slice q m c] ∧ Elt w s q m c g z ∧ (m ≠ 0 → N ≤ g) := by
  obtain ⟨s, q, g, off, X, c, rfl, h1, h2, h3, h4, h5, h6, h7⟩ := h
  exact ⟨s, q, nl X, c, g, rfl, ⟨off, X, rfl, h1, h2, h3, h4, h5, h6⟩, h7⟩
theorem Elt.block_lt {w : World} {s : Bool} {q : Option Addr} {m c g : Nat} {z : Int} (h : Elt w s q m c g z) (hm : m ≠ 0) : g < w.heap.size := by
  obtain ⟨off, X, rfl, h1, h2, _⟩ := h
  exact h2.block_lt hm
/-- The element stays where its block stays. -/
theorem Elt.same {w w' : World} {s : Bool} {q : Option Addr} {m c g : Nat} {z : Int} (h : Elt w s q m c g z) (hb : m ≠ 0 → w'.heap[g]? = w.heap[g]?) : Elt w' s q m c g z := by
  obtain ⟨off, X, rfl, h1, h2, h3⟩ := h
  refine ⟨off, X, rfl, h1, ⟨h2.1, fun i hi => ?_⟩, h3⟩
  rw [World.cell?_of_block (w := w) (w' := w') (a := ⟨g, off + i, none⟩) (hb (by omega))]
  exact h2.2 i hi
theorem Elt.kept {w w' : World} {s : Bool} {q : Option Addr} {m c g : Nat} {z : Int} (h : Elt w s q m c g z) (hb : Below w.heap.size w w') : Elt w' s q m c g z :=
  h.same fun hm => hb.block g (h.block_lt hm)
theorem elt_zero (w : World) (g : Nat) : Elt w false none 0 0 g 0 := ⟨0, 0, by rw [nl_zero], fun h => absurd rfl h, ⟨Bp _, fun i hi => by omega⟩, Nat.le_refl _, by omega, rfl, fun _ => rfl⟩
/-- An element of a slice of numbers. -/
def PAt (w : World) (b o : Nat) (z : Int) : Prop := ∃ s q m c, w.cell? ⟨b, o, none⟩ = some (.bool s) ∧ w.cell? ⟨b, o + 1, none⟩ = some (.slice q m c) ∧ IsInt w (.agg #[.bool s, .slice q m c]) z
/-- .. in canonical form. -/
def CAt (N : Nat) (w : World) (b o : Nat) (z : Int) : Prop := ∃ s q m c, w.cell? ⟨b, o, none⟩ = some (.bool s) ∧ w.cell? ⟨b, o + 1, none⟩ = some (.slice q m c) ∧ IsCan N w (.agg #[.bool s, .slice q m c]) z
/-- A polynomial that can be read. -/
def RdP (w : World) (v : Value) (l : List Int) : Prop :=
  ∃ (base : Option Addr) (b off c : Nat), v = .slice base l.length c ∧ (l.length ≠ 0 → base = some ⟨b, off, none⟩) ∧ (l.length ≠ 0 → b < w.heap.size) ∧ l.length ≤ c ∧ ∀ j z, l[j]? = some z → PAt w b (off + j * 2) z
/-- .. whose numbers are in canonical form, made from N on. -/
def CanP (N : Nat) (w : World) (v : Value) (l : List Int) : Prop :=
  ∃ (base : Option Addr) (b off c : Nat), v = .slice base l.length c ∧ (l.length ≠ 0 → base = some ⟨b, off, none⟩) ∧ (l.length ≠ 0 → b < w.heap.size) ∧ (l.length ≠ 0 → N ≤ b) ∧ l.length ≤ c ∧ ∀ j z, l[j]? = some z → CAt N w b (off + j * 2) z
theorem CAt.pat {N : Nat} {w : World} {b o : Nat} {z : Int} (h : CAt N w b o z) : PAt w b o z := by
  obtain ⟨s, q, m, c, h1, h2, h3⟩ := h; exact ⟨s, q, m, c, h1, h2, h3.int⟩
theorem PAt.kept {w w' : World} {b o : Nat} {z : Int} (h : PAt w b o z) (hb : Below w.heap.size w w') (hlt : b < w.heap.size) : PAt w' b o z := by
  obtain ⟨s, q, m, c, h1, h2, h3⟩ := h
  exact ⟨s, q, m, c, by rw [hb.cell (p := ⟨b, _, none⟩) hlt]; exact h1, by rw [hb.cell (p := ⟨b, _, none⟩) hlt]; exact h2, h3.kept hb⟩
theorem CAt.kept {N : Nat} {w w' : World} {b o : Nat} {z : Int} (h : CAt N w b o z) (hb : Below w.heap.size w w') (hlt : b < w.heap.size) : CAt N w' b o z := by
  obtain ⟨s, q, m, c, h1, h2, h3⟩ := h
  exact ⟨s, q, m, c, by rw [hb.cell (p := ⟨b, _, none⟩) hlt]; exact h1, by rw [hb.cell (p := ⟨b, _, none⟩) hlt]; exact h2, h3.kept hb⟩
theorem CAt.mono {N N' : Nat} {w : World} {b o : Nat} {z : Int} (h : CAt N w b o z) (hN : N' ≤ N) : CAt N' w b o z := by
  obtain ⟨s, q, m, c, h1, h2, h3⟩ := h; exact ⟨s, q, m, c, h1, h2, h3.mono hN⟩
theorem CanP.rd {N : Nat} {w : World} {v : Value} {l : List Int} (h : CanP N w v l) : RdP w v l := by
  obtain ⟨base, b, off, c, h0, h1, h2, _, h3, h4⟩ := h; exact ⟨base, b, off, c, h0, h1, h2, h3, fun j z hz => (h4 j z hz).pat⟩
theorem get_ne {l : List Int} {j : Nat} {z : Int} (h : l[j]? = some z) : l.length ≠ 0 := by have := (List.getElem?_eq_some_iff.1 h).1; omega
theorem RdP.kept {w w' : World} {v : Value} {l : List Int} (h : RdP w v l) (hb : Below w.heap.size w w') : RdP w' v l := by
  obtain ⟨base, b, off, c, h0, h1, h2, h3, h4⟩ := h
  exact ⟨base, b, off, c, h0, h1, fun h => Nat.lt_of_lt_of_le (h2 h) hb.size, h3, fun j z hz => (h4 j z hz).kept hb (h2 (get_ne hz))⟩
theorem CanP.kept {N : Nat} {w w' : World} {v : Value} {l : List Int} (h : CanP N w v l) (hb : Below w.heap.size w w') : CanP N w' v l := by
  obtain ⟨base, b, off, c, h0, h1, h2, hN, h3, h4⟩ := h
  exact ⟨base, b, off, c, h0, h1, fun h => Nat.lt_of_lt_of_le (h2 h) hb.size, hN, h3, fun j z hz => (h4 j z hz).kept hb (h2 (get_ne hz))⟩
theorem CanP.mono {N N' : Nat} {w : World} {v : Value} {l : List Int} (h : CanP N w v l) (hN : N' ≤ N) : CanP N' w v l := by
  obtain ⟨base, b, off, c, h0, h1, h2, h5, h3, h4⟩ := h
  exact ⟨base, b, off, c, h0, h1, h2, fun h => Nat.le_trans hN (h5 h), h3, fun j z hz => (h4 j z hz).mono hN⟩
theorem canp_nil (N : Nat) (w : World) : CanP N w (.slice none 0 0) [] :=
  ⟨none, 0, 0, 0, rfl, fun h => absurd rfl h, fun h => absurd rfl h, fun h => absurd rfl h, Nat.le_refl _, fun j z hz => by simp at hz⟩
/-- How many coefficients stay when zeros at the high end are left out. -/
def trimTo (f : Nat → Int) : Nat → Nat
  | 0 => 0
  | n + 1 => if f n = 0 then trimTo f n else n + 1
theorem trimTo_le (f : Nat → Int) : ∀ n, trimTo f n ≤ n
  | 0 => Nat.le_refl _
  | n + 1 => by unfold trimTo; have := trimTo_le f n; split <;> omega
theorem trimTo_zero (f : Nat → Int) : ∀ n i, trimTo f n ≤ i → i < n → f i = 0
  | 0, i, _, h => by omega
  | n + 1, i, h1, h2 => by
    unfold trimTo at h1
    split at h1
    · rename_i h0
      by_cases e : i = n
      · rw [e]; exact h0
      · exact trimTo_zero f n i h1 (by omega)
    · omega
theorem trimTo_top (f : Nat → Int) : ∀ n, trimTo f n ≠ 0 → f (trimTo f n - 1) ≠ 0
  | 0, h => by exact absurd rfl h
  | n + 1, h => by
    unfold trimTo at h ⊢
    split
    · rename_i h0; rw [if_pos h0] at h; exact trimTo_top f n h
    · rename_i h0; simpa using h0
theorem trimTo_congr {f g : Nat → Int} : ∀ n, (∀ i, i < n → f i = g i) → trimTo f n = trimTo g n
  | 0, _ => rfl
  | n + 1, h => by unfold trimTo; rw [h n (by omega), trimTo_congr n (fun i hi => h i (by omega))]
def at0 (l : List Int) (i : Nat) : Int := l.getD i 0
theorem at0_of {l : List Int} {i : Nat} {z : Int} (h : l[i]? = some z) : at0 l i = z := by unfold at0; rw [List.getD_eq_getElem?_getD, h]; rfl
theorem at0_lt {l : List Int} {i : Nat} (h : i < l.length) : l[i]? = some (at0 l i) := by unfold at0; simp [List.getD_eq_getElem?_getD, h]
theorem at0_ge {l : List Int} {i : Nat} (h : l.length ≤ i) : at0 l i = 0 := by unfold at0; simp [List.getD_eq_getElem?_getD, List.getElem?_eq_none h]
def trimN (l : List Int) : Nat := trimTo (at0 l) l.length
def trimL (l : List Int) : List Int := l.take (trimN l)
theorem trimN_le (l : List Int) : trimN l ≤ l.length := trimTo_le _ _
theorem trimL_length (l : List Int) : (trimL l).length = trimN l := by unfold trimL; rw [List.length_take]; have := trimN_le l; omega
theorem trimL_get {l : List Int} {j : Nat} {z : Int} (h : (trimL l)[j]? = some z) : l[j]? = some z ∧ j < trimN l := by
  have hl := (List.getElem?_eq_some_iff.1 h).1
  rw [trimL_length] at hl
  unfold trimL at h
  rw [List.getElem?_take_of_lt hl] at h
  exact ⟨h, hl⟩
theorem trimL_at0 (l : List Int) (i : Nat) : at0 (trimL l) i = at0 l i := by
  by_cases h : i < trimN l
  · have h1 := at0_lt (l := trimL l) (i := i) (by rw [trimL_length]; exact h)
    exact (at0_of (trimL_get h1).1).symm
  · rw [at0_ge (by rw [trimL_length]; omega)]
    by_cases h2 : i < l.length
    · exact (trimTo_zero (at0 l) l.length i (by unfold trimN at h; omega) h2).symm
    · rw [at0_ge (by omega)]
/-- Without zeros at the high end. -/
def Slim (l : List Int) : Prop := trimN l = l.length
theorem Slim.trim {l : List Int} (h : Slim l) : trimL l = l := by unfold trimL; rw [h]; exact List.take_length
theorem slim_trim (l : List Int) : Slim (trimL l) := by
  unfold Slim
  rw [trimL_length]
  unfold trimN
  rw [trimL_length, trimTo_congr (g := at0 l) _ (fun i _ => trimL_at0 l i)]
  have key : ∀ (f : Nat → Int) n, trimTo f (trimTo f n) = trimTo f n := by
    intro f n
    induction n with
    | zero => rfl
    | succ n ih =>
      by_cases h : f n = 0
      · have e : trimTo f (n + 1) = trimTo f n := by show (if f n = 0 then trimTo f n else n + 1) = _; rw [if_pos h]
        rw [e, ih]
      · have e : trimTo f (n + 1) = n + 1 := by show (if f n = 0 then trimTo f n else n + 1) = _; rw [if_neg h]
        rw [e, e]
  exact key (at0 l) l.length
theorem trimL_idem (l : List Int) : trimL (trimL l) = trimL l := (slim_trim l).trim
/-- A slice of ints. -/
def RdI (w : World) (v : Value) (l : List Int) : Prop :=
  ∃ (base : Option Addr) (b off c : Nat), v = .slice base l.length c ∧ (l.length ≠ 0 → base = some ⟨b, off, none⟩) ∧ (l.length ≠ 0 → b < w.heap.size) ∧ ∀ j z, l[j]? = some z → w.cell? ⟨b, off + j, none⟩ = some (.int .i64 z)
theorem RdI.kept {w w' : World} {v : Value} {l : List Int} (h : RdI w v l) (hb : Below w.heap.size w w') : RdI w' v l := by
  obtain ⟨base, b, off, c, h0, h1, h2, h4⟩ := h
  exact ⟨base, b, off, c, h0, h1, fun h => Nat.lt_of_lt_of_le (h2 h) hb.size, fun j z hz => by rw [hb.cell (p := ⟨b, _, none⟩) (h2 (get_ne hz))]; exact h4 j z hz⟩
end PO

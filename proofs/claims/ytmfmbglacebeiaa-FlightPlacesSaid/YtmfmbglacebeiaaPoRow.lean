/-
  Rows of numbers that are made at once and written in place.
-/
import Derived.Test.YtmfmbglacebeiaaPoTrim
namespace PO
open Go Go.RowKit PB
/-- A row of n numbers, none of its cells frozen, all limbs in newer blocks. -/
def PRow (w : World) (R n : Nat) (f : Nat → Int) : Prop :=
  R < w.heap.size ∧ ∀ i, i < n → ∃ s q m c, (w.cell? ⟨R, i * 2, none⟩ = some (.bool s) ∧ w.cell? ⟨R, i * 2 + 1, none⟩ = some (.slice q m c)) ∧ (w.frozen? ⟨R, i * 2, none⟩ = false ∧ w.frozen? ⟨R, i * 2 + 1, none⟩ = false) ∧ IsCan (R + 1) w (.agg #[.bool s, .slice q m c]) (f i)
theorem PRow.kept {w w' : World} {R n : Nat} {f : Nat → Int} (h : PRow w R n f) (hb : Below w.heap.size w w') : PRow w' R n f := by
  refine ⟨Nat.lt_of_lt_of_le h.1 hb.size, fun i hi => ?_⟩
  obtain ⟨s, q, m, c, ⟨h1, h2⟩, ⟨h3, h4⟩, h5⟩ := h.2 i hi
  refine ⟨s, q, m, c, ⟨by rw [hb.cell (p := ⟨R, _, none⟩) h.1]; exact h1, by rw [hb.cell (p := ⟨R, _, none⟩) h.1]; exact h2⟩, ⟨?_, ?_⟩, h5.kept hb⟩
  · have := hb.block R h.1; unfold World.frozen? at h3 ⊢; dsimp only at h3 ⊢; rw [this]; exact h3
  · have := hb.block R h.1; unfold World.frozen? at h4 ⊢; dsimp only at h4 ⊢; rw [this]; exact h4
theorem PRow.congr {w : World} {R n : Nat} {f g : Nat → Int} (h : PRow w R n f) (e : ∀ i, i < n → f i = g i) : PRow w R n g :=
  ⟨h.1, fun i hi => by rw [← e i hi]; exact h.2 i hi⟩
theorem cell_set_off {w : World} {R i j : Nat} {u v : Value} (h : w.cell? ⟨R, i, none⟩ = some u) (hne : i ≠ j) : (w.setCell ⟨R, j, none⟩ v).cell? ⟨R, i, none⟩ = some u := by
  unfold World.cell? World.setCell at *
  simp only [Array.getElem?_modify] at h ⊢
  simp only [if_true]
  cases hb : w.heap[R]? with
  | none => rw [hb] at h; cases h
  | some o =>
    rw [hb] at h
    cases o with
    | cells c t fr =>
      simp only [Option.map_some, Option.isSome_none, Bool.false_eq_true, if_false] at h ⊢
      rw [Array.getElem?_setIfInBounds_ne (Ne.symm hne)]
      exact h
    | _ => cases h
theorem PRow.set {w : World} {R n : Nat} {f : Nat → Int} (h : PRow w R n f) {k : Nat} (hk : k < n) {s : Bool} {q : Option Addr} {m c : Nat} {z : Int} (hz : IsCan (R + 1) w (.agg #[.bool s, .slice q m c]) z) :
    PRow ((w.setCell ⟨R, k * 2, none⟩ (.bool s)).setCell ⟨R, k * 2 + 1, none⟩ (.slice q m c)) R n (fun i => if i = k then z else f i) := by
  refine ⟨by simpa using h.1, fun i hi => ?_⟩
  obtain ⟨s0, q0, m0, c0, ⟨h1, h2⟩, ⟨h3, h4⟩, h5⟩ := h.2 i hi
  have fr : ∀ (p : Addr), ((w.setCell ⟨R, k * 2, none⟩ (.bool s)).setCell ⟨R, k * 2 + 1, none⟩ (.slice q m c)).frozen? p = w.frozen? p := fun p => by rw [frozen_setCell, frozen_setCell]
  have can : ∀ {v : Value} {y : Int}, IsCan (R + 1) w v y → IsCan (R + 1) ((w.setCell ⟨R, k * 2, none⟩ (.bool s)).setCell ⟨R, k * 2 + 1, none⟩ (.slice q m c)) v y := fun hc => (hc.set (Nat.lt_succ_self R) _).set (Nat.lt_succ_self R) _
  by_cases e : i = k
  · subst e
    refine ⟨s, q, m, c, ⟨?_, ?_⟩, ⟨by rw [fr]; exact h3, by rw [fr]; exact h4⟩, by show IsCan _ _ _ (if i = i then z else f i); rw [if_pos rfl]; exact can hz⟩
    · exact cell_set_off (World.cell?_setCell_same _ _ _ h1) (by omega)
    · exact World.cell?_setCell_same _ _ _ (cell_set_off h2 (by omega))
  · refine ⟨s0, q0, m0, c0, ⟨?_, ?_⟩, ⟨by rw [fr]; exact h3, by rw [fr]; exact h4⟩, by show IsCan _ _ _ (if i = k then z else f i); rw [if_neg e]; exact can h5⟩
    · exact cell_set_off (cell_set_off h1 (by omega)) (by omega)
    · exact cell_set_off (cell_set_off h2 (by omega)) (by omega)
theorem PRow.can {w : World} {R N : Nat} {l : List Int} {f : Nat → Int} (h : PRow w R l.length f) (hf : ∀ i, i < l.length → l[i]? = some (f i)) (hN : N ≤ R) : CanP N w (.slice (some ⟨R, 0, none⟩) l.length l.length) l := by
  refine ⟨_, R, 0, _, rfl, fun _ => rfl, fun _ => h.1, fun _ => hN, Nat.le_refl _, fun j z hz => ?_⟩
  have hj := (List.getElem?_eq_some_iff.1 hz).1
  obtain rfl : f j = z := by have := hf j hj; rw [hz] at this; exact (Option.some.inj this).symm
  obtain ⟨s, q, m, c, ⟨h1, h2⟩, -, h5⟩ := h.2 j hj
  rw [Nat.zero_add]
  exact ⟨s, q, m, c, h1, h2, h5.mono (by omega)⟩
theorem CanP.take {N : Nat} {w : World} {base : Option Addr} {n c : Nat} {l : List Int} (h : CanP N w (.slice base n c) l) {t : Nat} (ht : t ≤ l.length) : CanP N w (.slice base t c) (l.take t) := by
  obtain ⟨base', b, off, c', e, hb, hlt, hN, hc, hE⟩ := h
  simp only [Value.slice.injEq] at e
  obtain ⟨rfl, rfl, rfl⟩ := e
  have hl : (l.take t).length = t := by rw [List.length_take]; omega
  refine ⟨base, b, off, c, by rw [hl], fun h => hb (by omega), fun h => hlt (by omega), fun h => hN (by omega), by omega, fun j z hz => ?_⟩
  have hj := (List.getElem?_eq_some_iff.1 hz).1
  rw [List.getElem?_take_of_lt (by omega)] at hz
  exact hE j z hz
theorem prow_made (w : World) (n : Nat) (E : TypeId) : PRow (w.alloc (.cells (madeCells #[.bool false, .slice none 0 0] (n * 2)) E)) w.heap.size n (fun _ => 0) := by
  refine ⟨by simp, fun i hi => ⟨false, none, 0, 0, ⟨cell_new _ _ _ _ _ _ rfl ?_, cell_new _ _ _ _ _ _ rfl ?_⟩, ⟨free_new _ _ _ _ _ rfl, free_new _ _ _ _ _ rfl⟩, ?_⟩⟩
  · have h1 : i * 2 < n * 2 := by omega
    simp [madeCells, h1]
  · have h1 : i * 2 + 1 < n * 2 := by omega
    have h2 : (i * 2 + 1) % 2 = 1 := by omega
    simp [madeCells, h1, h2]
  · exact ⟨false, none, 0, 0, 0, 0, by rw [nl_zero], fun h => absurd nl_zero h, ⟨Bp _, fun i hi => by rw [nl_zero] at hi; omega⟩, by rw [nl_zero]; omega, by rw [nl_zero]; omega, rfl, fun _ => rfl, fun h => absurd nl_zero h⟩
/-- 'make(api.Poly, n)'. -/
theorem wpList_make_elts {P : Program} (w : World) {ops : Array Oper} {rest : List Oper} {o : Oper} {a : Act} {Q : Exit → Act → World → Prop}
    (hg : o.guard = none) (l c : Operand) (t : TypeId) (hop : o.op = Op.makeSlice t l c)
    (e : TypeId) (i : TypeInfo) (h1 : P.underlying t = some (.slice e)) (h2 : P.info? e = some i) (hz : i.zero = some (.agg #[.bool false, .slice none 0 0])) (hs : i.size = 2) (hb : i.bytes = 32)
    (kl kc : IntKind) (L C : Int) (n : Nat) (hl : a.eval l = .int kl L) (hc : a.eval c = .int kc C) (hL : L = n) (hC : C = n) (hn : n ≤ 1000000)
    (hK : ∀ w', Below w.heap.size w w' → w'.heap.size = w.heap.size + 1 → PRow w' w.heap.size n (fun _ => 0) → wpList P ops Q rest (a.put o.dst (.slice (some ⟨w.heap.size, 0, none⟩) n n)) w') :
    wpList P ops Q (o :: rest) a w := by
  subst hL
  subst hC
  refine wpList_plain hg fun K hK' => ?_
  have hrun := run_make (P := P) w t e i (.agg #[.bool false, .slice none 0 0]) h1 h2 hz kl kc n n (by omega) (by omega) (by rw [hb]; omega) (by omega)
  rw [hs] at hrun
  simp only [Int.toNat_natCast] at hrun
  unfold Oper.wp
  simp [execOp, hop, hl, hc, Result.andThen]
  rw [hrun]
  exact hK' _ _ (hK _ ((Below.refl _ _).alloc (Nat.le_refl _) _) (by simp) (prow_made w n e))
end PO

/-
  slices.Reverse of bytes, in place.
-/
import Derived.Test.YteggfjahjanabaaShorten
import Derived.BigRegion
namespace PB
open Go Go.RowKit
/-- The first m cells of block q hold these bytes. -/
def Byt (w : World) (q m : Nat) (f : Nat → Nat) : Prop := ∀ t, t < m → w.cell? ⟨q, t, none⟩ = some (.int .u8 (f t)) ∧ w.frozen? ⟨q, t, none⟩ = false
/-- Places below i and above j have been exchanged. -/
def half (m i j : Nat) (f : Nat → Nat) (t : Nat) : Nat := if t < i ∨ j < t then f (m - 1 - t) else f t
def halfI (m i : Nat) (j : Int) (f : Nat → Nat) (t : Nat) : Nat := if (t : Int) < i ∨ j < t then f (m - 1 - t) else f t
theorem halfI_nat (m i j : Nat) (f : Nat → Nat) : halfI m i j f = half m i j f := by
  funext t
  unfold halfI half
  by_cases h2 : t < i ∨ j < t
  · rw [if_pos (by omega), if_pos h2]
  · rw [if_neg (by omega), if_neg h2]
theorem halfI_start (m : Nat) (f : Nat → Nat) (t : Nat) (h : t < m) : halfI m 0 ((m : Int) - 1) f t = f t := by
  unfold halfI; rw [if_neg (by omega)]
theorem halfI_end {m i : Nat} {j : Int} (f : Nat → Nat) (h : (i : Int) + j = (m : Int) - 1) (h2 : ¬ (i : Int) < j) (t : Nat) (ht : t < m) : halfI m i j f t = f (m - 1 - t) := by
  unfold halfI
  by_cases h3 : (t : Int) < i ∨ j < t
  · rw [if_pos h3]
  · rw [if_neg h3, show m - 1 - t = t by omega]
theorem cell_set_same {w : World} {q i : Nat} {u v : Value} (h : w.cell? ⟨q, i, none⟩ = some u) : (w.setCell ⟨q, i, none⟩ v).cell? ⟨q, i, none⟩ = some v := by
  unfold World.cell? World.setCell at *
  simp only [Array.getElem?_modify, if_true]
  cases hb : w.heap[q]? with
  | none => rw [hb] at h; cases h
  | some o =>
    rw [hb] at h
    cases o with
    | cells c t fr =>
      simp only [Option.isSome_none, Bool.false_eq_true, if_false, Option.map_some] at h ⊢
      have hlt := (Array.getElem?_eq_some_iff.1 h).1
      rw [Array.getElem?_setIfInBounds]
      simp [hlt]
    | _ => cases h
theorem cell_set_ne {w : World} {q i j : Nat} {v : Value} (hne : i ≠ j) : (w.setCell ⟨q, i, none⟩ v).cell? ⟨q, j, none⟩ = w.cell? ⟨q, j, none⟩ :=
  (wr_setCell w q i v (Nat.le_refl i) (Nat.lt_succ_self i)).cell j (by omega)
theorem byt_swap {w : World} {q m i j : Nat} {f : Nat → Nat} (h : Byt w q m (half m i j f)) (hi : i < j) (hj : j < m) (hij : i + j = m - 1) :
    Byt ((w.setCell ⟨q, i, none⟩ (.int .u8 (f j))).setCell ⟨q, j, none⟩ (.int .u8 (f i))) q m (half m (i+1) (j-1) f) := by
  intro t ht
  refine ⟨?_, by rw [frozen_setCell, frozen_setCell]; exact (h t ht).2⟩
  by_cases e1 : t = j
  · subst e1
    have h0 : (w.setCell ⟨q, i, none⟩ (.int .u8 (f t))).cell? ⟨q, t, none⟩ = _ := (cell_set_ne (by omega)).trans (h t ht).1
    rw [cell_set_same h0]
    unfold half
    rw [if_pos (by omega), show m - 1 - t = i by omega]
  · rw [cell_set_ne (by omega)]
    by_cases e2 : t = i
    · subst e2
      rw [cell_set_same (h t ht).1]
      unfold half
      rw [if_pos (by omega), show m - 1 - t = j by omega]
    · rw [cell_set_ne (by omega), (h t ht).1]
      unfold half
      by_cases h3 : t < i ∨ j < t
      · rw [if_pos h3, if_pos (by omega)]
      · rw [if_neg h3, if_neg (by omega)]
end PB
namespace Go.Proofs.Yteggfjahjanabaa
open Go.RowKit PB

set_option maxHeartbeats 1600000 in
set_option maxRecDepth 100000 in
theorem reverse_any (q m c : Nat) (f : Nat → Nat) (w : World) (h : Byt w q m f) (hm : m ≤ 1000000) :
    Calls Try.prog 75 #[.slice (some ⟨q, 0, none⟩) m c] w fun e w' => e = .returned (.tuple #[]) ∧ Byt w' q m (fun t => f (m - 1 - t)) ∧ Wr w w' q 0 m := by
  go_enter Try.func75, Try.ntmps75
  go_wp2_with fail
  go_loopw [2, 3] (fun a b wr => ∃ (i : Nat) (j : Int), 0 ≤ j + 1 ∧ (i : Int) + j = (m : Int) - 1 ∧ (i : Int) ≤ j + 2 ∧ a = .int .i64 i ∧ b = .int .i64 j ∧ (Hid (Byt wr q m (halfI m i j f))) ∧ Wr w wr q 0 m) (fun a b _ => (intOf b + 1 - intOf a).toNat)
  case atStart =>
    refine ⟨0, (m : Int) - 1, by omega, by omega, by omega, rfl, rfl, Lib.hid ?_, Wr.refl _ _ _ _⟩
    intro t ht
    have h1 := h t ht
    rw [← halfI_start m f t ht] at h1; exact h1
  case round =>
    obtain ⟨i, j, hj0, hij, hij2, rfl, rfl, hB, hw⟩ := hrel
    by_cases hlt : (i : Int) < j
    · obtain ⟨jn, rfl⟩ := Int.eq_ofNat_of_zero_le (show 0 ≤ j by omega)
      have hjm : jn < m := by omega
      have hBB := hB.out
      have hhalf : Byt wr q m (half m i jn f) := halfI_nat m i jn f ▸ hBB
      have ci := (hhalf i (by omega)).1
      have cj := (hhalf jn hjm).1
      have gi := (hhalf i (by omega)).2
      have gj := (hhalf jn hjm).2
      rw [show half m i jn f i = f i by unfold half; rw [if_neg (by omega)]] at ci
      rw [show half m i jn f jn = f jn by unfold half; rw [if_neg (by omega)]] at cj
      have HH := Lib.hid hhalf
      have i1 : (i : Int) < m := by omega
      have i2 : (jn : Int) < m := by omega
      have i3 : (0 : Int) ≤ i := by omega
      have i4 : (0 : Int) ≤ jn := by omega
      have HIJ := Lib.hid hij
      have hne : i ≠ jn := by omega
      clear hB hBB hhalf hij h
      go_wp2_with fail
      go_region
      go_wp2_with fail
      go_roundw
      case rel =>
        have hwA := hw.trans (wr_setCell wr q i (.int .u8 (f jn)) (Nat.zero_le i) (show i < m by omega))
        have hwB := hwA.trans (wr_setCell (wr.setCell ⟨q, i, none⟩ (.int .u8 (f jn))) q jn (.int .u8 (f i)) (Nat.zero_le jn) hjm)
        have hS := byt_swap HH.out (by omega) hjm (by have := HIJ.out; omega)
        refine ⟨i + 1, (jn : Int) - 1, by omega, by have := HIJ.out; omega, by omega, by go_num, rfl, Lib.hid ?_, hwB.drew⟩
        have e : ((jn : Int) - 1) = ((jn - 1 : Nat) : Int) := by omega
        rw [e, halfI_nat]
        exact hS
      case measure => simp only [intOf]; omega
    · have hB2 := hB.out
      have HQ := Lib.hid (show Byt wr q m (fun t => f (m - 1 - t)) from fun t ht => by have h1 := hB2 t ht; rw [halfI_end f hij hlt t ht] at h1; exact h1)
      clear hB hB2
      go_wp2_with fail
      go_end0
      exact ⟨rfl, HQ.out, hw⟩
end Go.Proofs.Yteggfjahjanabaa

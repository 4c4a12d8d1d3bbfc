/-
  Runes, and the length of a name.
-/
import Derived.Test.YtialbhllnhkkeaaDoorScSpec
import Derived.Test.YtialbhllnhkkeaaDoorScShelf
import Derived.WalkKit
import Derived.BigCall
import Derived.Lib.OthersKept
namespace SC
open Go Go.RowKit
theorem dec_facts (s : ByteArray) (pos : Nat) (h : pos < s.size) :
    ((97 ≤ ((Utf8.decode s pos).1 : Int) ∧ ((Utf8.decode s pos).1 : Int) ≤ 122) ↔ ltr (s[pos]'h) = true) ∧ ((48 ≤ ((Utf8.decode s pos).1 : Int) ∧ ((Utf8.decode s pos).1 : Int) ≤ 57) ↔ dgt (s[pos]'h) = true) ∧ (lod (s[pos]'h) = true → Utf8.decode s pos = ((s[pos]'h).toNat, 1)) := by
  by_cases ha : (s[pos]'h).toNat < 128
  · have hd := Go.decode_ascii s pos h ha
    rw [hd]
    refine ⟨?_, ?_, fun _ => rfl⟩
    · simp [ltr]; omega
    · simp [dgt]; omega
  · have hd := Go.decode_high s pos h (by omega)
    have h1 := hd.1
    refine ⟨?_, ?_, fun hl => ?_⟩
    · simp [ltr]; omega
    · simp [dgt]; omega
    · simp [lod, ltr, dgt] at hl; omega
theorem drop_cons (s : ByteArray) (pos : Nat) (h : pos < s.size) : s.data.toList.drop pos = (s[pos]'h) :: s.data.toList.drop (pos + 1) := by
  rw [List.drop_eq_getElem_cons (by simpa using h)]; rfl
/-- What is left to be counted of a name. -/
def NameAt (l : List UInt8) (pos : Nat) : Prop := nameLen l = if pos = 0 then nameLen l else pos + span lod (l.drop pos)
theorem nameAt_zero (l : List UInt8) : NameAt l 0 := (if_pos rfl).symm
theorem nameAt_next {s : ByteArray} {pos : Nat} (h : pos < s.size) (ha : NameAt s.data.toList pos) (hb : ltr (s[pos]'h) = true ∨ pos ≠ 0 ∧ dgt (s[pos]'h) = true) : NameAt s.data.toList (pos + 1) := by
  have hc := drop_cons s pos h
  unfold NameAt at *
  rw [if_neg (by omega)]
  by_cases h0 : pos = 0
  · subst h0
    rw [List.drop_zero] at hc
    rw [hc]
    have hl : ltr (s[0]'h) = true := by rcases hb with h | h; exact h; exact absurd rfl h.1
    show (if ltr (s[0]'h) = true then span lod (List.drop (0 + 1) s.data.toList) + 1 else 0) = _
    rw [if_pos hl]
    simp only [List.drop_succ_cons, List.drop_zero, Nat.zero_add]
    omega
  · rw [if_neg h0, hc] at ha
    rw [ha]
    have hl : lod (s[pos]'h) = true := by
      unfold lod; rcases hb with h | h
      · simp [h]
      · simp [h.2]
    show pos + (if lod (s[pos]'h) = true then span lod (List.drop (pos + 1) s.data.toList) + 1 else 0) = _
    rw [if_pos hl]
    omega
theorem nameAt_stop {s : ByteArray} {pos : Nat} (h : pos < s.size) (ha : NameAt s.data.toList pos) (h1 : ltr (s[pos]'h) = false) (h2 : pos = 0 ∨ dgt (s[pos]'h) = false) : nameLen s.data.toList = pos := by
  have hc := drop_cons s pos h
  unfold NameAt at ha
  by_cases h0 : pos = 0
  · subst h0
    rw [List.drop_zero] at hc
    rw [hc]
    show (if ltr (s[0]'h) = true then _ else 0) = 0
    rw [h1, if_neg Bool.false_ne_true]
  · rw [if_neg h0, hc] at ha
    rw [ha]
    have hl : lod (s[pos]'h) = false := by
      unfold lod; rcases h2 with h | h
      · exact absurd h h0
      · simp [h, h1]
    show pos + (if lod (s[pos]'h) = true then _ else 0) = pos
    rw [hl, if_neg Bool.false_ne_true]
    omega
theorem nameAt_end {s : ByteArray} {pos : Nat} (h : ¬ pos < s.size) (hp : pos ≤ s.size) (ha : NameAt s.data.toList pos) : nameLen s.data.toList = s.size := by
  have hl : s.data.toList.length = s.size := by simp
  unfold NameAt at ha
  by_cases h0 : pos = 0
  · have hn : s.data.toList = [] := List.eq_nil_of_length_eq_zero (by omega)
    rw [hn] at hl ⊢; exact hl
  · rw [if_neg h0, List.drop_eq_nil_of_le (by omega)] at ha
    rw [ha]; show pos + 0 = _; omega
end SC
namespace Go.Proofs.YtialbhllnhkkeaaDoor
open Go.RowKit SC
set_option maxHeartbeats 400000 in
theorem letter_any (r : Int) (w : World) : Calls Tryd.prog 32 #[.int .i32 r] w fun e w' => e = .returned (.bool (decide (97 ≤ r) && decide (r ≤ 122))) ∧ w = w' := by
  go_enter Tryd.func32, Tryd.ntmps32
  go_wp2
  all_goals (go_ret; exact ⟨congrArg (fun b => Ending.returned (.bool b)) (by simp; omega), rfl⟩)
set_option maxHeartbeats 400000 in
theorem digit_any (r : Int) (w : World) : Calls Tryd.prog 33 #[.int .i32 r] w fun e w' => e = .returned (.bool (decide (48 ≤ r) && decide (r ≤ 57))) ∧ w = w' := by
  go_enter Tryd.func33, Tryd.ntmps33
  go_wp2
  all_goals (go_ret; exact ⟨congrArg (fun b => Ending.returned (.bool b)) (by simp; omega), rfl⟩)
end Go.Proofs.YtialbhllnhkkeaaDoor

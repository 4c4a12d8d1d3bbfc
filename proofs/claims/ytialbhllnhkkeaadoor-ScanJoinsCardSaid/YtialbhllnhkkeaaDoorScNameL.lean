/-
  The length of the name at the beginning of a text.
-/
import Derived.Test.YtialbhllnhkkeaaDoorScName
namespace Go.Proofs.YtialbhllnhkkeaaDoor
open Go.RowKit SC
set_option maxHeartbeats 1000000 in
theorem nameLength_any (s : ByteArray) (w : World) (_hs : s.size ≤ 9223372036854775807) :
    Calls Tryd.prog 18 #[.string s] w fun e w' => e = .returned (.int .i64 (nameLen s.data.toList)) ∧ Below w.heap.size w w' := by
  go_enter Tryd.func18, Tryd.ntmps18
  go_wp2_with fail
  go_loopw [] (fun wr => ∃ pos : Nat, pos ≤ s.size ∧ wr.heap[w.heap.size]? = some (.stringIter s pos) ∧ Below w.heap.size w wr ∧ NameAt s.data.toList pos) (fun wr => s.size - wr.iterPos w.heap.size)
  case atStart =>
    exact ⟨0, Nat.zero_le _, by have := World.iter_heap w s 0; simpa using this, (Below.refl _ w).alloc (Nat.le_refl _) _, nameAt_zero _⟩
  case round =>
    obtain ⟨pos, hpos, hit, hbw, hN⟩ := hrel
    have HN := Lib.hid hN
    clear hN
    by_cases hp : pos < s.size
    · have hnx : ∀ ty, (Instr.next (.pointer (some ⟨w.heap.size, 0, none⟩)) true ty).run Tryd.prog wr = _ := fun ty => Lib.run_next_any_at wr w.heap.size s pos ty hit hp
      obtain ⟨f1, f2, f3⟩ := dec_facts s pos hp
      have hL := fun W => letter_any ((Utf8.decode s pos).1 : Int) W
      have hD := fun W => digit_any ((Utf8.decode s pos).1 : Int) W
      have e1 : (decide (97 ≤ ((Utf8.decode s pos).1 : Int)) && decide (((Utf8.decode s pos).1 : Int) ≤ 122)) = ltr (s[pos]'hp) := by rw [Bool.eq_iff_iff, ← f1]; simp
      have e2 : (decide (48 ≤ ((Utf8.decode s pos).1 : Int)) && decide (((Utf8.decode s pos).1 : Int) ≤ 57)) = dgt (s[pos]'hp) := by rw [Bool.eq_iff_iff, ← f2]; simp
      rw [e1] at hL
      rw [e2] at hD
      clear e1 e2 f1 f2
      have F3 := Lib.hid f3
      clear f3
      cases hl : ltr (s[pos]'hp) with
      | true =>
        have hgo := Lib.hid (nameAt_next hp HN.out (.inl hl))
        have hw := F3.out (by unfold lod; rw [hl]; rfl)
        rw [hl] at hL
        rw [hw] at hnx hL
        have hit2 := Lib.iterAt_heap wr w.heap.size s pos (pos + 1) hit
        have hbw2 := Lib.below_iterAt hbw (k := w.heap.size) (Nat.le_refl _) s (pos + 1)
        clear F3 HN hD hl hw
        go_wp2_with (go_at_call 32; refine (hL _).mono ?_; rintro e w' ⟨rfl, rfl⟩)
        go_roundw
        case rel => exact ⟨pos + 1, by omega, hit2, hbw2, hgo.out⟩
        case measure =>
          simp only [World.iterPos, hit2, hit]
          omega
      | false =>
        by_cases h0 : pos ≠ 0 ∧ dgt (s[pos]'hp) = true
        · have hgo := Lib.hid (nameAt_next hp HN.out (.inr h0))
          have hw := F3.out (by unfold lod; rw [h0.2, Bool.or_true])
          rw [hl] at hL
          rw [h0.2] at hD
          rw [hw] at hnx hL hD
          have hne : (((pos : Nat) : Int) == 0) = false := beq_eq_false_iff_ne.2 (by omega)
          have hit2 := Lib.iterAt_heap wr w.heap.size s pos (pos + 1) hit
          have hbw2 := Lib.below_iterAt hbw (k := w.heap.size) (Nat.le_refl _) s (pos + 1)
          clear F3 HN hl hw h0
          go_wp2_with (first | (go_at_call 32; refine (hL _).mono ?_; rintro e w' ⟨rfl, rfl⟩) | (go_at_call 33; refine (hD _).mono ?_; rintro e w' ⟨rfl, rfl⟩))
          go_roundw
          case rel => exact ⟨pos + 1, by omega, hit2, hbw2, hgo.out⟩
          case measure =>
            simp only [World.iterPos, hit2, hit]
            omega
        · have hgo := Lib.hid (nameAt_stop hp HN.out hl (by
            by_cases h : pos = 0
            · exact .inl h
            · exact .inr (Bool.eq_false_iff.2 fun hh => h0 ⟨h, hh⟩)))
          have hbw2 := Lib.below_iterAt hbw (k := w.heap.size) (Nat.le_refl _) s (pos + (Utf8.decode s pos).2)
          rw [hl] at hL
          by_cases h1 : pos = 0
          · subst h1
            clear F3 HN hl h0 hD
            go_wp2_with (first | (go_at_call 32; refine (hL _).mono ?_; rintro e w' ⟨rfl, rfl⟩))
            go_ret
            exact ⟨by rw [hgo.out]; rfl, by simpa using hbw2⟩
          · have hd : dgt (s[pos]'hp) = false := Bool.eq_false_iff.2 fun hh => h0 ⟨h1, hh⟩
            rw [hd] at hD
            have hne : (((pos : Nat) : Int) == 0) = false := beq_eq_false_iff_ne.2 (by omega)
            clear F3 HN hl h0 hd
            go_wp2_with (first | (go_at_call 32; refine (hL _).mono ?_; rintro e w' ⟨rfl, rfl⟩) | (go_at_call 33; refine (hD _).mono ?_; rintro e w' ⟨rfl, rfl⟩))
            go_ret
            exact ⟨by rw [hgo.out]; rfl, hbw2⟩
    · have hnx : ∀ ty, (Instr.next (.pointer (some ⟨w.heap.size, 0, none⟩)) true ty).run Tryd.prog wr = _ := fun ty => Lib.run_next_end_at wr w.heap.size s pos ty hit hp
      have HE := Lib.hid (nameAt_end hp hpos HN.out)
      go_wp2_with fail
      go_ret
      exact ⟨by rw [HE.out]; rfl, hbw⟩
end Go.Proofs.YtialbhllnhkkeaaDoor

/-
  Which texts are names: the code and the reference.
-/
import Derived.Test.YtialbhllnhkkeaaDoorScNameL
import Derived.ChangeMaps5
namespace SC
open Go Go.RowKit
def isName (l : List UInt8) : Bool := decide (l.length ≠ 0) && (decide (l.length ≤ 12) && decide (nameLen l = l.length))
theorem ltr_i (b : UInt8) : (decide (97 ≤ (b.toNat : Int)) && decide ((b.toNat : Int) ≤ 122)) = ltr b := by
  unfold ltr; rw [Bool.eq_iff_iff]; simp; omega
theorem dgt_i (b : UInt8) : (decide (48 ≤ (b.toNat : Int)) && decide ((b.toNat : Int) ≤ 57)) = dgt b := by
  unfold dgt; rw [Bool.eq_iff_iff]; simp; omega
theorem isName_yes {l : List UInt8} (h1 : l.length ≠ 0) (h2 : l.length ≤ 12) (h3 : nameLen l = l.length) : isName l = true := by simp [isName, h1, h2, h3]
theorem isName_no {l : List UInt8} (h : l.length = 0 ∨ 12 < l.length ∨ nameLen l ≠ l.length) : isName l = false := by
  unfold isName
  rcases h with h | h | h
  · rw [h]; rfl
  · rw [decide_eq_false (show ¬ l.length ≤ 12 by omega)]; simp
  · rw [decide_eq_false h]; simp
end SC
namespace Go.Proofs.YtialbhllnhkkeaaDoor
open Go.RowKit SC
set_option maxHeartbeats 1000000 in
theorem name_is (s : ByteArray) (w : World) (hs : s.size ≤ 9223372036854775807) :
    Calls Tryd.prog 12 #[.string s] w fun e w' => e = .returned (.bool (isName s.data.toList)) ∧ Below w.heap.size w w' := by
  have hl : s.data.toList.length = s.size := by simp
  have HN := Lib.hid (fun w => nameLength_any s w hs)
  by_cases h0 : s.size = 0
  · have HR := Lib.hid (isName_no (l := s.data.toList) (.inl (by omega)))
    have he : s.toList = [] := by rw [Lib.toList_data]; exact List.eq_nil_of_length_eq_zero (by omega)
    clear hl h0
    go_enter Tryd.func12, Tryd.ntmps12
    go_wp2_with fail
    go_ret
    exact ⟨by rw [HR.out]; rfl, Below.refl _ _⟩
  · have he : (!s.toList.isEmpty) = true := by
      rw [Lib.toList_data]; cases h : s.data.toList with
      | nil => rw [h] at hl; exact absurd hl.symm h0
      | cons c t => rfl
    by_cases h1 : s.size ≤ 12
    · have b1 : (s.size : Int) ≤ 12 := by omega
      by_cases h2 : nameLen s.data.toList = s.size
      · have HR := Lib.hid (isName_yes (l := s.data.toList) (by omega) (by omega) (by omega))
        rw [h2] at HN
        clear hl h0 h1 h2
        go_enter Tryd.func12, Tryd.ntmps12
        go_wp2_with fail
        refine (HN.out _).mono ?_
        rintro e w1 ⟨rfl, hw1⟩
        go_wp2_with fail
        go_ret
        exact ⟨by rw [HR.out]; rfl, hw1⟩
      · have HR := Lib.hid (isName_no (l := s.data.toList) (.inr (.inr (by omega))))
        have b2 : ((nameLen s.data.toList : Int) == (s.size : Int)) = false := beq_eq_false_iff_ne.2 (by omega)
        generalize nameLen s.data.toList = m at *
        clear hl h0 h1 h2
        go_enter Tryd.func12, Tryd.ntmps12
        go_wp2_with fail
        refine (HN.out _).mono ?_
        rintro e w1 ⟨rfl, hw1⟩
        go_wp2_with fail
        go_ret
        exact ⟨by rw [HR.out]; rfl, hw1⟩
    · have HR := Lib.hid (isName_no (l := s.data.toList) (.inr (.inl (by omega))))
      have b1 : ¬ (s.size : Int) ≤ 12 := by omega
      clear hl h0 h1
      go_enter Tryd.func12, Tryd.ntmps12
      go_wp2_with fail
      go_ret
      exact ⟨by rw [HR.out]; rfl, Below.refl _ _⟩
set_option maxHeartbeats 400000 in
theorem rletter_any (r : Int) (w : World) : Calls Tryd.prog 20 #[.int .u8 r] w fun e w' => e = .returned (.bool (decide (97 ≤ r) && decide (r ≤ 122))) ∧ w = w' := by
  go_enter Tryd.func20, Tryd.ntmps20
  go_wp2
  all_goals (go_ret; exact ⟨congrArg (fun b => Ending.returned (.bool b)) (by simp; omega), rfl⟩)
set_option maxHeartbeats 400000 in
theorem rdigit_any (r : Int) (w : World) : Calls Tryd.prog 21 #[.int .u8 r] w fun e w' => e = .returned (.bool (decide (48 ≤ r) && decide (r ≤ 57))) ∧ w = w' := by
  go_enter Tryd.func21, Tryd.ntmps21
  go_wp2
  all_goals (go_ret; exact ⟨congrArg (fun b => Ending.returned (.bool b)) (by simp; omega), rfl⟩)
theorem rltr (b : UInt8) (w : World) : Calls Tryd.prog 20 #[.int .u8 b.toNat] w fun e w' => e = .returned (.bool (ltr b)) ∧ w = w' := by
  have := rletter_any b.toNat w
  rwa [ltr_i] at this
theorem rdgt (b : UInt8) (w : World) : Calls Tryd.prog 21 #[.int .u8 b.toNat] w fun e w' => e = .returned (.bool (dgt b)) ∧ w = w' := by
  have := rdigit_any b.toNat w
  rwa [dgt_i] at this
set_option maxHeartbeats 1000000 in
theorem rname_is (s : ByteArray) (w : World) (hs : s.size ≤ 9223372036854775807) :
    Calls Tryd.prog 13 #[.string s] w fun e w' => e = .returned (.bool (isName s.data.toList)) ∧ w = w' := by
  have hl : s.data.toList.length = s.size := by simp
  by_cases h0 : s.size = 0
  · have HR := Lib.hid (isName_no (l := s.data.toList) (.inl (by omega)))
    have b0 : ((s.size : Int) == 0) = true := beq_iff_eq.2 (by omega)
    clear hl h0
    go_enter Tryd.func13, Tryd.ntmps13
    go_wp2_with fail
    go_ret
    exact ⟨by rw [HR.out]; rfl, rfl⟩
  · have b0 : ((s.size : Int) == 0) = false := beq_eq_false_iff_ne.2 (by omega)
    by_cases h1 : s.size ≤ 12
    · have b1 : ¬ 12 < (s.size : Int) := by omega
      have hp0 : 0 < s.size := by omega
      have HL := Lib.hid (fun (k : Nat) (hk : k < s.size) w => rltr (s[k]'hk) w)
      have HD := Lib.hid (fun (k : Nat) (hk : k < s.size) w => rdgt (s[k]'hk) w)
      cases hl0 : ltr (s[0]'hp0) with
      | false =>
        have HR := Lib.hid (isName_no (l := s.data.toList) (.inr (.inr (by rw [nameAt_stop hp0 (nameAt_zero _) hl0 (.inl rfl)]; omega))))
        have hL0 := HL.out 0 hp0
        rw [hl0] at hL0
        have HL0 := Lib.hid hL0
        clear hl h0 h1 hl0 hL0 HL HD
        go_enter Tryd.func13, Tryd.ntmps13
        go_wp2_with fail
        refine (HL0.out _).mono ?_
        rintro e w1 ⟨rfl, rfl⟩
        go_wp2_with fail
        go_ret
        exact ⟨by rw [HR.out]; rfl, rfl⟩
      | true =>
        have hL0 := HL.out 0 hp0
        rw [hl0] at hL0
        have HL0 := Lib.hid hL0
        have HZ := Lib.hid hl0
        have HE := Lib.hid (fun (h : nameLen s.data.toList = s.size) => isName_yes (l := s.data.toList) (by omega) (by omega) (by rw [hl]; exact h))
        have HX := Lib.hid (fun (h : nameLen s.data.toList ≠ s.data.toList.length) => isName_no (l := s.data.toList) (.inr (.inr h)))
        have H1 := Lib.hid hl
        clear hl h0 h1 hl0 hL0
        go_enter Tryd.func13, Tryd.ntmps13
        go_wp2_with fail
        refine (HL0.out _).mono ?_
        rintro e w1 ⟨rfl, rfl⟩
        go_wp2_with fail
        go_loop [3] (fun i => ∃ k : Nat, k ≤ s.size ∧ i = .int .i64 k ∧ Hid (NameAt s.data.toList k)) (fun i => s.size - (intOf i).toNat)
        case atStart => exact ⟨0, Nat.zero_le _, rfl, Lib.hid (nameAt_zero _)⟩
        case round =>
          obtain ⟨k, hk, rfl, hN⟩ := hrel
          by_cases hp : k < s.size
          · have hL := HL.out k hp
            have hD := HD.out k hp
            cases hlk : ltr (s[k]'hp) with
            | true =>
              have HG := Lib.hid (nameAt_next hp hN.out (.inl hlk))
              rw [hlk] at hL
              have HLk := Lib.hid hL
              clear hlk hL hD
              go_wp2_with fail
              refine (HLk.out _).mono ?_
              rintro e w1 ⟨rfl, rfl⟩
              go_wp2_with fail
              go_round
              case rel => exact ⟨k + 1, by omega, by go_num, HG⟩
              case measure => simp [intOf]; omega
            | false =>
              have hk0 : k ≠ 0 := fun h => by subst h; have := HZ.out; rw [this] at hlk; cases hlk
              rw [hlk] at hL
              have HLk := Lib.hid hL
              cases hdk : dgt (s[k]'hp) with
              | true =>
                have HG := Lib.hid (nameAt_next hp hN.out (.inr ⟨hk0, hdk⟩))
                rw [hdk] at hD
                have HDk := Lib.hid hD
                clear hlk hdk hL hD hk0
                go_wp2_with fail
                refine (HLk.out _).mono ?_
                rintro e w1 ⟨rfl, rfl⟩
                go_wp2_with fail
                refine (HDk.out _).mono ?_
                rintro e w1 ⟨rfl, rfl⟩
                go_wp2_with fail
                go_round
                case rel => exact ⟨k + 1, by omega, by go_num, HG⟩
                case measure => simp [intOf]; omega
              | false =>
                have HG := Lib.hid (HX.out (by rw [nameAt_stop hp hN.out hlk (.inr hdk), H1.out]; omega))
                rw [hdk] at hD
                have HDk := Lib.hid hD
                clear hlk hdk hL hD hk0
                go_wp2_with fail
                refine (HLk.out _).mono ?_
                rintro e w1 ⟨rfl, rfl⟩
                go_wp2_with fail
                refine (HDk.out _).mono ?_
                rintro e w1 ⟨rfl, rfl⟩
                go_wp2_with fail
                go_ret
                exact ⟨by rw [HG.out]; rfl, rfl⟩
          · have HG := Lib.hid (HE.out (nameAt_end hp hk hN.out))
            go_wp2_with fail
            go_ret
            exact ⟨by rw [HG.out]; rfl, rfl⟩
    · have HR := Lib.hid (isName_no (l := s.data.toList) (.inr (.inl (by omega))))
      have b1 : 12 < (s.size : Int) := by omega
      clear hl h0 h1
      go_enter Tryd.func13, Tryd.ntmps13
      go_wp2_with fail
      go_ret
      exact ⟨by rw [HR.out]; rfl, rfl⟩
end Go.Proofs.YtialbhllnhkkeaaDoor

/-
  The length of a number.
-/
import Derived.Test.YtialbhllnhkkeaaDoorScWord
namespace SC
open Go Go.RowKit PB
theorem hasPrefix_minus (l : List UInt8) : Lib.hasPrefix l [45] = decide (l.head? = some 45) := by
  unfold Lib.hasPrefix
  cases l with
  | nil => rfl
  | cons c t =>
    show (45 == c && List.isPrefixOf [] t) = decide (some c = some 45)
    by_cases h : c = 45
    · subst h; rfl
    · rw [beq_eq_false_iff_ne.2 (fun e => h e.symm)]
      simp [h]
theorem trimPrefix_minus (l : List UInt8) : Lib.trimPrefix l [45] = digs l := by
  unfold Lib.trimPrefix digs
  rw [hasPrefix_minus]
  by_cases h : l.head? = some 45 <;> simp [h]
theorem dgt_in (b : UInt8) : [48, 49, 50, 51, 52, 53, 54, 55, 56, 57].contains b = dgt b := by
  rw [Bool.eq_iff_iff]
  simp only [List.contains_iff_mem, List.mem_cons, List.mem_nil_iff, or_false, dgt, Bool.and_eq_true, decide_eq_true_eq, ← UInt8.toNat_inj]
  simp only [UInt8.reduceToNat]
  omega
theorem trim_digits : ∀ l : List UInt8, Lib.trimLeftS l [48, 49, 50, 51, 52, 53, 54, 55, 56, 57] = l.drop (span dgt l)
  | [] => rfl
  | c :: t => by
    have ih := trim_digits t
    unfold Lib.trimLeftS at *
    rw [List.dropWhile_cons, dgt_in]
    show (if dgt c = true then _ else _) = (c :: t).drop (if dgt c = true then span dgt t + 1 else 0)
    split
    · rw [ih, List.drop_succ_cons]
    · rfl
end SC
namespace Go.Proofs.YtialbhllnhkkeaaDoor
open Go.RowKit SC PB
theorem cut_any (s : ByteArray) (w : World) :
    Calls Tryd.prog 37 #[.string s, .string ⟨#[45]⟩] w fun e w' => e = .returned (.tuple #[.string ⟨(digs s.data.toList).toArray⟩, .bool (decide (s.data.toList.head? = some 45))]) ∧ w = w' :=
  (Tryd.strings_CutPrefix s ⟨#[45]⟩ w).mono fun e w' ⟨he, hw⟩ => ⟨by rw [he]; show Ending.returned (.tuple #[.string ⟨(Lib.trimPrefix s.data.toList [45]).toArray⟩, .bool (Lib.hasPrefix s.data.toList [45])]) = _; rw [trimPrefix_minus, hasPrefix_minus], hw.symm⟩
theorem trim_any (s : ByteArray) (w : World) :
    Calls Tryd.prog 38 #[.string s, .string ⟨#[48, 49, 50, 51, 52, 53, 54, 55, 56, 57]⟩] w fun e w' => e = .returned (.string ⟨(s.data.toList.drop (span dgt s.data.toList)).toArray⟩) ∧ Below w.heap.size w w' := by
  have h := Any.strings_TrimLeft_laid Tryd.lays161 (by kernel_rfl) s ⟨#[48, 49, 50, 51, 52, 53, 54, 55, 56, 57]⟩ w (by decide) (ascii_of_all (by decide))
  exact h.mono fun e w' ⟨he, hw⟩ => ⟨by rw [he]; show Ending.returned (.string ⟨(Lib.trimLeftS s.data.toList [48, 49, 50, 51, 52, 53, 54, 55, 56, 57]).toArray⟩) = _; rw [trim_digits], hw⟩
set_option maxHeartbeats 1000000 in
theorem numberLength_any (s : ByteArray) (w : World) (hs : s.size ≤ 281474976710656) :
    Calls Tryd.prog 29 #[.string s] w fun e w' => e = .returned (.int .i64 (numLen s.data.toList)) ∧ Below w.heap.size w w' := by
  have h1 := digs_length s.data.toList
  have h2 := span_le dgt (digs s.data.toList)
  have h3 : s.data.toList.length = s.size := by simp
  have HC := Lib.hid (fun w => cut_any s w)
  have HT := Lib.hid (fun w => trim_any ⟨(digs s.data.toList).toArray⟩ w)
  by_cases h0 : span dgt (digs s.data.toList) = 0
  · have HN := Lib.hid (show numLen s.data.toList = 0 by unfold numLen; rw [if_pos h0])
    have hT := HT.out
    simp only at hT
    rw [h0, List.drop_zero] at hT
    have HT2 := Lib.hid hT
    clear HT hT h0 h1 h2 h3
    generalize (⟨(digs s.data.toList).toArray⟩ : ByteArray) = D at *
    go_enter Tryd.func29, Tryd.ntmps29
    go_wp2_with fail
    refine (HC.out _).mono ?_
    rintro e w1 ⟨rfl, rfl⟩
    go_wp2_with fail
    refine (HT2.out _).mono ?_
    rintro e w1 ⟨rfl, hw1⟩
    go_wp2_with fail
    go_ret
    exact ⟨by rw [HN.out]; rfl, hw1⟩
  · have HN := Lib.hid (show (numLen s.data.toList : Int) = (s.size : Int) - (((digs s.data.toList).length - span dgt (digs s.data.toList) : Nat) : Int) by
      unfold numLen; rw [if_neg h0]; omega)
    have hT := HT.out
    simp only at hT
    have hD : (⟨(digs s.data.toList).toArray⟩ : ByteArray).size = (digs s.data.toList).length := by simp [ByteArray.size]
    have hR : (⟨((digs s.data.toList).drop (span dgt (digs s.data.toList))).toArray⟩ : ByteArray).size = (digs s.data.toList).length - span dgt (digs s.data.toList) := by simp [ByteArray.size]
    have hne : ((⟨((digs s.data.toList).drop (span dgt (digs s.data.toList))).toArray⟩ : ByteArray).toList == (⟨(digs s.data.toList).toArray⟩ : ByteArray).toList) = false := by
      rw [beq_eq_false_iff_ne, Lib.toList_data, Lib.toList_data]
      intro e
      have := congrArg List.length e
      simp at this
      omega
    have HT2 := Lib.hid hT
    rw [← hR] at HN
    have hr : (⟨((digs s.data.toList).drop (span dgt (digs s.data.toList))).toArray⟩ : ByteArray).size ≤ s.size := by omega
    clear HT hT h0 h1 h2 h3 hD hR
    generalize (⟨((digs s.data.toList).drop (span dgt (digs s.data.toList))).toArray⟩ : ByteArray) = R at *
    generalize (⟨(digs s.data.toList).toArray⟩ : ByteArray) = D at *
    go_enter Tryd.func29, Tryd.ntmps29
    go_wp2_with fail
    refine (HC.out _).mono ?_
    rintro e w1 ⟨rfl, rfl⟩
    go_wp2_with fail
    refine (HT2.out _).mono ?_
    rintro e w1 ⟨rfl, hw1⟩
    go_wp2_with fail
    go_ret
    exact ⟨by rw [HN.out]; rfl, hw1⟩
end Go.Proofs.YtialbhllnhkkeaaDoor

/-
  The word at the beginning of a text.
-/
import Derived.Test.YtialbhllnhkkeaaDoorScNum
namespace SC
open Go Go.RowKit PB
theorem take_span (p : UInt8 → Bool) : ∀ l : List UInt8, (l.take (span p l)).all p = true
  | [] => rfl
  | c :: t => by
    show ((c :: t).take (if p c = true then span p t + 1 else 0)).all p = true
    split
    · rename_i h; rw [List.take_succ_cons, List.all_cons, h, take_span p t]; rfl
    · rfl
theorem head_take {l : List UInt8} {n : Nat} (h : n ≠ 0) : (l.take n).head? = l.head? := by
  cases l with
  | nil => simp
  | cons c t => cases n with
    | zero => exact absurd rfl h
    | succ m => rfl
theorem digs_take {l : List UInt8} (h : numLen l ≠ 0) : digs (l.take (numLen l)) = numDig l := by
  have hl : numLen l = sgn l + span dgt (digs l) := by
    unfold numLen at h ⊢; split
    · rename_i h0; rw [if_pos h0] at h; exact absurd rfl h
    · rfl
  unfold numDig
  rw [hl] at h ⊢
  unfold digs sgn
  by_cases hm : l.head? = some 45
  · rw [if_pos hm, if_pos hm]
    rw [head_take (by omega), if_pos hm]
    cases l with
    | nil => cases hm
    | cons c t => rw [Nat.add_comm, List.take_succ_cons]; rfl
  · have h' : span dgt (if l.head? = some 45 then List.drop 1 l else l) + 0 ≠ 0 := by rw [if_neg hm]; unfold digs sgn at h; rw [if_neg hm, if_neg hm] at h; omega
    rw [if_neg hm, if_neg hm, Nat.zero_add]
    rw [if_neg hm] at h'
    rw [head_take (by omega), if_neg hm]
theorem numDig_all (l : List UInt8) : (numDig l).all dgt = true := take_span dgt (digs l)
def fstV (l : List UInt8) : Value := match fst l with
  | .bad e => .tuple #[wordV 0 ⟨#[]⟩ 0 0, .int .i64 e]
  | .ok k n v => .tuple #[wordV k ⟨(l.take n).toArray⟩ v 0, .int .i64 0]
theorem extract_take (s : ByteArray) (n : Nat) : s.extract 0 n = ⟨(s.data.toList.take n).toArray⟩ := by
  apply ByteArray.ext
  apply Array.toList_inj.1
  have := Lib.extract_data s 0 n
  rw [this]; simp
theorem hasPrefix_one (l : List UInt8) (c : UInt8) : Lib.hasPrefix l [c] = decide (l.head? = some c) := by
  unfold Lib.hasPrefix
  cases l with
  | nil => rfl
  | cons b t =>
    show (c == b && List.isPrefixOf [] t) = decide (some b = some c)
    by_cases h : b = c
    · subst h; simp [List.isPrefixOf]
    · rw [beq_eq_false_iff_ne.2 (fun e => h e.symm)]
      simp [h]
end SC
namespace Go.Proofs.YtialbhllnhkkeaaDoor
open Go.RowKit SC PB
set_option maxHeartbeats 2000000 in
theorem first_any (s : ByteArray) (w : World) (hs : s.size ≤ 281474976710656) :
    Calls Tryd.prog 17 #[.string s] w fun e w' => e = .returned (fstV s.data.toList) ∧ Below w.heap.size w w' := by
  have hl : s.data.toList.length = s.size := by simp
  have HNL := Lib.hid (fun w => nameLength_any s w (by omega))
  have HUL := Lib.hid (fun w => numberLength_any s w hs)
  have k1 := nameLen_le s.data.toList
  have k2 := numLen_le s.data.toList
  by_cases hn : nameLen s.data.toList ≠ 0
  · have HF := Lib.hid (show fstV s.data.toList = if nameLen s.data.toList ≤ 12 then .tuple #[wordV 1 (s.extract 0 (nameLen s.data.toList)) 0 0, .int .i64 0] else .tuple #[wordV 0 ⟨#[]⟩ 0 0, .int .i64 6] by
      unfold fstV fst; rw [if_pos hn, extract_take]
      by_cases h : nameLen s.data.toList ≤ 12
      · rw [if_pos h, if_pos h]
      · rw [if_neg h, if_neg h])
    have HM := Lib.hid (fun w => name_any (s.extract 0 (nameLen s.data.toList)) w (by simp; omega))
    have hsz : (s.extract 0 (nameLen s.data.toList)).size = nameLen s.data.toList := by simp; omega
    rw [hsz] at HM
    generalize hk : nameLen s.data.toList = k at *
    have b0 : (0 : Int) < k := by omega
    have b1 : k ≤ s.size := by omega
    clear hn hk k1 k2 hsz hl HUL
    go_enter Tryd.func17, Tryd.ntmps17
    go_wp2_with fail
    refine (HNL.out _).mono ?_
    rintro e w1 ⟨rfl, hw1⟩
    have X1 := blk_last hw1
    have q1 := ((Below.refl _ w).alloc (Nat.le_refl _) _).trans (hw1.mono (by simp))
    clear hw1
    by_cases h12 : k ≤ 12
    · rw [if_pos h12] at HF HM
      have H12 := Lib.hid h12
      clear h12
      go_wp2_with fail
      refine (HM.out _).mono ?_
      rintro e w2 ⟨rfl, hw2⟩
      have X3 := X1.kept hw2
      have q3 := q1.trans (hw2.mono q1.size)
      obtain ⟨c0, c1, c2, c3⟩ := Blk4 X3
      obtain ⟨g0, g1, g2, g3⟩ := Blk4f X3
      clear hw2 X1 q1
      go_wp2_with fail
      refine bodyPost_ret (blk_res_tmp rfl _ rfl (blk_set4 X3) Tryd.underlying33 rfl (by rfl)) rfl ?_
      exact ⟨by rw [HF.out]; rfl, (((q3.setCell (Nat.le_refl _) _).setCell (Nat.le_refl _) _).setCell (Nat.le_refl _) _).setCell (Nat.le_refl _) _⟩
    · rw [if_neg h12] at HF HM
      have H12 := Lib.hid h12
      clear h12
      go_wp2_with fail
      refine (HM.out _).mono ?_
      rintro e w2 ⟨rfl, hw2⟩
      have X3 := X1.kept hw2
      have q3 := q1.trans (hw2.mono q1.size)
      obtain ⟨c0, c1, c2, c3⟩ := Blk4 X3
      obtain ⟨g0, g1, g2, g3⟩ := Blk4f X3
      clear hw2 X1 q1
      go_wp2_with fail
      refine bodyPost_ret (blk_res_tmp rfl _ rfl (blk_set4 X3) Tryd.underlying33 rfl (by rfl)) rfl ?_
      exact ⟨by rw [HF.out]; rfl, (((q3.setCell (Nat.le_refl _) _).setCell (Nat.le_refl _) _).setCell (Nat.le_refl _) _).setCell (Nat.le_refl _) _⟩
  · have hn0 : nameLen s.data.toList = 0 := by omega
    rw [hn0] at HNL
    by_cases hu : numLen s.data.toList ≠ 0
    · have hsz : (s.extract 0 (numLen s.data.toList)).size = numLen s.data.toList := by simp; omega
      have hx : (s.extract 0 (numLen s.data.toList)).data.toList = s.data.toList.take (numLen s.data.toList) := by rw [extract_take]
      have HM := Lib.hid (fun w => number_any (s.extract 0 (numLen s.data.toList)) w (by omega) (by rw [hx, digs_take hu]; exact numDig_all _))
      rw [hx, digs_take hu, head_take hu] at HM
      have HF := Lib.hid (show fstV s.data.toList = numberV (s.extract 0 (numLen s.data.toList)) (decide (s.data.toList.head? = some 45)) (val (numDig s.data.toList)) by
        unfold fstV fst numberV numVal; rw [if_neg hn, if_pos hu, extract_take]
        by_cases h : val (numDig s.data.toList) ≤ 1073741824
        · rw [if_pos h, if_pos h]; by_cases hm : s.data.toList.head? = some 45 <;> simp [hm]
        · rw [if_neg h, if_neg h])
      obtain ⟨r0, r1, r2, r3, re, hR⟩ : ∃ r0 r1 r2 r3 re, numberV (s.extract 0 (numLen s.data.toList)) (decide (s.data.toList.head? = some 45)) (val (numDig s.data.toList)) = .tuple #[.agg #[.int .i64 r0, .string r1, .int .i64 r2, .int .i64 r3], .int .i64 re] := by
        unfold numberV
        split
        · exact ⟨_, _, _, _, _, rfl⟩
        · exact ⟨_, _, _, _, _, rfl⟩
      rw [hR] at HM HF
      generalize hk : numLen s.data.toList = k at *
      have b0 : (0 : Int) < k := by omega
      have b1 : k ≤ s.size := by omega
      clear hn hk k1 k2 hsz hl hx hR hu hn0
      go_enter Tryd.func17, Tryd.ntmps17
      go_wp2_with fail
      refine (HNL.out _).mono ?_
      rintro e w1 ⟨rfl, hw1⟩
      have X1 := blk_last hw1
      have q1 := ((Below.refl _ w).alloc (Nat.le_refl _) _).trans (hw1.mono (by simp))
      clear hw1
      go_wp2_with fail
      refine (HUL.out _).mono ?_
      rintro e w2 ⟨rfl, hw2⟩
      have X2 := X1.kept hw2
      have q2 := q1.trans (hw2.mono q1.size)
      clear hw2 X1 q1
      go_wp2_with fail
      refine (HM.out _).mono ?_
      rintro e w3 ⟨rfl, hw3⟩
      have X3 := X2.kept hw3
      have q3 := q2.trans (hw3.mono q2.size)
      obtain ⟨c0, c1, c2, c3⟩ := Blk4 X3
      obtain ⟨g0, g1, g2, g3⟩ := Blk4f X3
      clear hw3 X2 q2
      go_wp2_with fail
      refine bodyPost_ret (blk_res_tmp rfl _ rfl (blk_set4 X3) Tryd.underlying33 rfl (by rfl)) rfl ?_
      exact ⟨by rw [HF.out]; rfl, (((q3.setCell (Nat.le_refl _) _).setCell (Nat.le_refl _) _).setCell (Nat.le_refl _) _).setCell (Nat.le_refl _) _⟩
    · have hu0 : numLen s.data.toList = 0 := by omega
      rw [hu0] at HUL
      have HP := Lib.hid (fun w => Tryd.strings_HasPrefix s ⟨#[59]⟩ w)
      have e59 : Lib.hasPrefix s.data.toList (⟨#[59]⟩ : ByteArray).data.toList = decide (s.data.toList.head? = some 59) := hasPrefix_one _ _
      rw [e59] at HP
      have HF := Lib.hid (show fstV s.data.toList = if s.data.toList.head? = some 59 then .tuple #[wordV 3 ⟨#[59]⟩ 0 0, .int .i64 0] else .tuple #[wordV 0 ⟨#[]⟩ 0 0, .int .i64 4] by
        unfold fstV fst; rw [if_neg hn, if_neg hu]
        by_cases h : s.data.toList.head? = some 59
        · rw [if_pos h, if_pos h]
          cases hs : s.data.toList with
          | nil => rw [hs] at h; cases h
          | cons c t => rw [hs] at h; obtain rfl : c = 59 := by simpa using h
                        rfl
        · rw [if_neg h, if_neg h])
      clear hn hu hn0 hu0 k1 k2 e59 hl
      by_cases h59 : s.data.toList.head? = some 59
      all_goals
        simp only [h59, decide_true, decide_false, if_true, if_false] at HP HF
        clear h59
        go_enter Tryd.func17, Tryd.ntmps17
        go_wp2_with fail
        refine (HNL.out _).mono ?_
        rintro e w1 ⟨rfl, hw1⟩
        have X1 := blk_last hw1
        have q1 := ((Below.refl _ w).alloc (Nat.le_refl _) _).trans (hw1.mono (by simp))
        clear hw1
        go_wp2_with fail
        refine (HUL.out _).mono ?_
        rintro e w2 ⟨rfl, hw2⟩
        have X3 := X1.kept hw2
        have q3 := q1.trans (hw2.mono q1.size)
        obtain ⟨c0, c1, c2, c3⟩ := Blk4 X3
        obtain ⟨g0, g1, g2, g3⟩ := Blk4f X3
        clear hw2 X1 q1
        go_wp2_with fail
        refine (HP.out _).mono ?_
        rintro e w3 ⟨rfl, rfl⟩
        go_wp2_with fail
        refine bodyPost_ret (blk_res_tmp rfl _ rfl (blk_set4 X3) Tryd.underlying33 rfl (by rfl)) rfl ?_
        exact ⟨by rw [HF.out]; rfl, (((q3.setCell (Nat.le_refl _) _).setCell (Nat.le_refl _) _).setCell (Nat.le_refl _) _).setCell (Nat.le_refl _) _⟩
end Go.Proofs.YtialbhllnhkkeaaDoor

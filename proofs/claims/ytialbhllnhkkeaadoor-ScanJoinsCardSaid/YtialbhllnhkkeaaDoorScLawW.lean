/-
  ScanWords: its walk.
-/
import Derived.Test.YtialbhllnhkkeaaDoorScSame
import Derived.Test.YtialbhllnhkkeaaDoorScAwake
namespace Go.Proofs.YtialbhllnhkkeaaDoor
open Go.RowKit SC PB
theorem few_words (s : ByteArray) : (words s.data.toList).list.length ≤ 20000 := by
  have hl : s.data.toList.length = s.size := by simp
  unfold words
  split
  · exact Nat.zero_le _
  · rename_i h
    have key : ∀ (f : Nat) (l : List UInt8) (a : Nat) (acc : List W), acc.length ≤ a → (wordsF f l a acc).list.length ≤ a + l.length := by
      intro f
      induction f with
      | zero => intro l a acc h; show acc.length ≤ _; omega
      | succ f ih =>
        intro l a acc h
        rw [wordsF]
        have hk := skp_le false l
        split
        · show acc.length ≤ _; omega
        · cases hf : fst (l.drop (skp false l)) with
          | bad e => exact Nat.zero_le _
          | ok k n v =>
            dsimp only
            have hn := fst_len hf
            rw [List.length_drop] at hn
            split
            · exact Nat.zero_le _
            · refine Nat.le_trans (ih _ _ _ ?_) ?_
              · rw [List.length_append]; simp; omega
              · rw [List.length_drop, List.length_drop]; omega
    have := key (s.data.toList.length + 1) s.data.toList 0 [] (Nat.le_refl _)
    unfold wordsR
    omega
set_option maxHeartbeats 4000000 in
set_option maxRecDepth 100000 in
theorem laww_any (s : ByteArray) (w : World) (hs : s.size ≤ 9223372036854775807) :
    Calls Tryd.prog 3 #[.string s] w fun e w' => e = .returned (.bool true) ∧ Below w.heap.size w w' := by
  have HW := Lib.hid (fun w => words_any s w hs)
  have HR := Lib.hid (fun w => rwords_any s w hs)
  have HF := Lib.hid (few_words s)
  generalize words s.data.toList = r at *
  go_enter Tryd.func3, Tryd.ntmps3
  go_wp2_with fail
  refine (awake_any _).mono ?_
  rintro e w1 ⟨rfl, q1⟩
  go_wp2_with fail
  refine (HW.out _).mono ?_
  rintro e w2 ⟨v2, rfl, o2, p2⟩
  have q2 := next q1 p2
  clear q1 p2
  go_wp2_with fail
  refine (HR.out _).mono ?_
  rintro e w3 ⟨v3, rfl, o3, p3⟩
  have q3 := next q2 p3
  obtain ⟨b2, g2, c2, rfl, e2, r2, l2, _⟩ := ownw_slice (o2.kept p3)
  obtain ⟨b3, g3, c3, rfl, e3, r3, l3, _⟩ := ownw_slice o3
  have HS := Lib.hid (fun w' (h : Below w3.heap.size w3 w') => same_any r.list b2 b3 g2 g3 c2 c3 w' (by have := HF.out; omega) e2 e3 (WRow.kept r2 h l2) (WRow.kept r3 h l3) (fun h0 => Nat.lt_of_lt_of_le (l2 h0) h.size) (fun h0 => Nat.lt_of_lt_of_le (l3 h0) h.size))
  clear o2 o3 q2 p3 e2 r2 l2 e3 r3 l3
  go_wp2_with fail
  refine (HS.out _ (Below.refl _ _)).mono ?_
  rintro e w4 ⟨rfl, p4⟩
  have q4 := next q3 p4
  clear q3 p4
  go_wp2_with fail
  go_ret
  exact ⟨by simp, q4⟩
end Go.Proofs.YtialbhllnhkkeaaDoor

/-
  Whether a word is the word that its text is.
-/
import Derived.Test.YtialbhllnhkkeaaDoorScWords
import Derived.Test.YtialbhllnhkkeaaDoorScChain
namespace SC
open Go Go.RowKit PB
def fitB (kd : Int) (T : List UInt8) (nm : Int) : Bool := match fst T with
  | .bad _ => false
  | .ok k n v => decide (k = kd) && (decide (n = T.length) && decide (v = nm))
theorem fitB_fit {x : W} (h : Fit x) : fitB x.kind x.text x.num = true := by
  unfold fitB; rw [h.1]; simp
theorem fit_fitB {kd nm : Int} {T : List UInt8} {p : Nat} (h : fitB kd T nm = true) : Fit ⟨kd, T, nm, p⟩ := by
  unfold fitB at h
  cases hf : fst T with
  | bad e => rw [hf] at h; cases h
  | ok k n v =>
    rw [hf] at h
    simp only [Bool.and_eq_true, decide_eq_true_eq] at h
    obtain ⟨rfl, rfl, rfl⟩ := h
    have := fst_len hf
    refine ⟨hf, fun e => ?_⟩
    dsimp only at e
    rw [e] at this
    simp at this
end SC
namespace Go.Proofs.YtialbhllnhkkeaaDoor
open Go.RowKit SC PB
set_option maxHeartbeats 4000000 in
theorem fits_any (kd nm a : Int) (T : ByteArray) (w : World) (hT : T.size ≤ 281474976710656) :
    Calls Tryd.prog 24 #[wordV kd T nm a] w fun e w' => e = .returned (.bool (fitB kd T.data.toList nm)) ∧ Below w.heap.size w w' := by
  have HF := Lib.hid (fun w => first_any T w hT)
  cases hf : fst T.data.toList with
  | bad er =>
    have HV := Lib.hid (show fstV T.data.toList = .tuple #[wordV 0 ⟨#[]⟩ 0 0, .int .i64 er] by unfold fstV; rw [hf])
    have HB := Lib.hid (show fitB kd T.data.toList nm = false by unfold fitB; rw [hf])
    have hne : ((er : Int) == 0) = false := by rw [beq_eq_false_iff_ne]; rcases bads hf with rfl | rfl | rfl <;> decide
    rw [HV.out] at HF
    clear hf
    go_enter Tryd.func24, Tryd.ntmps24
    go_wp2_with fail
    refine (HF.out _).mono ?_
    rintro e w1 ⟨rfl, hw1⟩
    have X1 := blk_last hw1
    have hsz := hw1.size
    have hlt : w.heap.size < w1.heap.size := by simp at hsz; omega
    have q1 := ((Below.refl _ w).alloc (Nat.le_refl _) _).trans (hw1.mono (by simp))
    obtain ⟨c0, c1, c2, c3⟩ := Blk4 X1
    clear hsz hw1
    go_wp2_with fail
    go_ret
    exact ⟨by rw [HB.out]; rfl, q1.alloc (by omega) _⟩
  | ok k n v =>
    have HV := Lib.hid (show fstV T.data.toList = .tuple #[wordV k ⟨(T.data.toList.take n).toArray⟩ v 0, .int .i64 0] by unfold fstV; rw [hf])
    have hn := fst_len hf
    have HB := Lib.hid (show fitB kd T.data.toList nm = (decide (k = kd) && (decide ((⟨(T.data.toList.take n).toArray⟩ : ByteArray).toList = T.toList) && decide (v = nm))) by
      unfold fitB; rw [hf]; dsimp only
      rw [Lib.toList_data, Lib.toList_data]
      have e : (n = T.data.toList.length) = ((⟨(T.data.toList.take n).toArray⟩ : ByteArray).data.toList = T.data.toList) := by
        apply propext
        show _ ↔ T.data.toList.take n = T.data.toList
        constructor
        · intro h; rw [h, List.take_length]
        · intro h
          have := congrArg List.length h
          rw [List.length_take] at this; omega
      rw [Bool.eq_iff_iff]
      simp only [Bool.and_eq_true, decide_eq_true_eq, e])
    rw [HV.out] at HF
    clear hf hn HV
    generalize (⟨(T.data.toList.take n).toArray⟩ : ByteArray) = R at *
    go_enter Tryd.func24, Tryd.ntmps24
    go_wp2_with fail
    refine (HF.out _).mono ?_
    rintro e w1 ⟨rfl, hw1⟩
    have X1 := blk_last hw1
    have hsz := hw1.size
    have hlt : w.heap.size < w1.heap.size := by simp at hsz; omega
    have q1 := Lib.hid (((Below.refl _ w).alloc (Nat.le_refl _) _).trans (hw1.mono (by simp)))
    obtain ⟨c0, c1, c2, c3⟩ := Blk4 X1
    clear hsz hw1
    go_wp2_with fail
    all_goals
      go_ret
      refine ⟨?_, q1.out.alloc (by omega) _⟩
      rw [HB.out]
      simp [*]
end Go.Proofs.YtialbhllnhkkeaaDoor

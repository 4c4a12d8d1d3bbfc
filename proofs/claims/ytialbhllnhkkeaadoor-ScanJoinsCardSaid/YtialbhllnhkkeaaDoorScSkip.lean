/-
  What lies between words.
-/
import Derived.Test.YtialbhllnhkkeaaDoorScName
namespace SC
open Go Go.RowKit
theorem skp_comment_end : ∀ {l : List UInt8}, Lib.indexByte l 10 = -1 → skp true l = l.length
  | [], _ => rfl
  | c :: t, h => by
    unfold Lib.indexByte at h
    by_cases h1 : c = 10
    · subst h1; rw [if_pos (by decide)] at h; exact absurd h (by decide)
    · rw [if_neg (by simpa using h1)] at h
      by_cases h2 : (Lib.indexByte t 10 == -1) = true
      · rw [skp_t, if_neg h1, skp_comment_end (by simpa using h2)]; rfl
      · rw [if_neg h2] at h
        have := Lib.indexByte_ge t 10
        omega
theorem skp_comment_line : ∀ {l : List UInt8} {n : Nat}, Lib.indexByte l 10 = n → skp true l = n + skp false (l.drop n) ∧ n < l.length
  | [], n, h => by have h : (-1 : Int) = n := h; omega
  | c :: t, n, h => by
    unfold Lib.indexByte at h
    by_cases h1 : c = 10
    · subst h1
      rw [if_pos (by decide)] at h
      obtain rfl : n = 0 := by omega
      refine ⟨?_, by simp⟩
      rw [List.drop_zero, skp_t, if_pos rfl, skp_blank (by decide)]
      omega
    · rw [if_neg (by simpa using h1)] at h
      by_cases h2 : (Lib.indexByte t 10 == -1) = true
      · rw [if_pos h2] at h; omega
      · rw [if_neg h2] at h
        have h2' : Lib.indexByte t 10 ≠ -1 := by simpa using h2
        obtain ⟨m, rfl⟩ : ∃ m, n = m + 1 := ⟨n - 1, by have := Lib.indexByte_ge t 10; omega⟩
        obtain ⟨e1, e2⟩ := skp_comment_line (l := t) (n := m) (by omega)
        refine ⟨?_, by simpa using e2⟩
        rw [skp_t, if_neg h1, e1, List.drop_succ_cons]
        omega
theorem nb {b : UInt8} {n : Nat} (h : b ≠ UInt8.ofNat n) (hn : n < 256) : ((b.toNat : Int) == (n : Int)) = false := by
  rw [beq_eq_false_iff_ne]
  intro e
  refine h (UInt8.toNat_inj.1 ?_)
  rw [UInt8.toNat_ofNat_of_lt' (by simpa using hn)]
  omega
theorem idx_hash {t : List UInt8} (h : Lib.indexByte (35 :: t) 10 = -1) : skp false (35 :: t) = (35 :: t).length := by
  have := skp_comment_end h
  rw [skp_hash]; rw [skp_t, if_neg (by decide)] at this; exact this
theorem idx_hash_line {t : List UInt8} {n : Nat} (h : Lib.indexByte (35 :: t) 10 = n) : skp false (35 :: t) = n + skp false ((35 :: t).drop n) ∧ n < (35 :: t).length ∧ 0 < n := by
  obtain ⟨e1, e2⟩ := skp_comment_line h
  refine ⟨?_, e2, ?_⟩
  · rw [skp_hash]; rw [skp_t, if_neg (by decide)] at e1; exact e1
  · by_cases h0 : n = 0
    · subst h0
      have := (Lib.indexByte_some (l := 35 :: t) (c := 10) (o := 0) h).1
      simp at this
    · omega
end SC
namespace Go.Proofs.YtialbhllnhkkeaaDoor
open Go.RowKit SC
set_option maxHeartbeats 1000000 in
theorem skip_any (s : ByteArray) (a : Nat) (w : World) (hs : s.size ≤ 9223372036854775807) (ha : a ≤ s.size) :
    Calls Tryd.prog 16 #[.string s, .int .i64 a] w fun e w' => e = .returned (.int .i64 ((a + skp false (s.data.toList.drop a) : Nat) : Int)) ∧ w = w' := by
  generalize hz : a + skp false (s.data.toList.drop a) = z
  have HZ := Lib.hid hz
  clear hz
  go_enter Tryd.func16, Tryd.ntmps16
  go_wp2_with fail
  go_loop [1] (fun i => ∃ k : Nat, k ≤ s.size ∧ i = .int .i64 k ∧ Hid (z = k + skp false (s.data.toList.drop k))) (fun i => s.size - (intOf i).toNat)
  case atStart => exact ⟨a, ha, rfl, Lib.hid HZ.out.symm⟩
  case round =>
    obtain ⟨k, hk, rfl, hrest⟩ := hrel
    by_cases hp : k < s.size
    · have HC := Lib.hid (drop_cons s k hp)
      generalize hb : s[k]'hp = b at *
      by_cases hh : b = 35
      · have t1 : ((b.toNat : Int) == 32) = false := by subst hh; decide
        have t2 : ((b.toNat : Int) == 9) = false := by subst hh; decide
        have t3 : ((b.toNat : Int) == 10) = false := by subst hh; decide
        have t4 : ((b.toNat : Int) == 35) = true := by subst hh; decide
        have HX := Lib.hid (show (s.extract k s.size).data.toList = 35 :: s.data.toList.drop (k + 1) by rw [Lib.extract_to_end, HC.out, hh])
        have hI := fun w => Tryd.strings_IndexByte (s.extract k s.size) 10 w
        rw [HX.out] at hI
        have HH := Lib.hid (show s.data.toList.drop k = 35 :: s.data.toList.drop (k + 1) by rw [HC.out, hh])
        clear hh HC
        have hlen : (35 :: s.data.toList.drop (k + 1)).length = s.size - k := by simp; omega
        cases hn : Lib.indexByte (35 :: s.data.toList.drop (k + 1)) 10 == -1
        · obtain ⟨n, hn2⟩ : ∃ n : Nat, Lib.indexByte (35 :: s.data.toList.drop (k + 1)) 10 = n := ⟨(Lib.indexByte (35 :: s.data.toList.drop (k + 1)) 10).toNat, by
            have := Lib.indexByte_ge (35 :: s.data.toList.drop (k + 1)) 10
            have : Lib.indexByte (35 :: s.data.toList.drop (k + 1)) 10 ≠ -1 := by simpa using hn
            omega⟩
          obtain ⟨e1, e2, e3⟩ := idx_hash_line hn2
          rw [hlen] at e2
          have HE := Lib.hid (show z = (k + n : Nat) + skp false (s.data.toList.drop (k + n)) by rw [hrest.out, HH.out, e1, ← HH.out, List.drop_drop, Nat.add_assoc])
          have hI2 := fun w => hI w
          rw [show (10 : Int).toNat.toUInt8 = 10 from rfl, hn2] at hI2
          have hkn : k + n ≤ 9223372036854775807 := by omega
          clear hI hn hn2 hlen e1 hrest HH HX HZ
          go_wp2_with (go_at_call 27; refine (hI2 _).mono ?_; rintro e w' ⟨rfl, rfl⟩)
          go_round
          case rel => exact ⟨k + n, by omega, by go_num, HE⟩
          case measure => simp [intOf]; omega
        · have hn2 : Lib.indexByte (35 :: s.data.toList.drop (k + 1)) 10 = -1 := by simpa using hn
          have HE := Lib.hid (show z = s.size by rw [hrest.out, HH.out, idx_hash hn2, hlen]; omega)
          have hI2 := fun w => hI w
          rw [show (10 : Int).toNat.toUInt8 = 10 from rfl, hn2] at hI2
          clear hI hn hn2 hlen hrest HH HX HZ
          go_wp2_with (go_at_call 27; refine (hI2 _).mono ?_; rintro e w' ⟨rfl, rfl⟩)
          go_ret
          exact ⟨by rw [HE.out]; rfl, rfl⟩
      · have t4 : ((b.toNat : Int) == 35) = false := nb (n := 35) hh (by decide)
        by_cases hbl : isBlank b = true
        · have HE := Lib.hid (show z = (k + 1 : Nat) + skp false (s.data.toList.drop (k + 1)) by rw [hrest.out, HC.out, skp_blank hbl]; omega)
          have HB : b = 32 ∨ b = 9 ∨ b = 10 := by simpa [isBlank, or_assoc] using hbl
          clear hrest HC hbl hh
          rcases HB with rfl | rfl | rfl
          all_goals
            clear t4
            go_wp2_with fail
            go_round
            case rel => exact ⟨k + 1, by omega, by go_num, HE⟩
            case measure => simp [intOf]; omega
        · have hbl2 : isBlank b = false := by simpa using hbl
          have t1 : ((b.toNat : Int) == 32) = false := nb (b := b) (n := 32) (fun h => by subst h; exact hbl (by decide)) (by decide)
          have t2 : ((b.toNat : Int) == 9) = false := nb (b := b) (n := 9) (fun h => by subst h; exact hbl (by decide)) (by decide)
          have t3 : ((b.toNat : Int) == 10) = false := nb (b := b) (n := 10) (fun h => by subst h; exact hbl (by decide)) (by decide)
          have HE := Lib.hid (show z = k by rw [hrest.out, HC.out, skp_none hbl2 hh]; rfl)
          clear hrest HC hbl hh hbl2
          go_wp2_with fail
          go_ret
          exact ⟨by rw [HE.out]; rfl, rfl⟩
    · have HE := Lib.hid (show z = k by
        rw [hrest.out, List.drop_eq_nil_of_le (by simp; omega), skp_nil]; rfl)
      go_wp2_with fail
      go_ret
      exact ⟨by rw [HE.out]; rfl, rfl⟩
end Go.Proofs.YtialbhllnhkkeaaDoor

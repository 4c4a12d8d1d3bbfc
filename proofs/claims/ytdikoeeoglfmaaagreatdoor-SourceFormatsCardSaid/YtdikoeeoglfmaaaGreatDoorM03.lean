/-
  Runes, and the length of a name.
  What lies between words.
  The length of the name at the beginning of a text.
  Plain arithmetic of numbers written with limbs of 32 bits: digits, lengths, sums, products. It speaks of no program.
-/
import Derived.WalkKit
import Derived.BigCall
import Derived.Lib.OthersKept
import Derived.Test.YtdikoeeoglfmaaaGreatDoorM01
import Derived.Test.YtdikoeeoglfmaaaGreatDoorM02
namespace SC
open Go Go.RowKit
theorem dec_facts (s : ByteArray) (pos : Nat) (h : pos < s.size) :
    ((97 ≤ ((Utf8.decode s pos).1 : Int) ∧ ((Utf8.decode s pos).1 : Int) ≤ 122) ↔ ltr (s[pos]'h) = true) ∧ ((48 ≤ ((Utf8.decode s pos).1 : Int) ∧ ((Utf8.decode s pos).1 : Int) ≤ 57) ↔ dgt (s[pos]'h) = true) ∧ (lod (s[pos]'h) = true → Utf8.decode s pos = ((s[pos]'h).toNat, 1)) := by
  by_cases ha : (s[pos]'h).toNat < 128
  · have hd := Go.decode_ascii s pos h ha
    rw [hd]
    refine ⟨?_, ?_, fun _ => rfl⟩
    · simp [ltr]; omega
    · simp [dgt]; omega
  · have hd := Go.decode_high s pos h (by omega)
    have h1 := hd.1
    refine ⟨?_, ?_, fun hl => ?_⟩
    · simp [ltr]; omega
    · simp [dgt]; omega
    · simp [lod, ltr, dgt] at hl; omega
theorem drop_cons (s : ByteArray) (pos : Nat) (h : pos < s.size) : s.data.toList.drop pos = (s[pos]'h) :: s.data.toList.drop (pos + 1) := by
  rw [List.drop_eq_getElem_cons (by simpa using h)]; rfl
/-- What is left to be counted of a name. -/
def NameAt (l : List UInt8) (pos : Nat) : Prop := nameLen l = if pos = 0 then nameLen l else pos + span lod (l.drop pos)
theorem nameAt_zero (l : List UInt8) : NameAt l 0 := (if_pos rfl).symm
theorem nameAt_next {s : ByteArray} {pos : Nat} (h : pos < s.size) (ha : NameAt s.data.toList pos) (hb : ltr (s[pos]'h) = true ∨ pos ≠ 0 ∧ dgt (s[pos]'h) = true) : NameAt s.data.toList (pos + 1) := by
  have hc := drop_cons s pos h
  unfold NameAt at *
  rw [if_neg (by omega)]
  by_cases h0 : pos = 0
  · subst h0
    rw [List.drop_zero] at hc
    rw [hc]
    have hl : ltr (s[0]'h) = true := by rcases hb with h | h; exact h; exact absurd rfl h.1
    show (if ltr (s[0]'h) = true then span lod (List.drop (0 + 1) s.data.toList) + 1 else 0) = _
    rw [if_pos hl]
    simp only [List.drop_succ_cons, List.drop_zero, Nat.zero_add]
    omega
  · rw [if_neg h0, hc] at ha
    rw [ha]
    have hl : lod (s[pos]'h) = true := by
      unfold lod; rcases hb with h | h
      · simp [h]
      · simp [h.2]
    show pos + (if lod (s[pos]'h) = true then span lod (List.drop (pos + 1) s.data.toList) + 1 else 0) = _
    rw [if_pos hl]
    omega
theorem nameAt_stop {s : ByteArray} {pos : Nat} (h : pos < s.size) (ha : NameAt s.data.toList pos) (h1 : ltr (s[pos]'h) = false) (h2 : pos = 0 ∨ dgt (s[pos]'h) = false) : nameLen s.data.toList = pos := by
  have hc := drop_cons s pos h
  unfold NameAt at ha
  by_cases h0 : pos = 0
  · subst h0
    rw [List.drop_zero] at hc
    rw [hc]
    show (if ltr (s[0]'h) = true then _ else 0) = 0
    rw [h1, if_neg Bool.false_ne_true]
  · rw [if_neg h0, hc] at ha
    rw [ha]
    have hl : lod (s[pos]'h) = false := by
      unfold lod; rcases h2 with h | h
      · exact absurd h h0
      · simp [h, h1]
    show pos + (if lod (s[pos]'h) = true then _ else 0) = pos
    rw [hl, if_neg Bool.false_ne_true]
    omega
theorem nameAt_end {s : ByteArray} {pos : Nat} (h : ¬ pos < s.size) (hp : pos ≤ s.size) (ha : NameAt s.data.toList pos) : nameLen s.data.toList = s.size := by
  have hl : s.data.toList.length = s.size := by simp
  unfold NameAt at ha
  by_cases h0 : pos = 0
  · have hn : s.data.toList = [] := List.eq_nil_of_length_eq_zero (by omega)
    rw [hn] at hl ⊢; exact hl
  · rw [if_neg h0, List.drop_eq_nil_of_le (by omega)] at ha
    rw [ha]; show pos + 0 = _; omega
end SC
namespace Go.Proofs.YtdikoeeoglfmaaaGreatDoor
open Go.RowKit SC
set_option maxHeartbeats 400000 in
theorem letter_any (r : Int) (w : World) : Calls Tryz.prog 58 #[.int .i32 r] w fun e w' => e = .returned (.bool (decide (97 ≤ r) && decide (r ≤ 122))) ∧ w = w' := by
  go_enter Tryz.func58, Tryz.ntmps58
  go_wp2
  all_goals (go_ret; exact ⟨congrArg (fun b => Ending.returned (.bool b)) (by simp; omega), rfl⟩)
set_option maxHeartbeats 400000 in
theorem digit_any (r : Int) (w : World) : Calls Tryz.prog 59 #[.int .i32 r] w fun e w' => e = .returned (.bool (decide (48 ≤ r) && decide (r ≤ 57))) ∧ w = w' := by
  go_enter Tryz.func59, Tryz.ntmps59
  go_wp2
  all_goals (go_ret; exact ⟨congrArg (fun b => Ending.returned (.bool b)) (by simp; omega), rfl⟩)
end Go.Proofs.YtdikoeeoglfmaaaGreatDoor

namespace SC
open Go Go.RowKit
theorem skp_comment_end : ∀ {l : List UInt8}, Lib.indexByte l 10 = -1 → skp true l = l.length
  | [], _ => rfl
  | c :: t, h => by
    unfold Lib.indexByte at h
    by_cases h1 : c = 10
    · subst h1; rw [if_pos (by decide)] at h; exact absurd h (by decide)
    · rw [if_neg (by simpa using h1)] at h
      by_cases h2 : (Lib.indexByte t 10 == -1) = true
      · rw [skp_t, if_neg h1, skp_comment_end (by simpa using h2)]; rfl
      · rw [if_neg h2] at h
        have := Lib.indexByte_ge t 10
        omega
theorem skp_comment_line : ∀ {l : List UInt8} {n : Nat}, Lib.indexByte l 10 = n → skp true l = n + skp false (l.drop n) ∧ n < l.length
  | [], n, h => by have h : (-1 : Int) = n := h; omega
  | c :: t, n, h => by
    unfold Lib.indexByte at h
    by_cases h1 : c = 10
    · subst h1
      rw [if_pos (by decide)] at h
      obtain rfl : n = 0 := by omega
      refine ⟨?_, by simp⟩
      rw [List.drop_zero, skp_t, if_pos rfl, skp_blank (by decide)]
      omega
    · rw [if_neg (by simpa using h1)] at h
      by_cases h2 : (Lib.indexByte t 10 == -1) = true
      · rw [if_pos h2] at h; omega
      · rw [if_neg h2] at h
        have h2' : Lib.indexByte t 10 ≠ -1 := by simpa using h2
        obtain ⟨m, rfl⟩ : ∃ m, n = m + 1 := ⟨n - 1, by have := Lib.indexByte_ge t 10; omega⟩
        obtain ⟨e1, e2⟩ := skp_comment_line (l := t) (n := m) (by omega)
        refine ⟨?_, by simpa using e2⟩
        rw [skp_t, if_neg h1, e1, List.drop_succ_cons]
        omega
theorem nb {b : UInt8} {n : Nat} (h : b ≠ UInt8.ofNat n) (hn : n < 256) : ((b.toNat : Int) == (n : Int)) = false := by
  rw [beq_eq_false_iff_ne]
  intro e
  refine h (UInt8.toNat_inj.1 ?_)
  rw [UInt8.toNat_ofNat_of_lt' (by simpa using hn)]
  omega
theorem idx_hash {t : List UInt8} (h : Lib.indexByte (35 :: t) 10 = -1) : skp false (35 :: t) = (35 :: t).length := by
  have := skp_comment_end h
  rw [skp_hash]; rw [skp_t, if_neg (by decide)] at this; exact this
theorem idx_hash_line {t : List UInt8} {n : Nat} (h : Lib.indexByte (35 :: t) 10 = n) : skp false (35 :: t) = n + skp false ((35 :: t).drop n) ∧ n < (35 :: t).length ∧ 0 < n := by
  obtain ⟨e1, e2⟩ := skp_comment_line h
  refine ⟨?_, e2, ?_⟩
  · rw [skp_hash]; rw [skp_t, if_neg (by decide)] at e1; exact e1
  · by_cases h0 : n = 0
    · subst h0
      have := (Lib.indexByte_some (l := 35 :: t) (c := 10) (o := 0) h).1
      simp at this
    · omega
end SC
namespace Go.Proofs.YtdikoeeoglfmaaaGreatDoor
open Go.RowKit SC
set_option maxHeartbeats 1000000 in
set_option maxRecDepth 100000 in
theorem skip_any (s : ByteArray) (a : Nat) (w : World) (hs : s.size ≤ 9223372036854775807) (ha : a ≤ s.size) :
    Calls Tryz.prog 34 #[.string s, .int .i64 a] w fun e w' => e = .returned (.int .i64 ((a + skp false (s.data.toList.drop a) : Nat) : Int)) ∧ w = w' := by
  generalize hz : a + skp false (s.data.toList.drop a) = z
  have HZ := Lib.hid hz
  clear hz
  go_enter Tryz.func34, Tryz.ntmps34
  go_wp2_with fail
  go_loop [1] (fun i => ∃ k : Nat, k ≤ s.size ∧ i = .int .i64 k ∧ Hid (z = k + skp false (s.data.toList.drop k))) (fun i => s.size - (intOf i).toNat)
  case atStart => exact ⟨a, ha, rfl, Lib.hid HZ.out.symm⟩
  case round =>
    obtain ⟨k, hk, rfl, hrest⟩ := hrel
    by_cases hp : k < s.size
    · have HC := Lib.hid (drop_cons s k hp)
      generalize hb : s[k]'hp = b at *
      by_cases hh : b = 35
      · have t1 : ((b.toNat : Int) == 32) = false := by subst hh; decide
        have t2 : ((b.toNat : Int) == 9) = false := by subst hh; decide
        have t3 : ((b.toNat : Int) == 10) = false := by subst hh; decide
        have t4 : ((b.toNat : Int) == 35) = true := by subst hh; decide
        have HX := Lib.hid (show (s.extract k s.size).data.toList = 35 :: s.data.toList.drop (k + 1) by rw [Lib.extract_to_end, HC.out, hh])
        have hI := fun w => Tryz.strings_IndexByte (s.extract k s.size) 10 w
        rw [HX.out] at hI
        have HH := Lib.hid (show s.data.toList.drop k = 35 :: s.data.toList.drop (k + 1) by rw [HC.out, hh])
        clear hh HC
        have hlen : (35 :: s.data.toList.drop (k + 1)).length = s.size - k := by simp; omega
        cases hn : Lib.indexByte (35 :: s.data.toList.drop (k + 1)) 10 == -1
        · obtain ⟨n, hn2⟩ : ∃ n : Nat, Lib.indexByte (35 :: s.data.toList.drop (k + 1)) 10 = n := ⟨(Lib.indexByte (35 :: s.data.toList.drop (k + 1)) 10).toNat, by
            have := Lib.indexByte_ge (35 :: s.data.toList.drop (k + 1)) 10
            have : Lib.indexByte (35 :: s.data.toList.drop (k + 1)) 10 ≠ -1 := by simpa using hn
            omega⟩
          obtain ⟨e1, e2, e3⟩ := idx_hash_line hn2
          rw [hlen] at e2
          have HE := Lib.hid (show z = (k + n : Nat) + skp false (s.data.toList.drop (k + n)) by rw [hrest.out, HH.out, e1, ← HH.out, List.drop_drop, Nat.add_assoc])
          have hI2 := fun w => hI w
          rw [show (10 : Int).toNat.toUInt8 = 10 from rfl, hn2] at hI2
          have hkn : k + n ≤ 9223372036854775807 := by omega
          clear hI hn hn2 hlen e1 hrest HH HX HZ
          go_wp2_with (go_at_call 53; refine (hI2 _).mono ?_; rintro e w' ⟨rfl, rfl⟩)
          go_round
          case rel => exact ⟨k + n, by omega, by go_num, HE⟩
          case measure => simp [intOf]; omega
        · have hn2 : Lib.indexByte (35 :: s.data.toList.drop (k + 1)) 10 = -1 := by simpa using hn
          have HE := Lib.hid (show z = s.size by rw [hrest.out, HH.out, idx_hash hn2, hlen]; omega)
          have hI2 := fun w => hI w
          rw [show (10 : Int).toNat.toUInt8 = 10 from rfl, hn2] at hI2
          clear hI hn hn2 hlen hrest HH HX HZ
          go_wp2_with (go_at_call 53; refine (hI2 _).mono ?_; rintro e w' ⟨rfl, rfl⟩)
          go_ret
          exact ⟨by rw [HE.out]; rfl, rfl⟩
      · have t4 : ((b.toNat : Int) == 35) = false := nb (n := 35) hh (by decide)
        by_cases hbl : isBlank b = true
        · have HE := Lib.hid (show z = (k + 1 : Nat) + skp false (s.data.toList.drop (k + 1)) by rw [hrest.out, HC.out, skp_blank hbl]; omega)
          have HB : b = 32 ∨ b = 9 ∨ b = 10 := by simpa [isBlank, or_assoc] using hbl
          clear hrest HC hbl hh
          rcases HB with rfl | rfl | rfl
          all_goals
            clear t4
            go_wp2_with fail
            go_round
            case rel => exact ⟨k + 1, by omega, by go_num, HE⟩
            case measure => simp [intOf]; omega
        · have hbl2 : isBlank b = false := by simpa using hbl
          have t1 : ((b.toNat : Int) == 32) = false := nb (b := b) (n := 32) (fun h => by subst h; exact hbl (by decide)) (by decide)
          have t2 : ((b.toNat : Int) == 9) = false := nb (b := b) (n := 9) (fun h => by subst h; exact hbl (by decide)) (by decide)
          have t3 : ((b.toNat : Int) == 10) = false := nb (b := b) (n := 10) (fun h => by subst h; exact hbl (by decide)) (by decide)
          have HE := Lib.hid (show z = k by rw [hrest.out, HC.out, skp_none hbl2 hh]; rfl)
          clear hrest HC hbl hh hbl2
          go_wp2_with fail
          go_ret
          exact ⟨by rw [HE.out]; rfl, rfl⟩
    · have HE := Lib.hid (show z = k by
        rw [hrest.out, List.drop_eq_nil_of_le (by simp; omega), skp_nil]; rfl)
      go_wp2_with fail
      go_ret
      exact ⟨by rw [HE.out]; rfl, rfl⟩
end Go.Proofs.YtdikoeeoglfmaaaGreatDoor

namespace Go.Proofs.YtdikoeeoglfmaaaGreatDoor
open Go.RowKit SC
set_option maxHeartbeats 1000000 in
theorem nameLength_any (s : ByteArray) (w : World) (_hs : s.size ≤ 9223372036854775807) :
    Calls Tryz.prog 36 #[.string s] w fun e w' => e = .returned (.int .i64 (nameLen s.data.toList)) ∧ Below w.heap.size w w' := by
  go_enter Tryz.func36, Tryz.ntmps36
  go_wp2_with fail
  go_loopw [] (fun wr => ∃ pos : Nat, pos ≤ s.size ∧ wr.heap[w.heap.size]? = some (.stringIter s pos) ∧ Below w.heap.size w wr ∧ NameAt s.data.toList pos) (fun wr => s.size - wr.iterPos w.heap.size)
  case atStart =>
    exact ⟨0, Nat.zero_le _, by have := World.iter_heap w s 0; simpa using this, (Below.refl _ w).alloc (Nat.le_refl _) _, nameAt_zero _⟩
  case round =>
    obtain ⟨pos, hpos, hit, hbw, hN⟩ := hrel
    have HN := Lib.hid hN
    clear hN
    by_cases hp : pos < s.size
    · have hnx : ∀ ty, (Instr.next (.pointer (some ⟨w.heap.size, 0, none⟩)) true ty).run Tryz.prog wr = _ := fun ty => Lib.run_next_any_at wr w.heap.size s pos ty hit hp
      obtain ⟨f1, f2, f3⟩ := dec_facts s pos hp
      have hL := fun W => letter_any ((Utf8.decode s pos).1 : Int) W
      have hD := fun W => digit_any ((Utf8.decode s pos).1 : Int) W
      have e1 : (decide (97 ≤ ((Utf8.decode s pos).1 : Int)) && decide (((Utf8.decode s pos).1 : Int) ≤ 122)) = ltr (s[pos]'hp) := by rw [Bool.eq_iff_iff, ← f1]; simp
      have e2 : (decide (48 ≤ ((Utf8.decode s pos).1 : Int)) && decide (((Utf8.decode s pos).1 : Int) ≤ 57)) = dgt (s[pos]'hp) := by rw [Bool.eq_iff_iff, ← f2]; simp
      rw [e1] at hL
      rw [e2] at hD
      clear e1 e2 f1 f2
      have F3 := Lib.hid f3
      clear f3
      cases hl : ltr (s[pos]'hp) with
      | true =>
        have hgo := Lib.hid (nameAt_next hp HN.out (.inl hl))
        have hw := F3.out (by unfold lod; rw [hl]; rfl)
        rw [hl] at hL
        rw [hw] at hnx hL
        have hit2 := Lib.iterAt_heap wr w.heap.size s pos (pos + 1) hit
        have hbw2 := Lib.below_iterAt hbw (k := w.heap.size) (Nat.le_refl _) s (pos + 1)
        clear F3 HN hD hl hw
        go_wp2_with (go_at_call 58; refine (hL _).mono ?_; rintro e w' ⟨rfl, rfl⟩)
        go_roundw
        case rel => exact ⟨pos + 1, by omega, hit2, hbw2, hgo.out⟩
        case measure =>
          simp only [World.iterPos, hit2, hit]
          omega
      | false =>
        by_cases h0 : pos ≠ 0 ∧ dgt (s[pos]'hp) = true
        · have hgo := Lib.hid (nameAt_next hp HN.out (.inr h0))
          have hw := F3.out (by unfold lod; rw [h0.2, Bool.or_true])
          rw [hl] at hL
          rw [h0.2] at hD
          rw [hw] at hnx hL hD
          have hne : (((pos : Nat) : Int) == 0) = false := beq_eq_false_iff_ne.2 (by omega)
          have hit2 := Lib.iterAt_heap wr w.heap.size s pos (pos + 1) hit
          have hbw2 := Lib.below_iterAt hbw (k := w.heap.size) (Nat.le_refl _) s (pos + 1)
          clear F3 HN hl hw h0
          go_wp2_with (first | (go_at_call 58; refine (hL _).mono ?_; rintro e w' ⟨rfl, rfl⟩) | (go_at_call 59; refine (hD _).mono ?_; rintro e w' ⟨rfl, rfl⟩))
          go_roundw
          case rel => exact ⟨pos + 1, by omega, hit2, hbw2, hgo.out⟩
          case measure =>
            simp only [World.iterPos, hit2, hit]
            omega
        · have hgo := Lib.hid (nameAt_stop hp HN.out hl (by
            by_cases h : pos = 0
            · exact .inl h
            · exact .inr (Bool.eq_false_iff.2 fun hh => h0 ⟨h, hh⟩)))
          have hbw2 := Lib.below_iterAt hbw (k := w.heap.size) (Nat.le_refl _) s (pos + (Utf8.decode s pos).2)
          rw [hl] at hL
          by_cases h1 : pos = 0
          · subst h1
            clear F3 HN hl h0 hD
            go_wp2_with (first | (go_at_call 58; refine (hL _).mono ?_; rintro e w' ⟨rfl, rfl⟩))
            go_ret
            exact ⟨by rw [hgo.out]; rfl, by simpa using hbw2⟩
          · have hd : dgt (s[pos]'hp) = false := Bool.eq_false_iff.2 fun hh => h0 ⟨h1, hh⟩
            rw [hd] at hD
            have hne : (((pos : Nat) : Int) == 0) = false := beq_eq_false_iff_ne.2 (by omega)
            clear F3 HN hl h0 hd
            go_wp2_with (first | (go_at_call 58; refine (hL _).mono ?_; rintro e w' ⟨rfl, rfl⟩) | (go_at_call 59; refine (hD _).mono ?_; rintro e w' ⟨rfl, rfl⟩))
            go_ret
            exact ⟨by rw [hgo.out]; rfl, hbw2⟩
    · have hnx : ∀ ty, (Instr.next (.pointer (some ⟨w.heap.size, 0, none⟩)) true ty).run Tryz.prog wr = _ := fun ty => Lib.run_next_end_at wr w.heap.size s pos ty hit hp
      have HE := Lib.hid (nameAt_end hp hpos HN.out)
      go_wp2_with fail
      go_ret
      exact ⟨by rw [HE.out]; rfl, hbw⟩
end Go.Proofs.YtdikoeeoglfmaaaGreatDoor

namespace PB
def B : Nat := 4294967296
theorem B_eq : B = 4294967296 := rfl
theorem B_pos : 0 < B := by decide
theorem Bp (i : Nat) : 0 < B^i := Nat.pow_pos (by decide)
/-- Limb i of X. -/
def dg (X i : Nat) : Nat := X / B^i % B
theorem dg_lt (X i : Nat) : dg X i < B := Nat.mod_lt _ (by decide)
theorem dg_lt' (X i : Nat) : dg X i < 4294967296 := dg_lt X i
theorem dg_zero (i : Nat) : dg 0 i = 0 := by simp [dg]
theorem mod_succ (X i : Nat) : X % B^(i+1) = X % B^i + dg X i * B^i := by
  unfold dg
  rw [Nat.pow_succ, Nat.mod_mul, Nat.mul_comm]
theorem div_succ (X i : Nat) : X / B^i = X / B^(i+1) * B + dg X i := by
  unfold dg
  rw [Nat.pow_succ, ← Nat.div_div_eq_div_mul, Nat.mul_comm, Nat.div_add_mod]
theorem pow_le {n m : Nat} (h : n ≤ m) : B^n ≤ B^m := Nat.pow_le_pow_right (by decide) h
theorem pow_add (n m : Nat) : B^(n+m) = B^n * B^m := Nat.pow_add _ _ _
theorem pow_succ (n : Nat) : B^(n+1) = B^n * B := Nat.pow_succ _ _
theorem dg_of_lt {X n i : Nat} (h : X < B^n) (hi : n ≤ i) : dg X i = 0 := by
  unfold dg
  rw [Nat.div_eq_of_lt (Nat.lt_of_lt_of_le h (pow_le hi)), Nat.zero_mod]
theorem dg_add_lo {S d k i : Nat} (hi : i < k) : dg (S + d * B^k) i = dg S i := by
  obtain ⟨j, rfl⟩ : ∃ j, k = i + 1 + j := ⟨k - i - 1, by omega⟩
  unfold dg
  rw [pow_add, pow_succ, show S + d * (B^i * B * B^j) = S + B^i * (d * B^j * B) by grind, Nat.add_mul_div_left _ _ (Bp i), Nat.add_mul_mod_self_right]
theorem dg_add_hi {S d k i : Nat} (hS : S < B^k) : dg (S + d * B^k) (k + i) = dg d i := by
  unfold dg
  rw [pow_add, ← Nat.div_div_eq_div_mul, Nat.add_mul_div_right _ _ (Bp k), Nat.div_eq_of_lt hS, Nat.zero_add]
theorem dg_add_eq {S d k : Nat} (hS : S < B^k) (hd : d < B) : dg (S + d * B^k) k = d := by
  have h := dg_add_hi (i := 0) (d := d) hS
  rw [Nat.add_zero] at h
  rw [h]; unfold dg; rw [Nat.pow_zero, Nat.div_one, Nat.mod_eq_of_lt hd]
theorem add_lt_pow {S d k : Nat} (hS : S < B^k) (hd : d < B) : S + d * B^k < B^(k+1) := by
  rw [pow_succ, Nat.mul_comm (B^k)]
  have h1 : (d + 1) * B^k ≤ B * B^k := Nat.mul_le_mul_right _ hd
  have h2 : (d + 1) * B^k = d * B^k + B^k := by grind
  omega
theorem mod_lt_pow (X k : Nat) : X % B^k < B^k := Nat.mod_lt _ (Bp k)
theorem mod_of_lt {X k : Nat} (h : X < B^k) : X % B^k = X := Nat.mod_eq_of_lt h
theorem dg_mod {X k i : Nat} (hi : i < k) : dg (X % B^k) i = dg X i := by
  have h := dg_add_lo (S := X % B^k) (d := X / B^k) hi
  rw [← h, Nat.mod_add_div' X (B^k)]
theorem dg_div (X k i : Nat) : dg (X / B^k) i = dg X (k + i) := by
  unfold dg; rw [pow_add, Nat.div_div_eq_div_mul]
theorem split (X k : Nat) : X = X % B^k + X / B^k * B^k := (Nat.mod_add_div' X (B^k)).symm
theorem dg_ext {X Y n : Nat} (hX : X < B^n) (hY : Y < B^n) (h : ∀ i, i < n → dg X i = dg Y i) : X = Y := by
  suffices ∀ k, k ≤ n → X % B^k = Y % B^k by
    have := this n (Nat.le_refl _); rwa [mod_of_lt hX, mod_of_lt hY] at this
  intro k hk
  induction k with
  | zero => simp [Nat.mod_one]
  | succ k ih => rw [mod_succ, mod_succ, ih (by omega), h k (by omega)]
theorem lt_pow_of_dg {X n k : Nat} (hX : X < B^n) (hk : k ≤ n) (h : ∀ i, k ≤ i → i < n → dg X i = 0) : X < B^k := by
  have : ∀ j, j ≤ n - k → X < B^(n - j) := by
    intro j hj
    induction j with
    | zero => simpa using hX
    | succ j ih =>
      have i1 := ih (by omega)
      have e : n - j = (n - (j+1)) + 1 := by omega
      rw [e] at i1
      have hm := mod_succ X (n - (j+1))
      rw [mod_of_lt i1, h (n - (j+1)) (by omega) (by omega), Nat.zero_mul, Nat.add_zero] at hm
      rw [hm]; exact mod_lt_pow _ _
  have h2 := this (n - k) (Nat.le_refl _)
  rwa [show n - (n - k) = k by omega] at h2
/-- The number of limbs of X. -/
def nl (X : Nat) : Nat := if h : X = 0 then 0 else nl (X / B) + 1
termination_by X
decreasing_by exact Nat.div_lt_self (by omega) (by decide)
theorem nl_zero : nl 0 = 0 := by rw [nl, dif_pos rfl]
theorem nl_pos {X : Nat} (h : X ≠ 0) : nl X = nl (X / B) + 1 := by rw [nl, dif_neg h]
theorem lt_nl (X : Nat) : X < B^(nl X) := by
  induction X using Nat.strongRecOn with
  | _ X ih =>
    by_cases h : X = 0
    · subst h; exact Bp _
    · rw [nl_pos h, pow_succ]
      have := ih (X / B) (Nat.div_lt_self (by omega) (by decide))
      exact (Nat.div_lt_iff_lt_mul B_pos).1 this
theorem nl_le {X k : Nat} (h : X < B^k) : nl X ≤ k := by
  induction k generalizing X with
  | zero => simp at h; subst h; rw [nl_zero]; omega
  | succ k ih =>
    by_cases h0 : X = 0
    · subst h0; rw [nl_zero]; omega
    · rw [nl_pos h0]
      have := ih (X := X / B) ((Nat.div_lt_iff_lt_mul B_pos).2 (by rwa [pow_succ] at h))
      omega
theorem nl_le_iff {X k : Nat} : nl X ≤ k ↔ X < B^k := ⟨fun h => Nat.lt_of_lt_of_le (lt_nl X) (pow_le h), nl_le⟩
theorem nl_eq {X k : Nat} (h : X < B^k) (ht : k = 0 ∨ dg X (k-1) ≠ 0) : nl X = k := by
  have h1 := nl_le h
  rcases ht with rfl | ht
  · omega
  · by_cases h2 : nl X = k
    · exact h2
    · exact absurd (dg_of_lt (lt_nl X) (show nl X ≤ k - 1 by omega)) ht
theorem nl_eq_zero {X : Nat} : nl X = 0 ↔ X = 0 := by
  constructor
  · intro h; have := lt_nl X; rw [h] at this; simp at this; exact this
  · rintro rfl; exact nl_zero
theorem nl_top {X : Nat} (h : X ≠ 0) : dg X (nl X - 1) ≠ 0 := by
  intro h0
  have hz : nl X ≠ 0 := fun e => h (nl_eq_zero.1 e)
  have := lt_pow_of_dg (k := nl X - 1) (lt_nl X) (by omega) (fun i h1 h2 => by rw [show i = nl X - 1 by omega]; exact h0)
  have := nl_le this
  omega
theorem pow_le_of_nl {X : Nat} (h : X ≠ 0) : B^(nl X - 1) ≤ X := by
  apply Nat.le_of_not_lt
  intro hlt
  have := nl_le hlt
  have hz : nl X ≠ 0 := fun e => h (nl_eq_zero.1 e)
  omega
theorem nl_mono {X Y : Nat} (h : X ≤ Y) : nl X ≤ nl Y := nl_le (Nat.lt_of_le_of_lt h (lt_nl Y))
/-- One more limb: what the first k+1 limbs are. -/
theorem lt_of_nl_lt {X Y : Nat} (h : nl X < nl Y) : X < Y := by
  apply Nat.lt_of_not_le
  intro h2
  have := nl_mono h2
  omega
/-- Comparing from the top. -/
theorem lt_of_dg {X Y k : Nat} (h : X / B^(k+1) = Y / B^(k+1)) (hd : dg X k < dg Y k) : X < Y := by
  have hx := div_succ X k
  have hy := div_succ Y k
  have : X / B^k < Y / B^k := by rw [hx, hy, h]; omega
  apply Nat.lt_of_not_le
  intro hle
  have := Nat.div_le_div_right (c := B^k) hle
  omega
theorem div_eq_of_dg {X Y k : Nat} (h : X / B^(k+1) = Y / B^(k+1)) (hd : dg X k = dg Y k) : X / B^k = Y / B^k := by
  rw [div_succ X k, div_succ Y k, h, hd]
/-- The number X with limb k replaced by d. -/
def put (X k d : Nat) : Nat := X % B^k + d * B^k + X / B^(k+1) * B^(k+1)
theorem put_eq (X k d : Nat) : put X k d + dg X k * B^k = X + d * B^k := by
  have h1 := split X (k+1)
  have h2 := mod_succ X k
  unfold put
  omega
theorem dg_put_same {X k d : Nat} (hd : d < B) : dg (put X k d) k = d := by
  unfold put
  rw [dg_add_lo (by omega), dg_add_eq (mod_lt_pow _ _) hd]
theorem dg_put_other {X k d i : Nat} (hd : d < B) (h : i ≠ k) : dg (put X k d) i = dg X i := by
  unfold put
  by_cases hlt : i < k
  · rw [dg_add_lo (by omega), dg_add_lo hlt, dg_mod hlt]
  · obtain ⟨j, rfl⟩ : ∃ j, i = k + 1 + j := ⟨i - k - 1, by omega⟩
    rw [dg_add_hi (add_lt_pow (mod_lt_pow _ _) hd), dg_div]
theorem put_lt {X k d n : Nat} (hd : d < B) (hX : X < B^n) (hk : k < n) : put X k d < B^n := by
  have hq : X / B^(k+1) < B^(n - (k+1)) := (Nat.div_lt_iff_lt_mul (Bp _)).2 (by rw [← pow_add, show n - (k+1) + (k+1) = n by omega]; exact hX)
  have h1 := add_lt_pow (mod_lt_pow X k) hd
  unfold put
  have h2 : (X / B^(k+1) + 1) * B^(k+1) ≤ B^(n - (k+1)) * B^(k+1) := Nat.mul_le_mul_right _ hq
  rw [← pow_add, show n - (k+1) + (k+1) = n by omega, Nat.add_mul, Nat.one_mul] at h2
  omega
/-- Adding limb by limb. -/
theorem add_step {S c x y d c' P X Y : Nat} (h : S + c * P = X + Y) (hd : d + c' * B = x + y + c) :
    (S + d * P) + c' * (P * B) = (X + x * P) + (Y + y * P) := by
  have : (d + c' * B) * P = (x + y + c) * P := by rw [hd]
  grind
end PB

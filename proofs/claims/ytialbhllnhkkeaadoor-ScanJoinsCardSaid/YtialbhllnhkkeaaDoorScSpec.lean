/-
  Words of a text: plain functions on lists of bytes, and their laws.
-/
import Derived.Lib.Hide
namespace SC
def ltr (b : UInt8) : Bool := decide (97 ≤ b.toNat) && decide (b.toNat ≤ 122)
def dgt (b : UInt8) : Bool := decide (48 ≤ b.toNat) && decide (b.toNat ≤ 57)
def lod (b : UInt8) : Bool := ltr b || dgt b
def isBlank (b : UInt8) : Bool := b == 32 || b == 9 || b == 10
/-- How many bytes at the beginning fit. -/
def span (p : UInt8 → Bool) : List UInt8 → Nat
  | [] => 0
  | c :: t => if p c then span p t + 1 else 0
def nameLen : List UInt8 → Nat
  | [] => 0
  | c :: t => if ltr c then span lod t + 1 else 0
/-- Behind a minus sign. -/
def digs (l : List UInt8) : List UInt8 := if l.head? = some 45 then l.drop 1 else l
def sgn (l : List UInt8) : Nat := if l.head? = some 45 then 1 else 0
def numLen (l : List UInt8) : Nat := if span dgt (digs l) = 0 then 0 else sgn l + span dgt (digs l)
def val (l : List UInt8) : Nat := l.foldl (fun n c => 10 * n + (c.toNat - 48)) 0
/-- The digits of the number that stands at the beginning. -/
def numDig (l : List UInt8) : List UInt8 := (digs l).take (span dgt (digs l))
def numVal (l : List UInt8) : Int := if l.head? = some 45 then -(val (numDig l) : Int) else val (numDig l)
/-- The word at the beginning. -/
inductive FR
  | bad (e : Int)
  | ok (k : Int) (n : Nat) (v : Int)
def fst (l : List UInt8) : FR :=
  if nameLen l ≠ 0 then (if nameLen l ≤ 12 then .ok 1 (nameLen l) 0 else .bad 6)
  else if numLen l ≠ 0 then (if val (numDig l) ≤ 1073741824 then .ok 2 (numLen l) (numVal l) else .bad 5)
  else if l.head? = some 59 then .ok 3 1 0 else .bad 4
/-- What lies between words. -/
def skp : Bool → List UInt8 → Nat
  | _, [] => 0
  | false, c :: t => if isBlank c then skp false t + 1 else if c = 35 then skp true t + 1 else 0
  | true, c :: t => if c = 10 then skp false t + 1 else skp true t + 1
structure W where
  kind : Int
  text : List UInt8
  num : Int
  pos : Nat
inductive WR
  | bad (e : Int) (pos : Nat)
  | ok (l : List W)
def wordsF : Nat → List UInt8 → Nat → List W → WR
  | 0, _, _, acc => .ok acc
  | f + 1, l, at_, acc =>
    let r := l.drop (skp false l)
    let p := at_ + skp false l
    if r = [] then .ok acc
    else match fst r with
      | .bad e => .bad e p
      | .ok k n v => if k = 2 ∧ nameLen (r.drop n) ≠ 0 then .bad 4 (p + n) else wordsF f (r.drop n) (p + n) (acc ++ [⟨k, r.take n, v, p⟩])
/-- The words of the rest l, which begins at a place; acc came before. -/
def wordsR (l : List UInt8) (at_ : Nat) (acc : List W) : WR := wordsF (l.length + 1) l at_ acc
def words (l : List UInt8) : WR := if 20000 < l.length then .bad 2 0 else wordsR l 0 []

theorem span_le (p : UInt8 → Bool) : ∀ l, span p l ≤ l.length
  | [] => Nat.le_refl _
  | c :: t => by
    unfold span
    split
    · have := span_le p t; simp; omega
    · exact Nat.zero_le _
theorem nameLen_le (l : List UInt8) : nameLen l ≤ l.length := by
  cases l with
  | nil => exact Nat.le_refl _
  | cons c t =>
    show (if ltr c = true then span lod t + 1 else 0) ≤ _
    split
    · have := span_le lod t; simp; omega
    · exact Nat.zero_le _
theorem digs_length (l : List UInt8) : (digs l).length + sgn l = l.length := by
  unfold digs sgn
  cases l with
  | nil => rfl
  | cons c t => by_cases h : c = 45 <;> simp [h]
theorem numLen_le (l : List UInt8) : numLen l ≤ l.length := by
  unfold numLen
  split
  · exact Nat.zero_le _
  · have := span_le dgt (digs l); have := digs_length l; omega
theorem skp_nil (b : Bool) : skp b [] = 0 := by cases b <;> rfl
theorem skp_f (c : UInt8) (t : List UInt8) : skp false (c :: t) = if isBlank c then skp false t + 1 else if c = 35 then skp true t + 1 else 0 := rfl
theorem skp_t (c : UInt8) (t : List UInt8) : skp true (c :: t) = if c = 10 then skp false t + 1 else skp true t + 1 := rfl
theorem skp_le : ∀ (b : Bool) (l : List UInt8), skp b l ≤ l.length
  | b, [] => by rw [skp_nil]; exact Nat.zero_le _
  | false, c :: t => by
    rw [skp_f]
    have h1 := skp_le false t
    have h2 := skp_le true t
    split
    · simp; omega
    · split
      · simp; omega
      · exact Nat.zero_le _
  | true, c :: t => by
    rw [skp_t]
    have h1 := skp_le false t
    have h2 := skp_le true t
    split <;> (simp; omega)
theorem fst_len {l : List UInt8} {k : Int} {n : Nat} {v : Int} (h : fst l = .ok k n v) : 1 ≤ n ∧ n ≤ l.length := by
  unfold fst at h
  split at h
  · split at h
    · cases h; exact ⟨by omega, nameLen_le l⟩
    · cases h
  · split at h
    · split at h
      · cases h; exact ⟨by omega, numLen_le l⟩
      · cases h
    · split at h
      · rename_i h3
        cases h
        refine ⟨Nat.le_refl _, ?_⟩
        cases l with
        | nil => cases h3
        | cons c t => simp
      · cases h
theorem wordsF_fuel : ∀ (f g : Nat) (l : List UInt8) (at_ : Nat) (acc : List W), l.length < f → l.length < g → wordsF f l at_ acc = wordsF g l at_ acc
  | 0, _, l, _, _, h, _ => by omega
  | _, 0, l, _, _, _, h => by omega
  | f + 1, g + 1, l, at_, acc, hf, hg => by
    unfold wordsF
    simp only
    split
    · rfl
    · cases hr : fst (l.drop (skp false l)) with
      | bad e => rfl
      | ok k n v =>
        simp only
        split
        · rfl
        · have hn := fst_len hr
          refine wordsF_fuel f g _ _ _ ?_ ?_ <;> (simp only [List.length_drop] at hn ⊢; omega)
/-- One round. -/
theorem wordsR_eq (l : List UInt8) (at_ : Nat) (acc : List W) : wordsR l at_ acc =
    if l.drop (skp false l) = [] then .ok acc
    else match fst (l.drop (skp false l)) with
      | .bad e => .bad e (at_ + skp false l)
      | .ok k n v => if k = 2 ∧ nameLen ((l.drop (skp false l)).drop n) ≠ 0 then .bad 4 (at_ + skp false l + n) else wordsR ((l.drop (skp false l)).drop n) (at_ + skp false l + n) (acc ++ [⟨k, (l.drop (skp false l)).take n, v, at_ + skp false l⟩]) := by
  unfold wordsR
  rw [wordsF]
  split
  · rfl
  · cases hr : fst (l.drop (skp false l)) with
    | bad e => rfl
    | ok k n v =>
      simp only
      split
      · rfl
      · have hn := fst_len hr
        refine wordsF_fuel _ _ _ _ _ ?_ ?_ <;> (simp only [List.length_drop] at hn ⊢; omega)
/-- Between words nothing stays to be skipped. -/
theorem skp_stop : ∀ (b : Bool) (l : List UInt8), skp false (l.drop (skp b l)) = 0
  | b, [] => by rw [skp_nil]; exact skp_nil _
  | false, c :: t => by
    by_cases h1 : isBlank c = true
    · rw [skp_f, if_pos h1, List.drop_succ_cons]; exact skp_stop false t
    · by_cases h2 : c = 35
      · rw [skp_f, if_neg h1, if_pos h2, List.drop_succ_cons]; exact skp_stop true t
      · have h0 : skp false (c :: t) = 0 := by rw [skp_f, if_neg h1, if_neg h2]
        rw [h0, List.drop_zero]; exact h0
  | true, c :: t => by
    by_cases h1 : c = 10
    · rw [skp_t, if_pos h1, List.drop_succ_cons]; exact skp_stop false t
    · rw [skp_t, if_neg h1, List.drop_succ_cons]; exact skp_stop true t
theorem wordsR_skip (l : List UInt8) (at_ : Nat) (acc : List W) : wordsR (l.drop (skp false l)) (at_ + skp false l) acc = wordsR l at_ acc := by
  rw [wordsR_eq, wordsR_eq l, skp_stop, List.drop_zero, Nat.add_zero]
theorem skp_blank {c : UInt8} {t : List UInt8} (h : isBlank c = true) : skp false (c :: t) = skp false t + 1 := by rw [skp_f, if_pos h]
theorem skp_hash {t : List UInt8} : skp false (35 :: t) = skp true t + 1 := by
  rw [skp_f, if_neg (by decide), if_pos rfl]
theorem skp_none {c : UInt8} {t : List UInt8} (h1 : isBlank c = false) (h2 : c ≠ 35) : skp false (c :: t) = 0 := by
  rw [skp_f, if_neg (by rw [h1]; exact Bool.false_ne_true), if_neg h2]
/-- A round that skips. -/
theorem wordsR_step {l m : List UInt8} {k at_ : Nat} {acc : List W} (hm : l.drop k = m) (h : skp false l = k + skp false m) : wordsR l at_ acc = wordsR m (at_ + k) acc := by
  rw [← wordsR_skip l, ← wordsR_skip m, h, ← hm, List.drop_drop, Nat.add_assoc]
end SC

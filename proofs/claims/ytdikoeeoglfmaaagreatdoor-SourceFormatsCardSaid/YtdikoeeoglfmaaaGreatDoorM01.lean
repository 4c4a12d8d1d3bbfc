/-
  Words of a text: plain functions on lists of bytes, and their laws.
  Statements of a text: plain functions on words, and their first laws.
-/
import Derived.Lib.Hide
namespace SC
def ltr (b : UInt8) : Bool := decide (97 ≤ b.toNat) && decide (b.toNat ≤ 122)
def dgt (b : UInt8) : Bool := decide (48 ≤ b.toNat) && decide (b.toNat ≤ 57)
def lod (b : UInt8) : Bool := ltr b || dgt b
def isBlank (b : UInt8) : Bool := b == 32 || b == 9 || b == 10
/-- How many bytes at the beginning fit. -/
def span (p : UInt8 → Bool) : List UInt8 → Nat
  | [] => 0
  | c :: t => if p c then span p t + 1 else 0
def nameLen : List UInt8 → Nat
  | [] => 0
  | c :: t => if ltr c then span lod t + 1 else 0
/-- Behind a minus sign. -/
def digs (l : List UInt8) : List UInt8 := if l.head? = some 45 then l.drop 1 else l
def sgn (l : List UInt8) : Nat := if l.head? = some 45 then 1 else 0
def numLen (l : List UInt8) : Nat := if span dgt (digs l) = 0 then 0 else sgn l + span dgt (digs l)
def val (l : List UInt8) : Nat := l.foldl (fun n c => 10 * n + (c.toNat - 48)) 0
/-- The digits of the number that stands at the beginning. -/
def numDig (l : List UInt8) : List UInt8 := (digs l).take (span dgt (digs l))
def numVal (l : List UInt8) : Int := if l.head? = some 45 then -(val (numDig l) : Int) else val (numDig l)
/-- The word at the beginning. -/
inductive FR
  | bad (e : Int)
  | ok (k : Int) (n : Nat) (v : Int)
def fst (l : List UInt8) : FR :=
  if nameLen l ≠ 0 then (if nameLen l ≤ 12 then .ok 1 (nameLen l) 0 else .bad 6)
  else if numLen l ≠ 0 then (if val (numDig l) ≤ 1073741824 then .ok 2 (numLen l) (numVal l) else .bad 5)
  else if l.head? = some 59 then .ok 3 1 0 else .bad 4
/-- What lies between words. -/
def skp : Bool → List UInt8 → Nat
  | _, [] => 0
  | false, c :: t => if isBlank c then skp false t + 1 else if c = 35 then skp true t + 1 else 0
  | true, c :: t => if c = 10 then skp false t + 1 else skp true t + 1
structure W where
  kind : Int
  text : List UInt8
  num : Int
  pos : Nat
inductive WR
  | bad (e : Int) (pos : Nat)
  | ok (l : List W)
def wordsF : Nat → List UInt8 → Nat → List W → WR
  | 0, _, _, acc => .ok acc
  | f + 1, l, at_, acc =>
    let r := l.drop (skp false l)
    let p := at_ + skp false l
    if r = [] then .ok acc
    else match fst r with
      | .bad e => .bad e p
      | .ok k n v => if k = 2 ∧ nameLen (r.drop n) ≠ 0 then .bad 4 (p + n) else wordsF f (r.drop n) (p + n) (acc ++ [⟨k, r.take n, v, p⟩])
/-- The words of the rest l, which begins at a place; acc came before. -/
def wordsR (l : List UInt8) (at_ : Nat) (acc : List W) : WR := wordsF (l.length + 1) l at_ acc
def words (l : List UInt8) : WR := if 20000 < l.length then .bad 2 0 else wordsR l 0 []

theorem span_le (p : UInt8 → Bool) : ∀ l, span p l ≤ l.length
  | [] => Nat.le_refl _
  | c :: t => by
    unfold span
    split
    · have := span_le p t; simp; omega
    · exact Nat.zero_le _
theorem nameLen_le (l : List UInt8) : nameLen l ≤ l.length := by
  cases l with
  | nil => exact Nat.le_refl _
  | cons c t =>
    show (if ltr c = true then span lod t + 1 else 0) ≤ _
    split
    · have := span_le lod t; simp; omega
    · exact Nat.zero_le _
theorem digs_length (l : List UInt8) : (digs l).length + sgn l = l.length := by
  unfold digs sgn
  cases l with
  | nil => rfl
  | cons c t => by_cases h : c = 45 <;> simp [h]
theorem numLen_le (l : List UInt8) : numLen l ≤ l.length := by
  unfold numLen
  split
  · exact Nat.zero_le _
  · have := span_le dgt (digs l); have := digs_length l; omega
theorem skp_nil (b : Bool) : skp b [] = 0 := by cases b <;> rfl
theorem skp_f (c : UInt8) (t : List UInt8) : skp false (c :: t) = if isBlank c then skp false t + 1 else if c = 35 then skp true t + 1 else 0 := rfl
theorem skp_t (c : UInt8) (t : List UInt8) : skp true (c :: t) = if c = 10 then skp false t + 1 else skp true t + 1 := rfl
theorem skp_le : ∀ (b : Bool) (l : List UInt8), skp b l ≤ l.length
  | b, [] => by rw [skp_nil]; exact Nat.zero_le _
  | false, c :: t => by
    rw [skp_f]
    have h1 := skp_le false t
    have h2 := skp_le true t
    split
    · simp; omega
    · split
      · simp; omega
      · exact Nat.zero_le _
  | true, c :: t => by
    rw [skp_t]
    have h1 := skp_le false t
    have h2 := skp_le true t
    split <;> (simp; omega)
theorem fst_len {l : List UInt8} {k : Int} {n : Nat} {v : Int} (h : fst l = .ok k n v) : 1 ≤ n ∧ n ≤ l.length := by
  unfold fst at h
  split at h
  · split at h
    · cases h; exact ⟨by omega, nameLen_le l⟩
    · cases h
  · split at h
    · split at h
      · cases h; exact ⟨by omega, numLen_le l⟩
      · cases h
    · split at h
      · rename_i h3
        cases h
        refine ⟨Nat.le_refl _, ?_⟩
        cases l with
        | nil => cases h3
        | cons c t => simp
      · cases h
theorem wordsF_fuel : ∀ (f g : Nat) (l : List UInt8) (at_ : Nat) (acc : List W), l.length < f → l.length < g → wordsF f l at_ acc = wordsF g l at_ acc
  | 0, _, l, _, _, h, _ => by omega
  | _, 0, l, _, _, _, h => by omega
  | f + 1, g + 1, l, at_, acc, hf, hg => by
    unfold wordsF
    simp only
    split
    · rfl
    · cases hr : fst (l.drop (skp false l)) with
      | bad e => rfl
      | ok k n v =>
        simp only
        split
        · rfl
        · have hn := fst_len hr
          refine wordsF_fuel f g _ _ _ ?_ ?_ <;> (simp only [List.length_drop] at hn ⊢; omega)
/-- One round. -/
theorem wordsR_eq (l : List UInt8) (at_ : Nat) (acc : List W) : wordsR l at_ acc =
    if l.drop (skp false l) = [] then .ok acc
    else match fst (l.drop (skp false l)) with
      | .bad e => .bad e (at_ + skp false l)
      | .ok k n v => if k = 2 ∧ nameLen ((l.drop (skp false l)).drop n) ≠ 0 then .bad 4 (at_ + skp false l + n) else wordsR ((l.drop (skp false l)).drop n) (at_ + skp false l + n) (acc ++ [⟨k, (l.drop (skp false l)).take n, v, at_ + skp false l⟩]) := by
  unfold wordsR
  rw [wordsF]
  split
  · rfl
  · cases hr : fst (l.drop (skp false l)) with
    | bad e => rfl
    | ok k n v =>
      simp only
      split
      · rfl
      · have hn := fst_len hr
        refine wordsF_fuel _ _ _ _ _ ?_ ?_ <;> (simp only [List.length_drop] at hn ⊢; omega)
/-- Between words nothing stays to be skipped. -/
theorem skp_stop : ∀ (b : Bool) (l : List UInt8), skp false (l.drop (skp b l)) = 0
  | b, [] => by rw [skp_nil]; exact skp_nil _
  | false, c :: t => by
    by_cases h1 : isBlank c = true
    · rw [skp_f, if_pos h1, List.drop_succ_cons]; exact skp_stop false t
    · by_cases h2 : c = 35
      · rw [skp_f, if_neg h1, if_pos h2, List.drop_succ_cons]; exact skp_stop true t
      · have h0 : skp false (c :: t) = 0 := by rw [skp_f, if_neg h1, if_neg h2]
        rw [h0, List.drop_zero]; exact h0
  | true, c :: t => by
    by_cases h1 : c = 10
    · rw [skp_t, if_pos h1, List.drop_succ_cons]; exact skp_stop false t
    · rw [skp_t, if_neg h1, List.drop_succ_cons]; exact skp_stop true t
theorem wordsR_skip (l : List UInt8) (at_ : Nat) (acc : List W) : wordsR (l.drop (skp false l)) (at_ + skp false l) acc = wordsR l at_ acc := by
  rw [wordsR_eq, wordsR_eq l, skp_stop, List.drop_zero, Nat.add_zero]
theorem skp_blank {c : UInt8} {t : List UInt8} (h : isBlank c = true) : skp false (c :: t) = skp false t + 1 := by rw [skp_f, if_pos h]
theorem skp_hash {t : List UInt8} : skp false (35 :: t) = skp true t + 1 := by
  rw [skp_f, if_neg (by decide), if_pos rfl]
theorem skp_none {c : UInt8} {t : List UInt8} (h1 : isBlank c = false) (h2 : c ≠ 35) : skp false (c :: t) = 0 := by
  rw [skp_f, if_neg (by rw [h1]; exact Bool.false_ne_true), if_neg h2]
/-- A round that skips. -/
theorem wordsR_step {l m : List UInt8} {k at_ : Nat} {acc : List W} (hm : l.drop k = m) (h : skp false l = k + skp false m) : wordsR l at_ acc = wordsR m (at_ + k) acc := by
  rw [← wordsR_skip l, ← wordsR_skip m, h, ← hm, List.drop_drop, Nat.add_assoc]
end SC

namespace SS
open SC
structure K where
  key : ByteArray
  vals : List Int
  pos : Int
structure I where
  word : ByteArray
  name : ByteArray
  keys : List K
  pos : Int
def bs (l : List UInt8) : ByteArray := ⟨l.toArray⟩
/-- The table of the chapter: words, their keys, and how many numbers stand behind them. -/
def tab : List (ByteArray × List (ByteArray × Nat)) := [
  (⟨#[116, 97, 98, 108, 101]⟩, [(⟨#[114, 97, 100, 105, 117, 115]⟩, 1), (⟨#[98, 97, 108, 108, 115]⟩, 1), (⟨#[103, 114, 97, 118, 105, 116, 121]⟩, 2), (⟨#[100, 114, 97, 103]⟩, 2), (⟨#[114, 101, 115, 116]⟩, 1), (⟨#[116, 114, 111, 117, 103, 104]⟩, 1)]),
  (⟨#[119, 97, 108, 108]⟩, [(⟨#[108, 101, 118, 101, 108]⟩, 1), (⟨#[102, 114, 111, 109]⟩, 2), (⟨#[116, 111]⟩, 2), (⟨#[114, 101, 115, 116]⟩, 1), (⟨#[103, 114, 105, 112]⟩, 1), (⟨#[107, 105, 99, 107]⟩, 1), (⟨#[109, 105, 110]⟩, 1), (⟨#[99, 111, 105, 108]⟩, 1), (⟨#[115, 119, 105, 116, 99, 104]⟩, 1)]),
  (⟨#[103, 97, 116, 101]⟩, [(⟨#[108, 101, 118, 101, 108]⟩, 1), (⟨#[102, 114, 111, 109]⟩, 2), (⟨#[116, 111]⟩, 2), (⟨#[114, 101, 115, 116]⟩, 1), (⟨#[103, 114, 105, 112]⟩, 1), (⟨#[107, 105, 99, 107]⟩, 1), (⟨#[109, 105, 110]⟩, 1), (⟨#[99, 111, 105, 108]⟩, 1), (⟨#[115, 119, 105, 116, 99, 104]⟩, 1)]),
  (⟨#[116, 97, 114, 103, 101, 116]⟩, [(⟨#[108, 101, 118, 101, 108]⟩, 1), (⟨#[102, 114, 111, 109]⟩, 2), (⟨#[116, 111]⟩, 2), (⟨#[114, 101, 115, 116]⟩, 1), (⟨#[103, 114, 105, 112]⟩, 1), (⟨#[107, 105, 99, 107]⟩, 1), (⟨#[109, 105, 110]⟩, 1), (⟨#[99, 111, 105, 108]⟩, 1), (⟨#[115, 119, 105, 116, 99, 104]⟩, 1)]),
  (⟨#[115, 108, 105, 110, 103]⟩, [(⟨#[108, 101, 118, 101, 108]⟩, 1), (⟨#[102, 114, 111, 109]⟩, 2), (⟨#[116, 111]⟩, 2), (⟨#[114, 101, 115, 116]⟩, 1), (⟨#[103, 114, 105, 112]⟩, 1), (⟨#[107, 105, 99, 107]⟩, 1), (⟨#[109, 105, 110]⟩, 1), (⟨#[99, 111, 105, 108]⟩, 1), (⟨#[115, 119, 105, 116, 99, 104]⟩, 1)]),
  (⟨#[97, 114, 99]⟩, [(⟨#[108, 101, 118, 101, 108]⟩, 1), (⟨#[99, 101, 110, 116, 101, 114]⟩, 2), (⟨#[102, 114, 111, 109]⟩, 2), (⟨#[116, 111]⟩, 2), (⟨#[114, 101, 115, 116]⟩, 1), (⟨#[103, 114, 105, 112]⟩, 1), (⟨#[109, 105, 110]⟩, 1), (⟨#[115, 119, 105, 116, 99, 104]⟩, 1)]),
  (⟨#[112, 111, 115, 116]⟩, [(⟨#[108, 101, 118, 101, 108]⟩, 1), (⟨#[99, 101, 110, 116, 101, 114]⟩, 2), (⟨#[115, 105, 122, 101]⟩, 1), (⟨#[114, 101, 115, 116]⟩, 1), (⟨#[103, 114, 105, 112]⟩, 1), (⟨#[107, 105, 99, 107]⟩, 1), (⟨#[109, 105, 110]⟩, 1), (⟨#[99, 111, 105, 108]⟩, 1), (⟨#[115, 119, 105, 116, 99, 104]⟩, 1)]),
  (⟨#[102, 108, 105, 112, 112, 101, 114]⟩, [(⟨#[108, 101, 118, 101, 108]⟩, 1), (⟨#[99, 101, 110, 116, 101, 114]⟩, 2), (⟨#[108, 101, 110, 103, 116, 104]⟩, 1), (⟨#[109, 105, 114, 114, 111, 114]⟩, 0), (⟨#[114, 97, 110, 103, 101]⟩, 2), (⟨#[117, 112]⟩, 1), (⟨#[100, 111, 119, 110]⟩, 1), (⟨#[109, 97, 120]⟩, 1), (⟨#[114, 101, 115, 116]⟩, 1), (⟨#[103, 114, 105, 112]⟩, 1), (⟨#[99, 111, 105, 108]⟩, 1), (⟨#[115, 119, 105, 116, 99, 104]⟩, 1)]),
  (⟨#[122, 111, 110, 101]⟩, [(⟨#[108, 101, 118, 101, 108]⟩, 1), (⟨#[102, 114, 111, 109]⟩, 2), (⟨#[116, 111]⟩, 2), (⟨#[104, 97, 108, 102]⟩, 2), (⟨#[99, 111, 105, 108]⟩, 1)]),
  (⟨#[115, 97, 117, 99, 101, 114]⟩, [(⟨#[108, 101, 118, 101, 108]⟩, 1), (⟨#[99, 101, 110, 116, 101, 114]⟩, 2), (⟨#[115, 105, 122, 101]⟩, 1), (⟨#[108, 105, 109, 105, 116]⟩, 1), (⟨#[111, 117, 116]⟩, 2), (⟨#[99, 111, 105, 108]⟩, 1), (⟨#[115, 119, 105, 116, 99, 104]⟩, 1)]),
  (⟨#[108, 97, 110, 101]⟩, [(⟨#[108, 101, 118, 101, 108]⟩, 1), (⟨#[99, 101, 110, 116, 101, 114]⟩, 2), (⟨#[115, 105, 122, 101]⟩, 1), (⟨#[115, 119, 105, 116, 99, 104]⟩, 1)]),
  (⟨#[114, 97, 109, 112]⟩, [(⟨#[108, 101, 118, 101, 108]⟩, 1), (⟨#[105, 110, 116, 111]⟩, 1), (⟨#[99, 101, 110, 116, 101, 114]⟩, 2), (⟨#[115, 105, 122, 101]⟩, 1), (⟨#[100, 105, 114]⟩, 2)]),
  (⟨#[100, 114, 97, 105, 110]⟩, [(⟨#[108, 101, 118, 101, 108]⟩, 1), (⟨#[99, 101, 110, 116, 101, 114]⟩, 2), (⟨#[115, 105, 122, 101]⟩, 1)]),
  (⟨#[108, 97, 117, 110, 99, 104, 101, 114]⟩, [(⟨#[108, 101, 118, 101, 108]⟩, 1), (⟨#[99, 101, 110, 116, 101, 114]⟩, 2), (⟨#[111, 117, 116]⟩, 2), (⟨#[99, 111, 105, 108]⟩, 1)])]
def bTable : ByteArray := ⟨#[116, 97, 98, 108, 101]⟩
def rowIn : List (ByteArray × List (ByteArray × Nat)) → ByteArray → List (ByteArray × Nat)
  | [], _ => []
  | r :: t, w => if r.1 = w then r.2 else rowIn t w
def rowOf (w : ByteArray) : List (ByteArray × Nat) := rowIn tab w
def keysOf (w : ByteArray) : List ByteArray := (rowOf w).map (·.1)
def look : List (ByteArray × Nat) → ByteArray → Option Nat
  | [], _ => none
  | r :: t, k => if r.1 = k then some r.2 else look t k
def arityN (w k : ByteArray) : Option Nat := look (rowOf w) k
def arI : Option Nat → Int
  | some n => n
  | none => -1
def arity (w k : ByteArray) : Int := arI (arityN w k)
inductive PR (α : Type)
  | bad (e : Int) (p : Int)
  | ok (a : α) (rest : List W)
/-- So many numbers. -/
def numsP (sz : Int) : Nat → List Int → List W → PR (List Int)
  | 0, acc, l => .ok acc l
  | _ + 1, _, [] => .bad 4 sz
  | n + 1, acc, w :: t => if w.kind = 2 then numsP sz n (acc ++ [w.num]) t else .bad 4 w.pos
def hasKey (ks : List K) (k : ByteArray) : Bool := ks.any fun y => decide (y.key = k)
/-- The key that begins with the word x. -/
def keyP (sz : Int) (word : ByteArray) (ks : List K) (x : W) (t : List W) : PR K :=
  match arityN word (bs x.text) with
  | none => .bad 4 x.pos
  | some n => if hasKey ks (bs x.text) then .bad 7 x.pos else
    match numsP sz n [] t with
    | .bad e p => .bad e p
    | .ok vs r => .ok ⟨bs x.text, vs, x.pos⟩ r
def I.with (x : I) (k : K) : I := ⟨x.word, x.name, x.keys ++ [k], x.pos⟩
/-- The keys of a statement, up to its semicolon. -/
def keysF (sz : Int) : Nat → I → List W → PR I
  | 0, _, _ => .bad 4 sz
  | _ + 1, _, [] => .bad 4 sz
  | f + 1, x, w :: t => if w.kind = 3 then .ok x t else
    match keyP sz x.word x.keys w t with
    | .bad e p => .bad e p
    | .ok k r => keysF sz f (x.with k) r
def keysP (sz : Int) (x : I) (l : List W) : PR I := keysF sz (l.length + 1) x l
def itemP (sz : Int) : List W → PR I
  | [] => .bad 4 sz
  | w :: t => if rowOf (bs w.text) = [] then .bad 4 w.pos
    else if bs w.text = bTable then keysP sz ⟨bs w.text, ⟨#[]⟩, [], w.pos⟩ t
    else match t with
      | [] => .bad 4 sz
      | n :: t' => if n.kind = 1 then keysP sz ⟨bs w.text, bs n.text, [], w.pos⟩ t' else .bad 4 n.pos
inductive SR
  | bad (e : Int) (p : Int)
  | ok (l : List I)
def itemsF (sz : Int) : Nat → List I → List W → SR
  | 0, _, _ => .bad 4 sz
  | _ + 1, acc, [] => .ok acc
  | f + 1, acc, w :: t => if acc.length = 400 then .bad 9 w.pos else
    match itemP sz (w :: t) with
    | .bad e p => .bad e p
    | .ok x r => itemsF sz f (acc ++ [x]) r
def itemsP (sz : Int) (acc : List I) (l : List W) : SR := itemsF sz (l.length + 1) acc l
/-- The statements of a text. -/
def parse (s : List UInt8) : SR := match words s with
  | .bad e p => .bad e p
  | .ok ws => itemsP s.length [] ws
def SR.err : SR → Int
  | .bad e _ => e
  | .ok _ => 0
def SR.at : SR → Int
  | .bad _ p => p
  | .ok _ => 0
def SR.list : SR → List I
  | .bad _ _ => []
  | .ok l => l

theorem numsP_len {sz : Int} : ∀ {n : Nat} {acc : List Int} {l : List W} {vs : List Int} {r : List W}, numsP sz n acc l = .ok vs r → r.length + n = l.length ∧ vs.length = acc.length + n
  | 0, acc, l, vs, r, h => by cases h; exact ⟨rfl, rfl⟩
  | n + 1, acc, [], vs, r, h => by cases h
  | n + 1, acc, w :: t, vs, r, h => by
    unfold numsP at h
    split at h
    · have := numsP_len h
      simp at this ⊢
      omega
    · cases h
theorem keyP_len {sz : Int} {word : ByteArray} {ks : List K} {x : W} {t : List W} {k : K} {r : List W} (h : keyP sz word ks x t = .ok k r) : r.length ≤ t.length := by
  unfold keyP at h
  split at h
  · cases h
  · split at h
    · cases h
    · split at h
      · cases h
      · rename_i hn
        cases h
        have := (numsP_len hn).1
        omega
theorem keysF_fuel {sz : Int} : ∀ (f g : Nat) (x : I) (l : List W), l.length < f → l.length < g → keysF sz f x l = keysF sz g x l
  | 0, _, _, l, h, _ => by omega
  | _, 0, _, l, _, h => by omega
  | f + 1, g + 1, x, [], _, _ => rfl
  | f + 1, g + 1, x, w :: t, hf, hg => by
    unfold keysF
    split
    · rfl
    · split
      · rfl
      · rename_i h
        have := keyP_len h
        simp only [List.length_cons] at hf hg
        exact keysF_fuel f g _ _ (by omega) (by omega)
theorem keysP_nil (sz : Int) (x : I) : keysP sz x [] = .bad 4 sz := rfl
theorem keysP_cons (sz : Int) (x : I) (w : W) (t : List W) : keysP sz x (w :: t) = if w.kind = 3 then .ok x t else
    match keyP sz x.word x.keys w t with
    | .bad e p => .bad e p
    | .ok k r => keysP sz (x.with k) r := by
  unfold keysP
  rw [keysF]
  split
  · rfl
  · cases h : keyP sz x.word x.keys w t with
    | bad e p => rfl
    | ok k r =>
      have := keyP_len h
      exact keysF_fuel _ _ _ _ (by simp only [List.length_cons]; omega) (by omega)
theorem keysF_len {sz : Int} : ∀ (f : Nat) (x : I) (l : List W) (y : I) (r : List W), keysF sz f x l = .ok y r → r.length < l.length
  | 0, _, _, _, _, h => by cases h
  | f + 1, x, [], y, r, h => by cases h
  | f + 1, x, w :: t, y, r, h => by
    unfold keysF at h
    split at h
    · cases h; simp
    · split at h
      · cases h
      · rename_i hk
        have h1 := keyP_len hk
        have h2 := keysF_len f _ _ _ _ h
        simp only [List.length_cons]
        omega
theorem itemP_len {sz : Int} {l : List W} {y : I} {r : List W} (h : itemP sz l = .ok y r) : r.length < l.length := by
  unfold itemP at h
  split at h
  · cases h
  · split at h
    · cases h
    · split at h
      · have := keysF_len _ _ _ _ _ h
        simp only [List.length_cons]
        omega
      · split at h
        · cases h
        · split at h
          · have := keysF_len _ _ _ _ _ h
            simp only [List.length_cons]
            omega
          · cases h
theorem itemsF_fuel {sz : Int} : ∀ (f g : Nat) (acc : List I) (l : List W), l.length < f → l.length < g → itemsF sz f acc l = itemsF sz g acc l
  | 0, _, _, l, h, _ => by omega
  | _, 0, _, l, _, h => by omega
  | f + 1, g + 1, acc, [], _, _ => rfl
  | f + 1, g + 1, acc, w :: t, hf, hg => by
    unfold itemsF
    split
    · rfl
    · split
      · rfl
      · rename_i h
        have := itemP_len h
        exact itemsF_fuel f g _ _ (by omega) (by omega)
theorem itemsP_nil (sz : Int) (acc : List I) : itemsP sz acc [] = .ok acc := rfl
theorem itemsP_cons (sz : Int) (acc : List I) (w : W) (t : List W) : itemsP sz acc (w :: t) = if acc.length = 400 then .bad 9 w.pos else
    match itemP sz (w :: t) with
    | .bad e p => .bad e p
    | .ok x r => itemsP sz (acc ++ [x]) r := by
  unfold itemsP
  rw [itemsF]
  split
  · rfl
  · cases h : itemP sz (w :: t) with
    | bad e p => rfl
    | ok k r =>
      have := itemP_len h
      exact itemsF_fuel _ _ _ _ (by omega) (by omega)
end SS

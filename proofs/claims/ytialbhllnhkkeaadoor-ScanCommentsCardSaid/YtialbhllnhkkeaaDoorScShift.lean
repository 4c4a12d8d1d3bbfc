/-
  A comment in front of a text moves its words.
-/
import Derived.Test.YtialbhllnhkkeaaDoorScLawW
namespace SC
open Go Go.RowKit PB
def shW (d : Nat) (x : W) : W := ⟨x.kind, x.text, x.num, x.pos + d⟩
def shR (d : Nat) : WR → WR
  | .bad e p => .bad e (p + d)
  | .ok l => .ok (l.map (shW d))
theorem wordsF_shift (d : Nat) : ∀ (f : Nat) (l : List UInt8) (a : Nat) (acc : List W), wordsF f l (a + d) (acc.map (shW d)) = shR d (wordsF f l a acc)
  | 0, _, _, _ => rfl
  | f + 1, l, a, acc => by
    rw [wordsF, wordsF]
    split
    · rfl
    · have e1 : a + d + skp false l = a + skp false l + d := by omega
      rw [e1]
      cases hf : fst (l.drop (skp false l)) with
      | bad e => rfl
      | ok k n v =>
        dsimp only
        have e2 : a + skp false l + d + n = a + skp false l + n + d := by omega
        rw [e2]
        split
        · rfl
        · rw [← wordsF_shift d f]
          simp [shW]
theorem wordsR_shift (d : Nat) (l : List UInt8) : wordsR l d [] = shR d (wordsR l 0 []) := by
  have := wordsF_shift d (l.length + 1) l 0 []
  rw [Nat.zero_add] at this
  exact this
theorem skp_note : ∀ (note t : List UInt8), (∀ b ∈ note, b ≠ 10) → skp true (note ++ 10 :: t) = note.length + 1 + skp false t
  | [], t, _ => by
    show skp true (10 :: t) = _
    rw [skp_t, if_pos rfl]; simp; omega
  | c :: n, t, h => by
    show skp true (c :: (n ++ 10 :: t)) = _
    rw [skp_t, if_neg (h c List.mem_cons_self), skp_note n t (fun b hb => h b (List.mem_cons_of_mem _ hb))]
    simp; omega
theorem words_comment {note s : List UInt8} (h : ∀ b ∈ note, b ≠ 10) (hs : s.length ≤ 4000) (hn : note.length ≤ 200) :
    words ((35 :: note ++ [10]) ++ s) = shR (note.length + 2) (words s) := by
  have e : ((35 :: note ++ [10]) ++ s) = 35 :: (note ++ 10 :: s) := by simp
  have hk : skp false (35 :: (note ++ 10 :: s)) = (note.length + 2) + skp false s := by
    rw [skp_hash, skp_note note s h]; omega
  have hd : (35 :: (note ++ 10 :: s)).drop (note.length + 2) = s := by
    rw [List.drop_succ_cons]
    have e2 : note ++ 10 :: s = (note ++ [10]) ++ s := by simp
    rw [e2]
    have e3 : note.length + 1 = (note ++ [10]).length := by simp
    rw [e3, List.drop_left]
  unfold words
  rw [e, if_neg (by simp; omega), if_neg (by omega), wordsR_step hd hk, Nat.zero_add]
  exact wordsR_shift _ _
theorem shR_list (d : Nat) (r : WR) : (shR d r).list = r.list.map (shW d) := by cases r <;> rfl
theorem shR_err (d : Nat) (r : WR) : (shR d r).err = r.err := by cases r <;> rfl
theorem bad_at (r : WR) (d : Nat) (h : r.err ≠ 0) : (shR d r).at = r.at + d := by
  cases r with
  | bad e p => rfl
  | ok l => exact absurd rfl h
end SC

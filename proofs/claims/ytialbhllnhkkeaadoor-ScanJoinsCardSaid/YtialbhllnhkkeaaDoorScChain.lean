/-
  Where words stand in their text.
-/
import Derived.Test.YtialbhllnhkkeaaDoorScSpec
import Derived.Test.YtialbhllnhkkeaaDoorScFirst
namespace SC
/-- A word that is one by itself. -/
def Fit (x : W) : Prop := fst x.text = .ok x.kind x.text.length x.num ∧ x.text ≠ []
def Chain (s : List UInt8) : Nat → List W → Prop
  | a, [] => a ≤ s.length
  | a, x :: t => a ≤ x.pos ∧ x.pos + x.text.length ≤ s.length ∧ x.text = (s.drop x.pos).take x.text.length ∧ Fit x ∧ Chain s (x.pos + x.text.length) t
theorem span_take {p : UInt8 → Bool} : ∀ {l : List UInt8} {n : Nat}, n ≤ span p l → span p (l.take n) = n
  | _, 0, _ => by rw [List.take_zero]; rfl
  | [], n + 1, h => by simp [span] at h
  | c :: t, n + 1, h => by
    rw [List.take_succ_cons]
    unfold span at h ⊢
    split at h
    · rename_i hc; rw [if_pos hc, span_take (by omega)]
    · omega
theorem numLen_pos {m : List UInt8} (h : span dgt (digs m) ≠ 0) : numLen m = sgn m + span dgt (digs m) := if_neg h
theorem fst_take {l : List UInt8} {k : Int} {n : Nat} {v : Int} (h : fst l = .ok k n v) : fst (l.take n) = .ok k n v := by
  have hn := fst_len h
  unfold fst at h
  split at h
  · rename_i h0
    split at h
    · rename_i h12
      cases h
      have e : nameLen (l.take (nameLen l)) = nameLen l := by
        cases l with
        | nil => rfl
        | cons c t =>
          by_cases hc : ltr c = true
          · have e1 : nameLen (c :: t) = span lod t + 1 := by show (if ltr c = true then _ else 0) = _; rw [if_pos hc]
            rw [e1, List.take_succ_cons]
            show (if ltr c = true then _ else 0) = _
            rw [if_pos hc, span_take (Nat.le_refl _)]
          · have e1 : nameLen (c :: t) = 0 := by show (if ltr c = true then _ else 0) = _; rw [if_neg hc]
            exact absurd e1 h0
      unfold fst
      rw [e, if_pos h0, if_pos h12]
    · cases h
  · rename_i h0
    split at h
    · rename_i h1
      split at h
      · rename_i h2
        cases h
        have hs : numLen l = sgn l + span dgt (digs l) ∧ span dgt (digs l) ≠ 0 := by
          unfold numLen at h1 ⊢
          split
          · rename_i hz; rw [if_pos hz] at h1; exact absurd rfl h1
          · rename_i hz; exact ⟨rfl, hz⟩
        have eh : (l.take (numLen l)).head? = l.head? := head_take h1
        have ed : digs (l.take (numLen l)) = (digs l).take (span dgt (digs l)) := digs_take h1
        have es : sgn (l.take (numLen l)) = sgn l := by unfold sgn; rw [eh]
        have esp : span dgt (digs (l.take (numLen l))) = span dgt (digs l) := by rw [ed, span_take (Nat.le_refl _)]
        have en : numLen (l.take (numLen l)) = numLen l := by
          rw [numLen_pos (by rw [esp]; exact hs.2), esp, es, ← hs.1]
        have edd : numDig (l.take (numLen l)) = numDig l := by
          show (digs (l.take (numLen l))).take (span dgt (digs (l.take (numLen l)))) = _
          rw [esp, ed, List.take_take, Nat.min_self]; rfl
        have ev : numVal (l.take (numLen l)) = numVal l := by unfold numVal; rw [eh, edd]
        have enm : nameLen (l.take (numLen l)) = 0 := by
          cases l with
          | nil => rfl
          | cons c t =>
            have hc : ltr c ≠ true := fun hc => h0 (by show (if ltr c = true then span lod t + 1 else 0) ≠ 0; rw [if_pos hc]; omega)
            obtain ⟨m, hm⟩ : ∃ m, numLen (c :: t) = m + 1 := ⟨numLen (c :: t) - 1, by omega⟩
            rw [hm, List.take_succ_cons]
            show (if ltr c = true then _ else 0) = 0
            rw [if_neg hc]
        unfold fst
        rw [enm, if_neg (by simp), en, if_pos h1, edd, if_pos h2, ev]
      · cases h
    · split at h
      · rename_i h3
        cases h
        cases l with
        | nil => cases h3
        | cons c t =>
          obtain rfl : c = 59 := by simpa using h3
          rfl
      · cases h
theorem chain_of : ∀ (f : Nat) (s : List UInt8) (a : Nat) (acc r : List W), a ≤ s.length → wordsF f (s.drop a) a acc = .ok r → ∃ ws, r = acc ++ ws ∧ Chain s a ws
  | 0, s, a, acc, r, ha, h => by
    cases h
    exact ⟨[], by simp, ha⟩
  | f + 1, s, a, acc, r, ha, h => by
    rw [wordsF] at h
    have hk := skp_le false (s.drop a)
    rw [List.length_drop] at hk
    split at h
    · cases h
      exact ⟨[], by simp, ha⟩
    · cases hf : fst ((s.drop a).drop (skp false (s.drop a))) with
      | bad e => rw [hf] at h; cases h
      | ok k n v =>
        rw [hf] at h
        dsimp only at h
        have hn := fst_len hf
        rw [List.drop_drop] at h hn hf
        rw [List.length_drop] at hn
        split at h
        · cases h
        · rw [List.drop_drop, ← Nat.add_assoc] at h
          obtain ⟨ws, e, hc⟩ := chain_of f s _ _ _ (by omega) h
          have ht : ((s.drop (a + skp false (s.drop a))).take n).length = n := by rw [List.length_take, List.length_drop]; omega
          refine ⟨⟨k, (s.drop (a + skp false (s.drop a))).take n, v, a + skp false (s.drop a)⟩ :: ws, by rw [e]; simp, by dsimp only; omega, by dsimp only; rw [ht]; omega, by dsimp only; rw [ht], ⟨?_, ?_⟩, ?_⟩
          · dsimp only; rw [ht]; exact fst_take hf
          · dsimp only; intro e0; rw [e0] at ht; simp at ht; omega
          · dsimp only; rw [ht]; exact hc
theorem words_chain {s : List UInt8} {r : List W} (h : words s = .ok r) : Chain s 0 r := by
  unfold words at h
  split at h
  · cases h
  · obtain ⟨ws, e, hc⟩ := chain_of (s.length + 1) s 0 [] r (Nat.zero_le _) h
    rw [e]; exact hc
theorem chain_at : ∀ {s : List UInt8} {a : Nat} {ws : List W}, Chain s a ws → ∀ (i : Nat) (x : W), ws[i]? = some x → x.pos + x.text.length ≤ s.length ∧ x.text = (s.drop x.pos).take x.text.length ∧ Fit x
  | _, _, [], _, i, x, h => by simp at h
  | s, a, y :: t, hc, 0, x, h => by
    obtain rfl : y = x := by simpa using h
    exact ⟨hc.2.1, hc.2.2.1, hc.2.2.2.1⟩
  | s, a, y :: t, hc, i + 1, x, h => chain_at hc.2.2.2.2 i x (by simpa using h)
theorem wordsF_at : ∀ (f : Nat) (l : List UInt8) (a : Nat) (acc : List W) (e : Int) (p : Nat), wordsF f l a acc = .bad e p → p ≤ a + l.length
  | 0, _, _, _, _, _, h => by cases h
  | f + 1, l, a, acc, e, p, h => by
    rw [wordsF] at h
    have hk := skp_le false l
    split at h
    · cases h
    · cases hf : fst (l.drop (skp false l)) with
      | bad e => rw [hf] at h; cases h; omega
      | ok k n v =>
        have hn := fst_len hf
        rw [List.length_drop] at hn
        rw [hf] at h
        dsimp only at h
        split at h
        · cases h; omega
        · have ih := wordsF_at f _ _ _ _ _ h
          rw [List.length_drop, List.length_drop] at ih
          omega
theorem words_at {s : List UInt8} {e : Int} {p : Nat} (h : words s = .bad e p) : p ≤ s.length := by
  unfold words at h
  split at h
  · cases h; omega
  · have := wordsF_at (s.length + 1) s 0 [] e p h
    omega
theorem wordsF_ne : ∀ (f : Nat) (l : List UInt8) (a : Nat) (acc : List W) (e : Int) (p : Nat), wordsF f l a acc = .bad e p → e = 4 ∨ e = 5 ∨ e = 6
  | 0, _, _, _, _, _, h => by cases h
  | f + 1, l, a, acc, e, p, h => by
    rw [wordsF] at h
    split at h
    · cases h
    · cases hf : fst (l.drop (skp false l)) with
      | bad e =>
        rw [hf] at h; cases h
        unfold fst at hf
        split at hf
        · split at hf
          · cases hf
          · cases hf; exact .inr (.inr rfl)
        · split at hf
          · split at hf
            · cases hf
            · cases hf; exact .inr (.inl rfl)
          · split at hf
            · cases hf
            · cases hf; exact .inl rfl
      | ok k n v =>
        rw [hf] at h
        dsimp only at h
        split at h
        · cases h; exact .inl rfl
        · exact wordsF_ne f _ _ _ _ _ h
theorem words_ne {s : List UInt8} {e : Int} {p : Nat} (h : words s = .bad e p) : e = 2 ∨ e = 4 ∨ e = 5 ∨ e = 6 := by
  unfold words at h
  split at h
  · cases h; exact .inl rfl
  · exact .inr (wordsF_ne (s.length + 1) s 0 [] e p h)
end SC

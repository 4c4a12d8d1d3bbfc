/-
  The words of a joined text.
-/
import Derived.Test.YtialbhllnhkkeaaDoorScJoin
namespace SC
open Go Go.RowKit PB
/-- What Join writes behind what it has. -/
def tailT : Bool → List W → List UInt8
  | _, [] => []
  | true, x :: t => x.text ++ tailT false t
  | false, x :: t => 32 :: (x.text ++ tailT false t)
theorem joinF_text : ∀ {ws : List W} {acc : List UInt8} {f : Bool} {r : List UInt8}, joinF acc f ws = some r → acc.length ≤ 20000 → r = acc ++ tailT f ws ∧ r.length ≤ 20000
  | [], acc, f, r, h, ha => by
    obtain rfl : acc = r := Option.some.inj h
    cases f <;> exact ⟨by simp [tailT], ha⟩
  | x :: t, acc, f, r, h, ha => by
    rw [joinF] at h
    split at h
    · rename_i hc
      obtain ⟨e, hl⟩ := joinF_text h (by rw [List.length_append]; exact hc.1)
      refine ⟨?_, hl⟩
      rw [e]
      cases f
      · show (acc ++ [32]) ++ x.text ++ tailT false t = acc ++ 32 :: (x.text ++ tailT false t); simp
      · show acc ++ x.text ++ tailT false t = acc ++ (x.text ++ tailT false t); simp
    · cases h
theorem joinF_fit : ∀ {ws : List W} {acc : List UInt8} {f : Bool} {r : List UInt8}, joinF acc f ws = some r → ∀ x ∈ ws, Fit x
  | [], _, _, _, _, x, hx => by cases hx
  | y :: t, acc, f, r, h, x, hx => by
    rw [joinF] at h
    split at h
    · rename_i hc
      rcases List.mem_cons.1 hx with rfl | hx
      · exact fit_fitB hc.2
      · exact joinF_fit h x hx
    · cases h
theorem joinF_chain : ∀ {ws : List W} {s acc : List UInt8} {f : Bool} {a : Nat}, Chain s a ws → s.length ≤ 10000 → acc.length ≤ 2 * a → (f = true → acc = []) → joinF acc f ws ≠ none
  | [], _, _, _, _, _, _, _, _ => by intro h; cases h
  | x :: t, s, acc, f, a, hc, hs, ha, hf => by
    obtain ⟨h1, h2, _, h4, h5⟩ := hc
    have hx : 1 ≤ x.text.length := by
      have := h4.2
      cases hh : x.text with
      | nil => exact absurd hh this
      | cons _ _ => simp
    have hsep : (sepB f acc).length ≤ 2 * a + 1 := by
      cases f
      · show (acc ++ [32]).length ≤ _; rw [List.length_append]; simp; omega
      · show acc.length ≤ _; omega
    rw [joinF, if_pos ⟨by omega, fitB_fit h4⟩]
    exact joinF_chain h5 hs (by rw [List.length_append]; omega) (fun h => by cases h)
theorem span_all {p : UInt8 → Bool} : ∀ {l r : List UInt8}, span p l = l.length → span p r = 0 → span p (l ++ r) = l.length
  | [], r, _, h => h
  | c :: t, r, h, hr => by
    show (if p c = true then span p (t ++ r) + 1 else 0) = _
    have h' : (if p c = true then span p t + 1 else 0) = t.length + 1 := h
    by_cases hc : p c = true
    · rw [if_pos hc] at h' ⊢
      rw [span_all (by omega) hr]; rfl
    · rw [if_neg hc] at h'; omega
/-- What follows a word in a joined text. -/
def Sep (r : List UInt8) : Prop := r = [] ∨ ∃ t, r = 32 :: t
theorem Sep.span0 {r : List UInt8} (h : Sep r) {p : UInt8 → Bool} (hp : p 32 = false) : span p r = 0 := by
  rcases h with rfl | ⟨t, rfl⟩
  · rfl
  · show (if p 32 = true then _ else 0) = 0; rw [hp, if_neg Bool.false_ne_true]
theorem Sep.name0 {r : List UInt8} (h : Sep r) : nameLen r = 0 := by
  rcases h with rfl | ⟨t, rfl⟩ <;> rfl
theorem digs_append {l r : List UInt8} (h : l ≠ []) : digs (l ++ r) = digs l ++ r ∧ sgn (l ++ r) = sgn l ∧ (l ++ r).head? = l.head? := by
  cases l with
  | nil => exact absurd rfl h
  | cons c t =>
    unfold digs sgn
    by_cases hc : c = 45 <;> simp [hc]
theorem nameLen_cons_no {c : UInt8} {t : List UInt8} (h : ltr c ≠ true) : nameLen (c :: t) = 0 := by show (if ltr c = true then _ else 0) = _; rw [if_neg h]
theorem nameLen_cons_yes {c : UInt8} {t : List UInt8} (h : ltr c = true) : nameLen (c :: t) = span lod t + 1 := by show (if ltr c = true then _ else 0) = _; rw [if_pos h]
theorem fit_append {x : W} {r : List UInt8} (h : Fit x) (hr : Sep r) : fst (x.text ++ r) = .ok x.kind x.text.length x.num := by
  obtain ⟨hf, hne⟩ := h
  obtain ⟨k, l, v, p⟩ := x
  dsimp only at hf hne ⊢
  obtain ⟨ed, es, eh⟩ := digs_append (r := r) hne
  cases hl : l with
  | nil => exact absurd hl hne
  | cons c t =>
    rw [hl] at hf hne ed es eh
    by_cases hc : ltr c = true
    · have e1 := nameLen_cons_yes (t := t) hc
      unfold fst at hf
      rw [e1, if_pos (by omega)] at hf
      split at hf
      · rename_i h12
        obtain ⟨rfl, e2, rfl⟩ : 1 = k ∧ span lod t + 1 = (c :: t).length ∧ 0 = v := by injection hf with a b c; exact ⟨a, b, c⟩
        have e3 : nameLen ((c :: t) ++ r) = (c :: t).length := by
          show nameLen (c :: (t ++ r)) = _
          rw [nameLen_cons_yes hc, span_all (by simpa using e2) (hr.span0 (by decide))]; rfl
        unfold fst
        rw [e3, if_pos (by simp), if_pos (by omega)]
      · cases hf
    · have e1 := nameLen_cons_no (t := t) hc
      have e1' : nameLen ((c :: t) ++ r) = 0 := nameLen_cons_no (t := t ++ r) hc
      unfold fst at hf
      rw [e1, if_neg (by simp)] at hf
      split at hf
      · rename_i hn
        split at hf
        · rename_i hv
          obtain ⟨rfl, e2, rfl⟩ : 2 = k ∧ numLen (c :: t) = (c :: t).length ∧ numVal (c :: t) = v := by injection hf with a b c; exact ⟨a, b, c⟩
          have hs0 : span dgt (digs (c :: t)) ≠ 0 := by
            intro h0; unfold numLen at hn; rw [if_pos h0] at hn; exact hn rfl
          have hnl := numLen_pos hs0
          have hdl := digs_length (c :: t)
          have hsp : span dgt (digs (c :: t)) = (digs (c :: t)).length := by omega
          have hsp2 : span dgt (digs ((c :: t) ++ r)) = (digs (c :: t)).length := by rw [ed]; exact span_all hsp (hr.span0 (by decide))
          have e3 : numLen ((c :: t) ++ r) = (c :: t).length := by
            rw [numLen_pos (by omega), hsp2, es]; omega
          have e4 : numDig ((c :: t) ++ r) = numDig (c :: t) := by
            unfold numDig
            rw [hsp2, hsp, ed, List.take_left, List.take_length]
          have e5 : numVal ((c :: t) ++ r) = numVal (c :: t) := by unfold numVal; rw [eh, e4]
          unfold fst
          rw [e1', if_neg (by simp), e3, if_pos (by simp), e4, if_pos hv, e5]
        · cases hf
      · rename_i hn
        split at hf
        · rename_i h59
          obtain ⟨rfl, e2, rfl⟩ : 3 = k ∧ 1 = (c :: t).length ∧ 0 = v := by injection hf with a b c; exact ⟨a, b, c⟩
          obtain rfl : t = [] := List.eq_nil_of_length_eq_zero (by simpa using e2.symm)
          obtain rfl : c = 59 := by simpa using h59
          have e3 : numLen (([59] : List UInt8) ++ r) = 0 := by
            unfold numLen
            rw [ed]; exact if_pos rfl
          unfold fst
          rw [e1', if_neg (by simp), e3, if_neg (by simp)]
          rfl
        · cases hf
theorem fit_skip {x : W} {r : List UInt8} (h : Fit x) : skp false (x.text ++ r) = 0 := by
  obtain ⟨hf, hne⟩ := h
  cases hl : x.text with
  | nil => exact absurd hl hne
  | cons c t =>
    rw [hl] at hf
    have hb : ∀ d : UInt8, (isBlank d = true ∨ d = 35) → c ≠ d := by
      rintro d hd rfl
      have h1 : ltr c ≠ true ∧ dgt c ≠ true ∧ c ≠ 45 ∧ c ≠ 59 := by
        rcases hd with hd | rfl
        · have : c = 32 ∨ c = 9 ∨ c = 10 := by simpa [isBlank, or_assoc] using hd
          rcases this with rfl | rfl | rfl <;> decide
        · decide
      unfold fst at hf
      have hn : numLen (c :: t) = 0 := by
        unfold numLen digs
        rw [if_neg (show ¬ (c :: t).head? = some 45 from fun e => h1.2.2.1 (Option.some.inj e))]
        have : span dgt (c :: t) = 0 := by show (if dgt c = true then _ else 0) = 0; rw [if_neg h1.2.1]
        rw [this, if_pos rfl]
      rw [nameLen_cons_no h1.1, if_neg (by simp), hn, if_neg (by simp), if_neg (show ¬ (c :: t).head? = some 59 from fun e => h1.2.2.2 (Option.some.inj e))] at hf
      cases hf
    show skp false (c :: (t ++ r)) = 0
    refine skp_none ?_ (fun e => hb 35 (.inr rfl) e)
    cases hbl : isBlank c with
    | false => rfl
    | true => exact absurd rfl (hb c (.inl hbl))
/-- The same words, maybe at other places. -/
def SameW (x y : W) : Prop := x.kind = y.kind ∧ x.text = y.text ∧ x.num = y.num
def AllSame : List W → List W → Prop
  | [], [] => True
  | x :: s, y :: t => SameW x y ∧ AllSame s t
  | _, _ => False
theorem tailT_sep (ws : List W) : Sep (tailT false ws) := by
  cases ws with
  | nil => exact .inl rfl
  | cons x t => exact .inr ⟨_, rfl⟩
theorem wordsR_tail : ∀ (ws : List W) (f : Bool) (a : Nat) (acc : List W), (∀ x ∈ ws, Fit x) → ∃ m, wordsR (tailT f ws) a acc = .ok (acc ++ m) ∧ AllSame m ws
  | [], f, a, acc, _ => ⟨[], by cases f <;> (show wordsR [] a acc = _; rw [wordsR_eq, if_pos List.drop_nil, List.append_nil]), trivial⟩
  | x :: t, true, a, acc, h => by
    have hx := h x List.mem_cons_self
    have hs := tailT_sep t
    have h0 : skp false (x.text ++ tailT false t) = 0 := fit_skip hx
    obtain ⟨m, e, hm⟩ := wordsR_tail t false (a + x.text.length) (acc ++ [⟨x.kind, x.text, x.num, a⟩]) (fun y hy => h y (List.mem_cons_of_mem _ hy))
    refine ⟨⟨x.kind, x.text, x.num, a⟩ :: m, ?_, ⟨⟨rfl, rfl, rfl⟩, hm⟩⟩
    show wordsR (x.text ++ tailT false t) a acc = _
    rw [wordsR_eq, h0, List.drop_zero, if_neg (by intro e; exact hx.2 (List.append_eq_nil_iff.1 e).1), fit_append hx hs]
    dsimp only
    rw [List.drop_left, List.take_left, hs.name0, if_neg (by rintro ⟨_, h⟩; exact h rfl), Nat.add_zero, e, List.append_assoc]
    rfl
  | x :: t, false, a, acc, h => by
    obtain ⟨m, e, hm⟩ := wordsR_tail (x :: t) true (a + 1) acc h
    refine ⟨m, ?_, hm⟩
    have h1 : (tailT false (x :: t)).drop 1 = tailT true (x :: t) := rfl
    have h2 : skp false (tailT false (x :: t)) = 1 + skp false (tailT true (x :: t)) := by
      show skp false (32 :: (x.text ++ tailT false t)) = 1 + skp false (x.text ++ tailT false t)
      rw [skp_blank (by decide), Nat.add_comm]
    rw [wordsR_step h1 h2]
    exact e
termination_by ws f => 2 * ws.length + (if f then 0 else 1)
theorem AllSame.length : ∀ {m ws : List W}, AllSame m ws → m.length = ws.length
  | [], [], _ => rfl
  | x :: s, y :: t, h => by simp [AllSame.length h.2]
theorem AllSame.join : ∀ {m ws : List W} {acc : List UInt8} {f : Bool}, AllSame m ws → joinF acc f m = joinF acc f ws
  | [], [], _, _, _ => rfl
  | x :: s, y :: t, acc, f, h => by
    obtain ⟨⟨h1, h2, h3⟩, h4⟩ := h
    rw [joinF, joinF, h1, h2, h3, AllSame.join h4]
/-- Words of a joined text: the same words, and the same text joined. -/
theorem words_join {ws : List W} {r : List UInt8} (h : joinF [] true ws = some r) : ∃ m, words r = .ok m ∧ AllSame m ws ∧ joinF [] true m = some r := by
  obtain ⟨e, hl⟩ := joinF_text h (by simp)
  obtain ⟨m, e2, hm⟩ := wordsR_tail ws true 0 [] (joinF_fit h)
  rw [List.nil_append] at e e2
  refine ⟨m, ?_, hm, by rw [hm.join]; exact h⟩
  unfold words
  rw [if_neg (by omega), e]
  exact e2
end SC

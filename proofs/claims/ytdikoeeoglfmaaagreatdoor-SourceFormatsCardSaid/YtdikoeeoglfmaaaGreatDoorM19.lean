/-
  What is parsed is of ordinary size.
  Numerals: they are numbers of a text, and no longer than what they were read from.
-/
import Derived.Lib.ItoaNum
import Derived.Test.YtdikoeeoglfmaaaGreatDoorM17
import Derived.Test.YtdikoeeoglfmaaaGreatDoorM18
namespace SS
open SC
/-- A word of ordinary size. -/
def Wok (y : W) : Prop := y.text.length ≤ 20000 ∧ -1073741824 ≤ y.num ∧ y.num ≤ 1073741824
theorem fst_num {l : List UInt8} {k : Int} {n : Nat} {v : Int} (h : fst l = .ok k n v) : -1073741824 ≤ v ∧ v ≤ 1073741824 := by
  unfold fst at h
  split at h
  · split at h
    · cases h; omega
    · cases h
  · split at h
    · split at h
      · cases h
        unfold numVal
        split <;> omega
      · cases h
    · split at h
      · cases h; omega
      · cases h
theorem words_wok {s : List UInt8} {ws : List W} (h : words s = .ok ws) : ∀ y ∈ ws, Wok y := by
  intro y hy
  obtain ⟨i, hi⟩ := List.getElem?_of_mem hy
  have hc := chain_at (words_chain h) i y hi
  have hs : s.length ≤ 20000 := by
    unfold words at h
    split at h
    · cases h
    · omega
  exact ⟨by have := hc.1; omega, fst_num hc.2.2.1⟩
def Sub (r l : List W) : Prop := ∀ y ∈ r, y ∈ l
theorem numsP_ok {sz : Int} : ∀ {n : Nat} {acc : List Int} {l : List W} {vs : List Int} {r : List W}, numsP sz n acc l = .ok vs r → (∀ y ∈ l, Wok y) → (∀ v ∈ acc, -1073741824 ≤ v ∧ v ≤ 1073741824) → (∀ v ∈ vs, -1073741824 ≤ v ∧ v ≤ 1073741824) ∧ Sub r l
  | 0, acc, l, vs, r, h, hl, ha => by cases h; exact ⟨ha, fun y hy => hy⟩
  | n + 1, acc, [], vs, r, h, hl, ha => by cases h
  | n + 1, acc, w :: t, vs, r, h, hl, ha => by
    unfold numsP at h
    split at h
    · have hw := (hl w List.mem_cons_self).2
      obtain ⟨h1, h2⟩ := numsP_ok h (fun y hy => hl y (List.mem_cons_of_mem _ hy)) (fun v hv => by
        rcases List.mem_append.1 hv with hv | hv
        · exact ha v hv
        · obtain rfl : v = w.num := by simpa using hv
          exact hw)
      exact ⟨h1, fun y hy => List.mem_cons_of_mem _ (h2 y hy)⟩
    · cases h
/-- A key of ordinary size. -/
def KOk (k : K) : Prop := k.key.size ≤ 20000 ∧ k.vals.length ≤ 2 ∧ ∀ v ∈ k.vals, -1073741824 ≤ v ∧ v ≤ 1073741824
theorem keyP_ok {sz : Int} {word : ByteArray} {ks : List K} {x : W} {t : List W} {k : K} {r : List W} (h : keyP sz word ks x t = .ok k r) (hx : Wok x) (ht : ∀ y ∈ t, Wok y) : KOk k ∧ Sub r t ∧ k.key = bs x.text ∧ arityN word (bs x.text) = some k.vals.length ∧ hasKey ks (bs x.text) = false := by
  unfold keyP at h
  split at h
  · cases h
  · rename_i n hn
    split at h
    · cases h
    · rename_i hk
      split at h
      · cases h
      · rename_i hnn
        cases h
        obtain ⟨h1, h2⟩ := numsP_ok hnn ht (fun v hv => by simp at hv)
        have hl := (numsP_len hnn).2
        simp at hl
        exact ⟨⟨by show (bs x.text).size ≤ 20000; exact Nat.le_trans (Nat.le_of_eq (size_mk x.text)) hx.1, by show _ ≤ 2; rw [hl]; exact arityN_le hn, h1⟩, h2, rfl, by rw [hn, hl], by simpa using hk⟩
theorem keysF_ok {sz : Int} : ∀ (f : Nat) (x : I) (l : List W) (y : I) (r : List W), keysF sz f x l = .ok y r → (∀ y ∈ l, Wok y) → (∀ k ∈ x.keys, KOk k) → (∀ k ∈ y.keys, KOk k) ∧ Sub r l ∧ y.word = x.word ∧ y.name = x.name ∧ y.keys.length ≤ x.keys.length + l.length
  | 0, _, _, _, _, h, _, _ => by cases h
  | f + 1, x, [], y, r, h, _, _ => by cases h
  | f + 1, x, w :: t, y, r, h, hl, hk => by
    unfold keysF at h
    split at h
    · cases h; exact ⟨hk, fun y hy => List.mem_cons_of_mem _ hy, rfl, rfl, by simp⟩
    · split at h
      · cases h
      · rename_i k r1 hkp
        obtain ⟨h1, h2, _⟩ := keyP_ok hkp (hl w List.mem_cons_self) (fun y hy => hl y (List.mem_cons_of_mem _ hy))
        have hlen := keyP_len hkp
        obtain ⟨a1, a2, a3, a4, a5⟩ := keysF_ok f _ _ _ _ h (fun y hy => hl y (List.mem_cons_of_mem _ (h2 y hy))) (fun k' hk' => by
          rcases List.mem_append.1 hk' with hk' | hk'
          · exact hk k' hk'
          · obtain rfl : k' = k := by simpa using hk'
            exact h1)
        refine ⟨a1, fun y hy => List.mem_cons_of_mem _ (h2 y (a2 y hy)), a3, a4, ?_⟩
        have : (x.with k).keys.length = x.keys.length + 1 := by unfold I.with; simp
        simp only [List.length_cons]
        omega
/-- A statement of ordinary size. -/
def IOk (x : I) : Prop := x.word.size ≤ 20000 ∧ x.name.size ≤ 20000 ∧ x.keys.length ≤ 20000 ∧ ∀ k ∈ x.keys, KOk k
theorem itemP_ok {sz : Int} {l : List W} {y : I} {r : List W} (h : itemP sz l = .ok y r) (hl : ∀ y ∈ l, Wok y) (hn : l.length ≤ 20000) : IOk y ∧ Sub r l := by
  unfold itemP at h
  split at h
  · cases h
  · rename_i w t
    have hw := hl w List.mem_cons_self
    have hws : (bs w.text).size ≤ 20000 := Nat.le_trans (Nat.le_of_eq (size_mk w.text)) hw.1
    simp only [List.length_cons] at hn
    split at h
    · cases h
    · split at h
      · obtain ⟨a1, a2, a3, a4, a5⟩ := keysF_ok _ _ _ _ _ h (fun y hy => hl y (List.mem_cons_of_mem _ hy)) (fun k hk => by simp at hk)
        simp only [List.length_nil] at a5
        exact ⟨⟨by rw [a3]; exact hws, by rw [a4]; exact (by decide : (⟨#[]⟩ : ByteArray).size ≤ 20000), by omega, a1⟩, fun y hy => List.mem_cons_of_mem _ (a2 y hy)⟩
      · split at h
        · cases h
        · rename_i n t'
          split at h
          · obtain ⟨a1, a2, a3, a4, a5⟩ := keysF_ok _ _ _ _ _ h (fun y hy => hl y (List.mem_cons_of_mem _ (List.mem_cons_of_mem _ hy))) (fun k hk => by simp at hk)
            simp only [List.length_nil, List.length_cons] at a5 hn
            exact ⟨⟨by rw [a3]; exact hws, by rw [a4]; exact Nat.le_trans (Nat.le_of_eq (size_mk n.text)) (hl n (List.mem_cons_of_mem _ List.mem_cons_self)).1, by omega, a1⟩, fun y hy => List.mem_cons_of_mem _ (List.mem_cons_of_mem _ (a2 y hy))⟩
          · cases h
theorem itemsF_ok {sz : Int} : ∀ (f : Nat) (acc : List I) (l : List W) (r : List I), itemsF sz f acc l = .ok r → (∀ y ∈ l, Wok y) → l.length ≤ 20000 → (∀ x ∈ acc, IOk x) → acc.length ≤ 400 → (∀ x ∈ r, IOk x) ∧ r.length ≤ 400
  | 0, _, _, _, h, _, _, _, _ => by cases h
  | f + 1, acc, [], r, h, _, _, ha, hb => by cases h; exact ⟨ha, hb⟩
  | f + 1, acc, w :: t, r, h, hl, hn, ha, hb => by
    unfold itemsF at h
    split at h
    · cases h
    · split at h
      · cases h
      · rename_i x r1 hip
        obtain ⟨h1, h2⟩ := itemP_ok hip hl hn
        have := itemP_len hip
        refine itemsF_ok f _ _ _ h (fun y hy => hl y (h2 y hy)) (by omega) (fun x' hx' => ?_) (by simp; omega)
        rcases List.mem_append.1 hx' with hx' | hx'
        · exact ha x' hx'
        · obtain rfl : x' = x := by simpa using hx'
          exact h1
theorem parse_ok {s : List UInt8} {m : List I} (h : parse s = .ok m) : (∀ x ∈ m, IOk x) ∧ m.length ≤ 400 := by
  unfold parse at h
  split at h
  · cases h
  · rename_i ws hw
    exact itemsF_ok _ _ _ _ h (words_wok hw) (words_few hw) (fun x hx => by simp at hx) (by decide)
theorem numsP_ne {sz : Int} : ∀ {n : Nat} {acc : List Int} {l : List W} {e q : Int}, numsP sz n acc l = .bad e q → e ≠ 0
  | 0, acc, l, e, q, h => by cases h
  | n + 1, acc, [], e, q, h => by cases h; decide
  | n + 1, acc, w :: t, e, q, h => by
    unfold numsP at h
    split at h
    · exact numsP_ne h
    · cases h; decide
theorem keyP_ne {sz : Int} {word : ByteArray} {ks : List K} {x : W} {t : List W} {e q : Int} (h : keyP sz word ks x t = .bad e q) : e ≠ 0 := by
  unfold keyP at h
  split at h
  · cases h; decide
  · split at h
    · cases h; decide
    · split at h
      · rename_i hn; cases h; exact numsP_ne hn
      · cases h
theorem keysF_ne {sz : Int} : ∀ (f : Nat) (x : I) (l : List W) (e q : Int), keysF sz f x l = .bad e q → e ≠ 0
  | 0, _, _, _, _, h => by cases h; decide
  | f + 1, x, [], e, q, h => by cases h; decide
  | f + 1, x, w :: t, e, q, h => by
    unfold keysF at h
    split at h
    · cases h
    · split at h
      · rename_i hk; cases h; exact keyP_ne hk
      · exact keysF_ne f _ _ _ _ h
theorem itemP_ne {sz : Int} {l : List W} {e q : Int} (h : itemP sz l = .bad e q) : e ≠ 0 := by
  unfold itemP at h
  split at h
  · cases h; decide
  · split at h
    · cases h; decide
    · split at h
      · exact keysF_ne _ _ _ _ _ h
      · split at h
        · cases h; decide
        · split at h
          · exact keysF_ne _ _ _ _ _ h
          · cases h; decide
theorem itemsF_ne {sz : Int} : ∀ (f : Nat) (acc : List I) (l : List W) (e q : Int), itemsF sz f acc l = .bad e q → e ≠ 0
  | 0, _, _, _, _, h => by cases h; decide
  | f + 1, acc, [], e, q, h => by cases h
  | f + 1, acc, w :: t, e, q, h => by
    unfold itemsF at h
    split at h
    · cases h; decide
    · split at h
      · rename_i hi; cases h; exact itemP_ne hi
      · exact itemsF_ne f _ _ _ _ h
theorem parse_ne {s : List UInt8} {e q : Int} (h : parse s = .bad e q) : e ≠ 0 := by
  unfold parse at h
  split at h
  · rename_i er p hw
    cases h
    rcases words_ne hw with rfl | rfl | rfl | rfl <;> decide
  · exact itemsF_ne _ _ _ _ _ h
theorem IOk.ok {x : I} (h : IOk x) : OkI x := by
  obtain ⟨h1, h2, h3, h4⟩ := h
  refine ⟨by omega, by omega, by omega, fun k hk => ?_⟩
  obtain ⟨a, b, c⟩ := h4 k hk
  exact ⟨by omega, by omega, fun n hn => by have := c n hn; omega⟩
theorem OkI.same {x : I} (h : OkI x) : x.keys.length ≤ 1000000 ∧ ∀ k ∈ x.keys, k.vals.length ≤ 1000000 := ⟨h.keys, fun k hk => (h.key k hk).2.1⟩
end SS

namespace SS
open SC
theorem dgt_of {i : Nat} (h : i < 10) : dgt (UInt8.ofNat (48 + i)) = true ∧ (UInt8.ofNat (48 + i)).toNat = 48 + i := by
  have e : (UInt8.ofNat (48 + i)).toNat = 48 + i := by
    rw [UInt8.toNat_ofNat']
    omega
  refine ⟨?_, e⟩
  unfold dgt
  rw [e]
  simp
  omega
theorem dec_props : ∀ (u : Nat), (Go.Lib.decDigits u).all dgt = true ∧ val (Go.Lib.decDigits u) = u ∧ Go.Lib.decDigits u ≠ []
  | u => by
    by_cases h : u < 10
    · rw [Go.Lib.decDigits_one h]
      obtain ⟨h1, h2⟩ := dgt_of h
      refine ⟨by rw [List.all_cons, h1]; rfl, ?_, by simp⟩
      show 10 * 0 + ((UInt8.ofNat (48 + u)).toNat - 48) = u
      rw [h2]
      omega
    · obtain ⟨a1, a2, a3⟩ := dec_props (u / 10)
      rw [Go.Lib.decDigits, dif_neg h]
      obtain ⟨h1, h2⟩ := dgt_of (i := u % 10) (by omega)
      refine ⟨by rw [List.all_append, a1, List.all_cons, h1]; rfl, ?_, by simp⟩
      rw [val_snoc, a2, h2]
      omega
theorem span_full {p : UInt8 → Bool} : ∀ {l : List UInt8}, l.all p = true → span p l = l.length
  | [], _ => rfl
  | c :: t, h => by
    simp only [List.all_cons, Bool.and_eq_true] at h
    unfold span
    rw [if_pos h.1, span_full h.2]
    rfl
theorem head_dig {l : List UInt8} (h : l.all dgt = true) (h0 : l ≠ []) : l.head? ≠ some 45 ∧ nameLen l = 0 ∧ l.head? ≠ some 59 := by
  cases l with
  | nil => exact absurd rfl h0
  | cons c t =>
    simp only [List.all_cons, Bool.and_eq_true] at h
    have hc := h.1
    unfold dgt at hc
    simp at hc
    refine ⟨fun e => ?_, ?_, fun e => ?_⟩
    · obtain rfl : c = 45 := by simpa using e
      revert hc; decide
    · show (if ltr c = true then _ else 0) = 0
      rw [if_neg]
      unfold ltr
      simp
      omega
    · obtain rfl : c = 59 := by simpa using e
      revert hc; decide
theorem fst_itoa {n : Int} (h : -1073741824 ≤ n ∧ n ≤ 1073741824) : fst (Go.Lib.itoa n) = .ok 2 (Go.Lib.itoa n).length n := by
  unfold Go.Lib.itoa
  by_cases hn : n < 0
  · rw [if_pos hn]
    obtain ⟨a1, a2, a3⟩ := dec_props n.natAbs
    generalize Go.Lib.decDigits n.natAbs = d at *
    have hd : digs (45 :: d) = d := rfl
    have hs : sgn (45 :: d) = 1 := rfl
    have hsp := span_full a1
    have hl0 : d.length ≠ 0 := fun h => a3 (List.eq_nil_of_length_eq_zero h)
    have hnl : numLen (45 :: d) = d.length + 1 := by
      unfold numLen
      rw [hd, hsp, if_neg hl0, hs]
      omega
    have hnd : numDig (45 :: d) = d := by unfold numDig; rw [hd, hsp, List.take_length]
    unfold fst
    rw [show nameLen (45 :: d) = 0 from rfl, if_neg (by simp), hnl, if_pos (by omega), hnd, a2, if_pos (by omega)]
    congr 1
    unfold numVal
    rw [if_pos (show (45 :: d : List UInt8).head? = some 45 from rfl), hnd, a2]
    omega
  · rw [if_neg hn]
    obtain ⟨a1, a2, a3⟩ := dec_props n.toNat
    generalize Go.Lib.decDigits n.toNat = d at *
    obtain ⟨b1, b2, b3⟩ := head_dig a1 a3
    have hd : digs d = d := if_neg b1
    have hs : sgn d = 0 := if_neg b1
    have hsp := span_full a1
    have hl0 : d.length ≠ 0 := fun h => a3 (List.eq_nil_of_length_eq_zero h)
    have hnl : numLen d = d.length := by
      unfold numLen
      rw [hd, hsp, if_neg hl0, hs]
      omega
    have hnd : numDig d = d := by unfold numDig; rw [hd, hsp, List.take_length]
    unfold fst
    rw [b2, if_neg (by simp), hnl, if_pos hl0, hnd, a2, if_pos (by omega)]
    congr 1
    unfold numVal
    rw [if_neg b1, hnd, a2]
    omega
theorem val_lt : ∀ (n : Nat) (l : List UInt8), l.length = n → l.all dgt = true → val l < 10 ^ n
  | 0, l, h, _ => by
    obtain rfl := List.eq_nil_of_length_eq_zero h
    decide
  | n + 1, l, h, hd => by
    have hne : l ≠ [] := by intro e; subst e; simp at h
    obtain ⟨m, c, rfl⟩ : ∃ m c, l = m ++ [c] := ⟨l.dropLast, l.getLast hne, (List.dropLast_concat_getLast hne).symm⟩
    simp only [List.all_append, List.all_cons, List.all_nil, Bool.and_true, Bool.and_eq_true] at hd
    have ih := val_lt n m (by simpa using h) hd.1
    have hc := hd.2
    unfold dgt at hc
    simp at hc
    rw [val_snoc, Nat.pow_succ]
    omega
theorem nDigits_le : ∀ (d u : Nat), u < 10 ^ d → 1 ≤ d → Go.Lib.nDigits u ≤ d
  | 0, u, _, h => by omega
  | d + 1, u, h, _ => by
    by_cases hu : u < 10
    · rw [Go.Lib.nDigits_small hu]; omega
    · rw [Go.Lib.nDigits_big hu]
      have h2 : u / 10 < 10 ^ d := by
        rw [Nat.pow_succ] at h
        omega
      have hd : 1 ≤ d := by
        cases d with
        | zero => simp at h2; omega
        | succ d => omega
      have := nDigits_le d (u / 10) h2 hd
      omega
/-- A numeral is no longer than the number that it was read from. -/
theorem itoa_le {y : W} (h : Fit y) (hk : y.kind = 2) : (Go.Lib.itoa y.num).length ≤ y.text.length := by
  obtain ⟨hf, hne⟩ := h
  rw [hk] at hf
  generalize y.text = l at *
  generalize y.num = v at *
  unfold fst at hf
  split at hf
  · split at hf
    · injection hf with a b c; cases a
    · cases hf
  · split at hf
    · rename_i hn0
      split at hf
      · obtain ⟨e2, e3⟩ : numLen l = l.length ∧ numVal l = v := by injection hf with a b c; exact ⟨b, c⟩
        have hs0 : span dgt (digs l) ≠ 0 := by
          intro h0; unfold numLen at hn0; rw [if_pos h0] at hn0; exact hn0 rfl
        have hnl : numLen l = sgn l + span dgt (digs l) := if_neg hs0
        have hdl := digs_length l
        have hlen : (numDig l).length = span dgt (digs l) := by
          unfold numDig
          rw [List.length_take]
          have := span_le dgt (digs l)
          omega
        have hlt := val_lt _ _ rfl (numDig_all l)
        rw [hlen] at hlt
        have hnd := nDigits_le _ _ hlt (by omega)
        have hdec : ∀ u : Nat, (Go.Lib.decDigits u).length = Go.Lib.nDigits u := Go.Lib.decDigits_length
        rw [← e3]
        unfold numVal Go.Lib.itoa
        by_cases h45 : l.head? = some 45
        · have hs : sgn l = 1 := if_pos h45
          rw [if_pos h45]
          split
          · rw [List.length_cons, hdec, Int.natAbs_neg, Int.natAbs_natCast]
            omega
          · rename_i hnn
            have h0 : val (numDig l) = 0 := by omega
            rw [hdec, h0]
            have : Go.Lib.nDigits ((-((0 : Nat) : Int)).toNat) = 1 := Go.Lib.nDigits_small (by decide)
            rw [this]
            omega
        · have hs : sgn l = 0 := if_neg h45
          rw [if_neg h45, if_neg (by omega), hdec, Int.toNat_natCast]
          omega
      · cases hf
    · split at hf
      · injection hf with a b c; cases a
      · cases hf
end SS

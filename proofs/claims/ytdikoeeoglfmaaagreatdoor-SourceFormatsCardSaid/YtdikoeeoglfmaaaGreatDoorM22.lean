/-
  The text of statements is read back as the same statements: whole.
  What Parse gives can be written, in a text that is not long.
-/
import Derived.Test.YtdikoeeoglfmaaaGreatDoorM21
namespace SS
open SC
def fullI (x : I) : List UInt8 := x.word.data.toList ++ nameT x.name ++ keysT x.keys ++ [59, 10]
def fullL : List I → List UInt8
  | [] => []
  | x :: l => fullI x ++ fullL l
/-- A statement that can be written. -/
structure WfI (x : I) : Prop where
  row : rowOf x.word ≠ []
  tbl : x.word = bTable → x.name = ⟨#[]⟩
  nam : ¬ x.word = bTable → Wd 1 x.name.data.toList 0
  keys : KWf x.word [] x.keys
/-- The words of a statement. -/
def ItemW (ws : List W) (x : I) : Prop := ∃ y nm kw s, ws = y :: (nm ++ (kw ++ [s])) ∧ bs y.text = x.word ∧ (x.word = bTable → nm = []) ∧ (¬ x.word = bTable → ∃ q, nm = [q] ∧ q.kind = 1 ∧ bs q.text = x.name) ∧ KeysW kw x.keys ∧ s.kind = 3
theorem sepx_59 (r : List UInt8) : SepX (59 :: r) := .inr ⟨59, r, rfl, .inr (.inl rfl)⟩
theorem words_semi (r : List UInt8) (a : Nat) (acc : List W) : wordsR (59 :: 10 :: r) a acc = wordsR r (a + 2) (acc ++ [⟨3, [59], 0, a⟩]) := by
  have h : wordsR (59 :: 10 :: r) a acc = wordsR (10 :: r) (a + 1) (acc ++ [⟨3, [59], 0, a⟩]) := by
    have := w_step (k := 3) (l := [59]) (v := 0) (r := 10 :: r) ⟨rfl, by simp⟩ (.inr ⟨10, r, rfl, .inr (.inr rfl)⟩) a acc
    exact this
  rw [h, b_step (by decide)]
theorem words_item {x : I} (h : WfI x) (r : List UInt8) (a : Nat) (acc : List W) : ∃ ws a', wordsR (fullI x ++ r) a acc = wordsR r a' (acc ++ ws) ∧ ItemW ws x := by
  have hw := row_wd h.row
  have hsep : SepX (keysT x.keys ++ (59 :: 10 :: r)) := sepx_keys _ (sepx_59 _)
  by_cases ht : x.word = bTable
  · have hn : nameT x.name = [] := if_pos (h.tbl ht)
    obtain ⟨kw, a1, e1, hk⟩ := words_keys x.word x.keys [] (59 :: 10 :: r) (a + x.word.data.toList.length) (acc ++ [⟨1, x.word.data.toList, 0, a⟩]) (sepx_59 _) h.keys
    refine ⟨⟨1, x.word.data.toList, 0, a⟩ :: ([] ++ (kw ++ [⟨3, [59], 0, a1⟩])), a1 + 2, ?_, ⟨_, [], kw, _, rfl, bs_list _, fun _ => rfl, fun hh => absurd ht hh, hk, rfl⟩⟩
    unfold fullI
    rw [hn]
    rw [show (x.word.data.toList ++ [] ++ keysT x.keys ++ [59, 10] ++ r) = x.word.data.toList ++ (keysT x.keys ++ (59 :: 10 :: r)) by simp]
    rw [w_step hw hsep, e1, words_semi]
    simp
  · have hnw := h.nam ht
    have hn : nameT x.name = 32 :: x.name.data.toList := if_neg (by intro e; exact hnw.2 (by rw [e]))
    obtain ⟨kw, a1, e1, hk⟩ := words_keys x.word x.keys [] (59 :: 10 :: r) (a + x.word.data.toList.length + 1 + x.name.data.toList.length) (acc ++ [⟨1, x.word.data.toList, 0, a⟩] ++ [⟨1, x.name.data.toList, 0, a + x.word.data.toList.length + 1⟩]) (sepx_59 _) h.keys
    refine ⟨⟨1, x.word.data.toList, 0, a⟩ :: ([⟨1, x.name.data.toList, 0, a + x.word.data.toList.length + 1⟩] ++ (kw ++ [⟨3, [59], 0, a1⟩])), a1 + 2, ?_, ⟨_, _, kw, _, rfl, bs_list _, fun hh => absurd hh ht, fun _ => ⟨_, rfl, rfl, bs_list _⟩, hk, rfl⟩⟩
    unfold fullI
    rw [hn]
    rw [show (x.word.data.toList ++ 32 :: x.name.data.toList ++ keysT x.keys ++ [59, 10] ++ r) = x.word.data.toList ++ (32 :: (x.name.data.toList ++ (keysT x.keys ++ (59 :: 10 :: r)))) by simp]
    rw [w_step hw (.inr ⟨32, _, rfl, .inl rfl⟩), b_step (by decide), w_step hnw hsep, e1, words_semi]
    simp
def ItemsW : List W → List I → Prop
  | ws, [] => ws = []
  | ws, x :: t => ∃ a b, ws = a ++ b ∧ ItemW a x ∧ ItemsW b t
theorem words_items : ∀ (l : List I) (a : Nat) (acc : List W), (∀ x ∈ l, WfI x) → ∃ ws, wordsR (fullL l) a acc = .ok (acc ++ ws) ∧ ItemsW ws l
  | [], a, acc, _ => ⟨[], by unfold fullL; rw [wordsR_eq, if_pos List.drop_nil, List.append_nil], rfl⟩
  | x :: l, a, acc, h => by
    obtain ⟨ws, a1, e1, h1⟩ := words_item (h x List.mem_cons_self) (fullL l) a acc
    obtain ⟨ws2, e2, h2⟩ := words_items l a1 (acc ++ ws) (fun y hy => h y (List.mem_cons_of_mem _ hy))
    exact ⟨ws ++ ws2, by unfold fullL; rw [e1, e2, List.append_assoc], ws, ws2, rfl, h1, h2⟩
theorem numsP_back {sz : Int} : ∀ (vals : List Int) (vs : List W) (acc : List Int) (r : List W), NumW vs vals → numsP sz vals.length acc (vs ++ r) = .ok (acc ++ vals) r
  | [], [], acc, r, _ => by rw [List.append_nil]; rfl
  | [], y :: s, _, _, h => by cases h
  | n :: t, [], _, _, h => by cases h
  | n :: t, y :: s, acc, r, h => by
    obtain ⟨h1, h2, h3⟩ := h
    show numsP sz (t.length + 1) acc (y :: (s ++ r)) = _
    unfold numsP
    rw [if_pos h1, h2, numsP_back t s (acc ++ [n]) r h3, List.append_assoc]
    rfl
theorem keyP_back {sz : Int} {word : ByteArray} {ks : List K} {y : W} {vs r : List W} {k : K} (h1 : bs y.text = k.key) (h2 : NumW vs k.vals) (h3 : arityN word k.key = some k.vals.length) (h4 : hasKey ks k.key = false) : keyP sz word ks y (vs ++ r) = .ok ⟨k.key, k.vals, y.pos⟩ r := by
  unfold keyP
  rw [h1, h3]
  dsimp only
  rw [h4, numsP_back k.vals vs [] r h2]
  rfl
theorem hasKey_same {ks ks' : List K} {k : ByteArray} (h : allB sameKB ks' ks = true) : hasKey ks' k = hasKey ks k := by
  induction ks' generalizing ks with
  | nil => cases ks with
    | nil => rfl
    | cons y t => cases h
  | cons x s ih => cases ks with
    | nil => cases h
    | cons y t =>
      unfold allB at h
      simp only [Bool.and_eq_true] at h
      have he : x.key = y.key := by
        have := h.1
        unfold sameKB at this
        simp only [Bool.and_eq_true, decide_eq_true_eq] at this
        exact this.1
      unfold hasKey at ih ⊢
      rw [List.any_cons, List.any_cons, ih h.2, he]
theorem allB_snoc {α : Type} {f : α → α → Bool} : ∀ {s t : List α} {x y : α}, allB f s t = true → f x y = true → allB f (s ++ [x]) (t ++ [y]) = true
  | [], [], x, y, _, h => by show (f x y && true) = true; rw [h]; rfl
  | a :: s, [], _, _, h, _ => by cases h
  | [], b :: t, _, _, h, _ => by cases h
  | a :: s, b :: t, x, y, h, h2 => by
    unfold allB at h
    simp only [Bool.and_eq_true] at h
    show (f a b && allB f (s ++ [x]) (t ++ [y])) = true
    rw [h.1, allB_snoc h.2 h2]
    rfl
theorem keys_back {sz : Int} {word name : ByteArray} {pos : Int} {s : W} {r : List W} (hs : s.kind = 3) : ∀ (ks pre pre' : List K) (kw : List W), KeysW kw ks → KWf word pre ks → allB sameKB pre' pre = true →
    ∃ ks', keysP sz ⟨word, name, pre', pos⟩ (kw ++ s :: r) = .ok ⟨word, name, ks', pos⟩ r ∧ allB sameKB ks' (pre ++ ks) = true
  | [], pre, pre', kw, hk, _, hp => by
    obtain rfl : kw = [] := hk
    refine ⟨pre', ?_, by rw [List.append_nil]; exact hp⟩
    show keysP sz _ (s :: r) = _
    rw [keysP_cons, if_pos hs]
  | k :: t, pre, pre', kw, hk, hw, hp => by
    obtain ⟨y, vs, b, rfl, h1, h2, h3, h4⟩ := hk
    obtain ⟨w1, w2, w3, w4⟩ := hw
    have hkp : keyP sz word pre' y (vs ++ (b ++ s :: r)) = .ok ⟨k.key, k.vals, y.pos⟩ (b ++ s :: r) := keyP_back h1 h2 w1 (by rw [hasKey_same hp]; exact w2)
    obtain ⟨ks', e, he⟩ := keys_back hs t (pre ++ [k]) (pre' ++ [⟨k.key, k.vals, y.pos⟩]) b h4 w4 (allB_snoc hp (by unfold sameKB; simp))
    refine ⟨ks', ?_, by simpa using he⟩
    show keysP sz _ (y :: vs ++ b ++ s :: r) = _
    rw [show (y :: vs ++ b ++ s :: r) = y :: (vs ++ (b ++ s :: r)) by simp, keysP_cons, if_neg (by rw [h3]; decide), hkp]
    exact e
theorem item_back {sz : Int} {ws r : List W} {x : I} (h : ItemW ws x) (hw : WfI x) : ∃ x', itemP sz (ws ++ r) = .ok x' r ∧ sameIB x' x = true := by
  obtain ⟨y, nm, kw, s, rfl, h1, h2, h3, h4, h5⟩ := h
  by_cases ht : x.word = bTable
  · obtain rfl := h2 ht
    obtain ⟨ks', e, he⟩ := keys_back (sz := sz) (word := x.word) (name := ⟨#[]⟩) (pos := y.pos) (r := r) h5 x.keys [] [] kw h4 hw.keys rfl
    refine ⟨⟨x.word, ⟨#[]⟩, ks', y.pos⟩, ?_, ?_⟩
    · show itemP sz (y :: (kw ++ [s] ++ r)) = _
      unfold itemP
      dsimp only
      rw [h1, if_neg hw.row, if_pos ht, List.append_assoc]
      exact e
    · unfold sameIB
      dsimp only
      rw [hw.tbl ht, decide_eq_true rfl, decide_eq_true rfl]
      simpa using he
  · obtain ⟨q, rfl, hq1, hq2⟩ := h3 ht
    obtain ⟨ks', e, he⟩ := keys_back (sz := sz) (word := x.word) (name := x.name) (pos := y.pos) (r := r) h5 x.keys [] [] kw h4 hw.keys rfl
    refine ⟨⟨x.word, x.name, ks', y.pos⟩, ?_, ?_⟩
    · show itemP sz (y :: q :: (kw ++ [s] ++ r)) = _
      unfold itemP
      dsimp only
      rw [h1, if_neg hw.row, if_neg ht, if_pos hq1, hq2, List.append_assoc]
      exact e
    · unfold sameIB
      dsimp only
      rw [decide_eq_true rfl, decide_eq_true rfl]
      simpa using he
theorem items_back {sz : Int} : ∀ (l : List I) (ws : List W) (acc acc0 : List I), ItemsW ws l → (∀ x ∈ l, WfI x) → acc.length + l.length ≤ 400 → allB sameIB acc acc0 = true → ∃ m, itemsP sz acc ws = .ok m ∧ allB sameIB m (acc0 ++ l) = true
  | [], ws, acc, acc0, h, _, _, ha => by
    obtain rfl : ws = [] := h
    exact ⟨acc, rfl, by rw [List.append_nil]; exact ha⟩
  | x :: l, ws, acc, acc0, h, hw, hn, ha => by
    obtain ⟨a, b, rfl, h1, h2⟩ := h
    obtain ⟨x', e, hx⟩ := item_back (sz := sz) (r := b) h1 (hw x List.mem_cons_self)
    obtain ⟨m, em, hm⟩ := items_back (sz := sz) l b (acc ++ [x']) (acc0 ++ [x]) h2 (fun y hy => hw y (List.mem_cons_of_mem _ hy)) (by simp at hn ⊢; omega) (allB_snoc ha hx)
    refine ⟨m, ?_, by simpa using hm⟩
    obtain ⟨y, nm, kw, s, rfl, _⟩ := h1
    show itemsP sz acc (y :: (nm ++ (kw ++ [s]) ++ b)) = _
    rw [itemsP_cons, if_neg (by simp at hn; omega)]
    rw [show (y :: (nm ++ (kw ++ [s]) ++ b)) = y :: (nm ++ (kw ++ [s])) ++ b from rfl, e]
    exact em
/-- The text of statements that can be written is read back. -/
theorem parse_full {l : List I} (hw : ∀ x ∈ l, WfI x) (hn : l.length ≤ 400) (ht : (fullL l).length ≤ 20000) : ∃ m, parse (fullL l) = .ok m ∧ allB sameIB m l = true := by
  obtain ⟨ws, e, hi⟩ := words_items l 0 [] hw
  obtain ⟨m, em, hm⟩ := items_back (sz := ((fullL l).length : Int)) l ws [] [] hi hw (by simpa using hn) rfl
  refine ⟨m, ?_, by simpa using hm⟩
  unfold parse
  have : words (fullL l) = .ok ws := by
    unfold words
    rw [if_neg (by omega), e]
    rfl
  rw [this]
  exact em
/-- Short texts are not cut. -/
theorem appKeys_full : ∀ (ks : List K) (t : List UInt8), t.length + (keysT ks).length ≤ 20000 → appKeys t ks = t ++ keysT ks
  | [], t, _ => by unfold keysT appKeys; rw [List.append_nil]
  | k :: ks, t, h => by
    unfold keysT at h ⊢
    rw [List.length_append] at h
    unfold appKeys
    rw [if_neg (by omega), appKeys_full ks (t ++ keyT k) (by rw [List.length_append]; omega), List.append_assoc]
theorem appI_full (x : I) (t : List UInt8) (h : t.length + (fullI x).length ≤ 20000) : appI t x = t ++ fullI x := by
  unfold fullI at h ⊢
  unfold appI
  simp only [List.length_append] at h
  rw [appKeys_full _ _ (by simp only [List.length_append]; omega)]
  simp
theorem fmtF_full : ∀ (l : List I) (t : List UInt8), t.length + (fullL l).length ≤ 20000 → fmtF t l = some (t ++ fullL l)
  | [], t, _ => by unfold fmtF fullL; rw [List.append_nil]
  | x :: l, t, h => by
    unfold fullL at h ⊢
    rw [List.length_append] at h
    unfold fmtF
    rw [appI_full x t (by omega), if_neg (by rw [List.length_append]; omega), fmtF_full l _ (by rw [List.length_append]; omega), List.append_assoc]
theorem fmtC_full {l : List I} (hw : ∀ x ∈ l, WfI x) (hn : l.length ≤ 400) (ht : (fullL l).length ≤ 20000) : fmtC l = some (fullL l) := by
  obtain ⟨m, e, hm⟩ := parse_full hw hn ht
  unfold fmtC
  rw [fmtF_full l [] (by simpa using ht)]
  show chkF l _ (parse _) = _
  rw [show ([] : List UInt8) ++ fullL l = fullL l from rfl, e]
  unfold chkF
  dsimp only
  rw [hm]
  rfl
end SS

namespace SS
open SC
def sumT : List W → Nat
  | [] => 0
  | y :: t => y.text.length + sumT t
theorem chain_sum : ∀ {s : List UInt8} {a : Nat} {ws : List W}, Chain s a ws → a + sumT ws ≤ s.length
  | _, _, [], h => h
  | s, a, y :: t, h => by
    have := chain_sum h.2.2.2.2
    have := h.1
    show a + (y.text.length + sumT t) ≤ _
    omega
theorem words_fit {s : List UInt8} {ws : List W} (h : words s = .ok ws) : ∀ y ∈ ws, Fit y := by
  intro y hy
  obtain ⟨i, hi⟩ := List.getElem?_of_mem hy
  exact (chain_at (words_chain h) i y hi).2.2
def FW (l : List W) : Prop := ∀ y ∈ l, Fit y ∧ Wok y
theorem FW.sub {l r : List W} (h : FW l) (hs : Sub r l) : FW r := fun y hy => h y (hs y hy)
theorem FW.tail {y : W} {l : List W} (h : FW (y :: l)) : FW l := fun z hz => h z (List.mem_cons_of_mem _ hz)
theorem FW.wok {l : List W} (h : FW l) : ∀ y ∈ l, Wok y := fun y hy => (h y hy).2
theorem fit_pos {y : W} (h : Fit y) : 1 ≤ y.text.length := by
  cases e : y.text with
  | nil => exact absurd e h.2
  | cons c t => simp
theorem valsT_snoc : ∀ (acc : List Int) (n : Int), (valsT (acc ++ [n])).length = (valsT acc).length + 1 + (Go.Lib.itoa n).length
  | [], n => by
    show (32 :: (Go.Lib.itoa n ++ [])).length = 0 + 1 + _
    simp
    omega
  | a :: t, n => by
    show (32 :: (Go.Lib.itoa a ++ valsT (t ++ [n]))).length = (32 :: (Go.Lib.itoa a ++ valsT t)).length + 1 + _
    simp only [List.length_cons, List.length_append]
    rw [valsT_snoc t n]
    omega
theorem numsP_w {sz : Int} : ∀ {n : Nat} {acc : List Int} {l : List W} {vs : List Int} {r : List W}, numsP sz n acc l = .ok vs r → FW l → (valsT vs).length + 2 * sumT r ≤ (valsT acc).length + 2 * sumT l
  | 0, acc, l, vs, r, h, _ => by cases h; exact Nat.le_refl _
  | n + 1, acc, [], vs, r, h, _ => by cases h
  | n + 1, acc, w :: t, vs, r, h, hl => by
    unfold numsP at h
    split at h
    · rename_i hk
      have h1 := numsP_w h hl.tail
      rw [valsT_snoc] at h1
      have h2 := itoa_le (hl w List.mem_cons_self).1 hk
      have h3 := fit_pos (hl w List.mem_cons_self).1
      show _ ≤ _ + 2 * (w.text.length + sumT t)
      omega
    · cases h
theorem bs_len (l : List UInt8) : (bs l).data.toList = l := by unfold bs; simp
theorem keyP_w {sz : Int} {word : ByteArray} {ks : List K} {x : W} {t : List W} {k : K} {r : List W} (h : keyP sz word ks x t = .ok k r) (hx : Fit x) (ht : FW t) : (keyT k).length + 2 * sumT r ≤ 2 * x.text.length + 2 * sumT t := by
  unfold keyP at h
  split at h
  · cases h
  · split at h
    · cases h
    · split at h
      · cases h
      · rename_i hnn
        cases h
        have h1 := numsP_w hnn ht
        have h2 := fit_pos hx
        have h3 : (valsT []).length = 0 := rfl
        unfold keyT
        rw [bs_len]
        simp only [List.length_cons, List.length_append]
        omega
theorem keysT_snoc : ∀ (ks : List K) (k : K), (keysT (ks ++ [k])).length = (keysT ks).length + (keyT k).length
  | [], k => by
    show (keyT k ++ []).length = 0 + _
    simp
  | a :: t, k => by
    show (keyT a ++ keysT (t ++ [k])).length = (keyT a ++ keysT t).length + _
    rw [List.length_append, List.length_append, keysT_snoc t k]
    omega
theorem kwf_snoc {word : ByteArray} : ∀ {ks pre : List K} {k : K}, KWf word pre ks → arityN word k.key = some k.vals.length → hasKey (pre ++ ks) k.key = false → (∀ v ∈ k.vals, -1073741824 ≤ v ∧ v ≤ 1073741824) → KWf word pre (ks ++ [k])
  | [], pre, k, _, h1, h2, h3 => ⟨h1, by rw [List.append_nil] at h2; exact h2, h3, trivial⟩
  | a :: t, pre, k, h, h1, h2, h3 => ⟨h.1, h.2.1, h.2.2.1, kwf_snoc h.2.2.2 h1 (by rw [List.append_assoc]; exact h2) h3⟩
theorem keysF_w {sz : Int} : ∀ (f : Nat) (x : I) (l : List W) (y : I) (r : List W), keysF sz f x l = .ok y r → FW l → KWf x.word [] x.keys → KWf y.word [] y.keys ∧ (keysT y.keys).length + 2 * sumT r + 2 ≤ (keysT x.keys).length + 2 * sumT l
  | 0, _, _, _, _, h, _, _ => by cases h
  | f + 1, x, [], y, r, h, _, _ => by cases h
  | f + 1, x, w :: t, y, r, h, hl, hk => by
    have hwp := fit_pos (hl w List.mem_cons_self).1
    unfold keysF at h
    split at h
    · cases h
      refine ⟨hk, ?_⟩
      show _ + _ + 2 ≤ _ + 2 * (w.text.length + sumT _)
      omega
    · split at h
      · cases h
      · rename_i k r1 hkp
        obtain ⟨h1, h2, h3, h4, h5⟩ := keyP_ok hkp (hl w List.mem_cons_self).2 hl.tail.wok
        have hw := keyP_w hkp (hl w List.mem_cons_self).1 hl.tail
        obtain ⟨a1, a2⟩ := keysF_w f _ _ _ _ h (hl.tail.sub h2) (kwf_snoc hk (by rw [h3]; exact h4) (by rw [List.nil_append, h3]; exact h5) h1.2.2)
        refine ⟨a1, ?_⟩
        have e : (keysT (x.with k).keys).length = (keysT x.keys).length + (keyT k).length := keysT_snoc x.keys k
        show _ + _ + 2 ≤ _ + 2 * (w.text.length + sumT _)
        omega
theorem fst_name {l : List UInt8} {n : Nat} {v : Int} (h : fst l = .ok 1 n v) : v = 0 := by
  unfold fst at h
  split at h
  · split at h
    · cases h; rfl
    · cases h
  · split at h
    · split at h
      · cases h
      · cases h
    · split at h
      · cases h
      · cases h
theorem itemP_w {sz : Int} {l : List W} {y : I} {r : List W} (h : itemP sz l = .ok y r) (hl : FW l) : WfI y ∧ (fullI y).length + 2 * sumT r ≤ 2 * sumT l := by
  unfold itemP at h
  split at h
  · cases h
  · rename_i w t
    have hwp := fit_pos (hl w List.mem_cons_self).1
    split at h
    · cases h
    · rename_i hrow
      split at h
      · rename_i ht
        obtain ⟨a1, a2, a3, a4, _⟩ := keysF_ok _ _ _ _ _ h hl.tail.wok (fun k hk => by simp at hk)
        obtain ⟨b1, b2⟩ := keysF_w _ _ _ _ _ h hl.tail trivial
        dsimp only at a3 a4
        refine ⟨⟨by rw [a3]; exact hrow, fun _ => a4, fun hn => absurd (a3.trans ht) hn, b1⟩, ?_⟩
        have e0 : (keysT ([] : List K)).length = 0 := rfl
        unfold fullI
        rw [a3, a4, bs_len]
        have e1 : (nameT ⟨#[]⟩).length = 0 := by unfold nameT; rw [if_pos rfl]; rfl
        simp only [List.length_append, List.length_cons, List.length_nil]
        show _ ≤ 2 * (w.text.length + sumT t)
        dsimp only at b2
        omega
      · rename_i ht
        split at h
        · cases h
        · rename_i n t'
          have hnf := (hl n (List.mem_cons_of_mem _ List.mem_cons_self)).1
          split at h
          · rename_i hk
            obtain ⟨a1, a2, a3, a4, _⟩ := keysF_ok _ _ _ _ _ h hl.tail.tail.wok (fun k hk => by simp at hk)
            obtain ⟨b1, b2⟩ := keysF_w _ _ _ _ _ h hl.tail.tail trivial
            dsimp only at a3 a4
            refine ⟨⟨by rw [a3]; exact hrow, fun hh => absurd (a3.symm.trans hh) ht, fun _ => ?_, b1⟩, ?_⟩
            · rw [a4, bs_len]
              obtain ⟨hf, hne⟩ := hnf
              rw [hk] at hf
              have hz := fst_name hf
              rw [hz] at hf
              exact ⟨hf, hne⟩
            · have e0 : (keysT ([] : List K)).length = 0 := rfl
              unfold fullI
              rw [a3, a4, bs_len]
              have e1 : (nameT (bs n.text)).length ≤ 1 + n.text.length := by
                unfold nameT
                split
                · simp
                · rw [bs_len]; simp only [List.length_cons]; omega
              simp only [List.length_append, List.length_cons, List.length_nil]
              show _ ≤ 2 * (w.text.length + (n.text.length + sumT t'))
              dsimp only at b2
              omega
          · cases h
theorem fullL_snoc : ∀ (l : List I) (x : I), (fullL (l ++ [x])).length = (fullL l).length + (fullI x).length
  | [], x => by
    show (fullI x ++ []).length = 0 + _
    simp
  | a :: t, x => by
    show (fullI a ++ fullL (t ++ [x])).length = (fullI a ++ fullL t).length + _
    rw [List.length_append, List.length_append, fullL_snoc t x]
    omega
theorem itemsF_w {sz : Int} : ∀ (f : Nat) (acc : List I) (l : List W) (r : List I), itemsF sz f acc l = .ok r → FW l → l.length ≤ 20000 → (∀ x ∈ acc, WfI x) → (∀ x ∈ r, WfI x) ∧ (fullL r).length ≤ (fullL acc).length + 2 * sumT l
  | 0, _, _, _, h, _, _, _ => by cases h
  | f + 1, acc, [], r, h, _, _, ha => by cases h; exact ⟨ha, Nat.le_add_right _ _⟩
  | f + 1, acc, w :: t, r, h, hl, hn, ha => by
    unfold itemsF at h
    split at h
    · cases h
    · split at h
      · cases h
      · rename_i x r1 hip
        obtain ⟨_, h2⟩ := itemP_ok hip hl.wok hn
        obtain ⟨b1, b2⟩ := itemP_w hip hl
        have := itemP_len hip
        obtain ⟨c1, c2⟩ := itemsF_w f _ _ _ h (hl.sub h2) (by omega) (fun x' hx' => by
          rcases List.mem_append.1 hx' with hx' | hx'
          · exact ha x' hx'
          · obtain rfl : x' = x := by simpa using hx'
            exact b1)
        rw [fullL_snoc] at c2
        exact ⟨c1, by omega⟩
/-- What Parse gives. -/
theorem parse_wf {s : List UInt8} {m : List I} (h : parse s = .ok m) : (∀ x ∈ m, WfI x) ∧ (fullL m).length ≤ 2 * s.length := by
  unfold parse at h
  split at h
  · cases h
  · rename_i ws hw
    obtain ⟨h1, h2⟩ := itemsF_w _ _ _ _ h (fun y hy => ⟨words_fit hw y hy, words_wok hw y hy⟩) (words_few hw) (fun x hx => by simp at hx)
    refine ⟨h1, ?_⟩
    have := chain_sum (words_chain hw)
    have e : (fullL []).length = 0 := rfl
    omega
/-- Positions are no part of the text. -/
theorem keyT_same {x y : K} (h : sameKB x y = true) : keyT x = keyT y := by
  unfold sameKB at h
  simp only [Bool.and_eq_true, decide_eq_true_eq, beq_iff_eq] at h
  unfold keyT
  rw [h.1, h.2]
theorem keysT_same : ∀ {s t : List K}, allB sameKB s t = true → keysT s = keysT t
  | [], [], _ => rfl
  | a :: s, [], h => by cases h
  | [], b :: t, h => by cases h
  | a :: s, b :: t, h => by
    unfold allB at h
    simp only [Bool.and_eq_true] at h
    show keyT a ++ keysT s = keyT b ++ keysT t
    rw [keyT_same h.1, keysT_same h.2]
theorem fullI_same {x y : I} (h : sameIB x y = true) : fullI x = fullI y := by
  unfold sameIB at h
  simp only [Bool.and_eq_true, decide_eq_true_eq] at h
  unfold fullI
  rw [h.1, h.2.1, keysT_same h.2.2]
theorem fullL_same : ∀ {s t : List I}, allB sameIB s t = true → fullL s = fullL t
  | [], [], _ => rfl
  | a :: s, [], h => by cases h
  | [], b :: t, h => by cases h
  | a :: s, b :: t, h => by
    unfold allB at h
    simp only [Bool.and_eq_true] at h
    show fullI a ++ fullL s = fullI b ++ fullL t
    rw [fullI_same h.1, fullL_same h.2]
/-- The law's plain content. -/
theorem again_plain {s : List UInt8} {l : List I} (h : parse s = .ok l) (hs : s.length ≤ 10000) : ∃ m, fmtC l = some (fullL l) ∧ parse (fullL l) = .ok m ∧ fmtC m = some (fullL l) ∧ allB sameIB m l = true ∧ (fullL l).length ≤ 20000 := by
  obtain ⟨hw, hl⟩ := parse_wf h
  have hn := (parse_ok h).2
  have ht : (fullL l).length ≤ 20000 := by omega
  obtain ⟨m, hm, hsm⟩ := parse_full hw hn ht
  refine ⟨m, fmtC_full hw hn ht, hm, ?_, hsm, ht⟩
  have hf := fullL_same hsm
  rw [← hf]
  exact fmtC_full (parse_wf hm).1 (parse_ok hm).2 (by rw [hf]; exact ht)
end SS

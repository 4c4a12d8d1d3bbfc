/-
  What Parse gives can be written, in a text that is not long.
  The examples of the chapter.
  SourceAgain: its walk.
-/
import Derived.KernelRfl
import Derived.Test.YtdikoeeoglfmaaaDoorM21
import Derived.Test.YtdikoeeoglfmaaaDoorM24
import Derived.Test.YtdikoeeoglfmaaaDoorM27
namespace SS
open SC
def sumT : List W → Nat
  | [] => 0
  | y :: t => y.text.length + sumT t
theorem chain_sum : ∀ {s : List UInt8} {a : Nat} {ws : List W}, Chain s a ws → a + sumT ws ≤ s.length
  | _, _, [], h => h
  | s, a, y :: t, h => by
    have := chain_sum h.2.2.2.2
    have := h.1
    show a + (y.text.length + sumT t) ≤ _
    omega
theorem words_fit {s : List UInt8} {ws : List W} (h : words s = .ok ws) : ∀ y ∈ ws, Fit y := by
  intro y hy
  obtain ⟨i, hi⟩ := List.getElem?_of_mem hy
  exact (chain_at (words_chain h) i y hi).2.2
def FW (l : List W) : Prop := ∀ y ∈ l, Fit y ∧ Wok y
theorem FW.sub {l r : List W} (h : FW l) (hs : Sub r l) : FW r := fun y hy => h y (hs y hy)
theorem FW.tail {y : W} {l : List W} (h : FW (y :: l)) : FW l := fun z hz => h z (List.mem_cons_of_mem _ hz)
theorem FW.wok {l : List W} (h : FW l) : ∀ y ∈ l, Wok y := fun y hy => (h y hy).2
theorem fit_pos {y : W} (h : Fit y) : 1 ≤ y.text.length := by
  cases e : y.text with
  | nil => exact absurd e h.2
  | cons c t => simp
theorem valsT_snoc : ∀ (acc : List Int) (n : Int), (valsT (acc ++ [n])).length = (valsT acc).length + 1 + (Go.Lib.itoa n).length
  | [], n => by
    show (32 :: (Go.Lib.itoa n ++ [])).length = 0 + 1 + _
    simp
    omega
  | a :: t, n => by
    show (32 :: (Go.Lib.itoa a ++ valsT (t ++ [n]))).length = (32 :: (Go.Lib.itoa a ++ valsT t)).length + 1 + _
    simp only [List.length_cons, List.length_append]
    rw [valsT_snoc t n]
    omega
theorem numsP_w {sz : Int} : ∀ {n : Nat} {acc : List Int} {l : List W} {vs : List Int} {r : List W}, numsP sz n acc l = .ok vs r → FW l → (valsT vs).length + 2 * sumT r ≤ (valsT acc).length + 2 * sumT l
  | 0, acc, l, vs, r, h, _ => by cases h; exact Nat.le_refl _
  | n + 1, acc, [], vs, r, h, _ => by cases h
  | n + 1, acc, w :: t, vs, r, h, hl => by
    unfold numsP at h
    split at h
    · rename_i hk
      have h1 := numsP_w h hl.tail
      rw [valsT_snoc] at h1
      have h2 := itoa_le (hl w List.mem_cons_self).1 hk
      have h3 := fit_pos (hl w List.mem_cons_self).1
      show _ ≤ _ + 2 * (w.text.length + sumT t)
      omega
    · cases h
theorem bs_len (l : List UInt8) : (bs l).data.toList = l := by unfold bs; simp
theorem keyP_w {sz : Int} {word : ByteArray} {ks : List K} {x : W} {t : List W} {k : K} {r : List W} (h : keyP sz word ks x t = .ok k r) (hx : Fit x) (ht : FW t) : (keyT k).length + 2 * sumT r ≤ 2 * x.text.length + 2 * sumT t := by
  unfold keyP at h
  split at h
  · cases h
  · split at h
    · cases h
    · split at h
      · cases h
      · rename_i hnn
        cases h
        have h1 := numsP_w hnn ht
        have h2 := fit_pos hx
        have h3 : (valsT []).length = 0 := rfl
        unfold keyT
        rw [bs_len]
        simp only [List.length_cons, List.length_append]
        omega
theorem keysT_snoc : ∀ (ks : List K) (k : K), (keysT (ks ++ [k])).length = (keysT ks).length + (keyT k).length
  | [], k => by
    show (keyT k ++ []).length = 0 + _
    simp
  | a :: t, k => by
    show (keyT a ++ keysT (t ++ [k])).length = (keyT a ++ keysT t).length + _
    rw [List.length_append, List.length_append, keysT_snoc t k]
    omega
theorem kwf_snoc {word : ByteArray} : ∀ {ks pre : List K} {k : K}, KWf word pre ks → arityN word k.key = some k.vals.length → hasKey (pre ++ ks) k.key = false → (∀ v ∈ k.vals, -1073741824 ≤ v ∧ v ≤ 1073741824) → KWf word pre (ks ++ [k])
  | [], pre, k, _, h1, h2, h3 => ⟨h1, by rw [List.append_nil] at h2; exact h2, h3, trivial⟩
  | a :: t, pre, k, h, h1, h2, h3 => ⟨h.1, h.2.1, h.2.2.1, kwf_snoc h.2.2.2 h1 (by rw [List.append_assoc]; exact h2) h3⟩
theorem keysF_w {sz : Int} : ∀ (f : Nat) (x : I) (l : List W) (y : I) (r : List W), keysF sz f x l = .ok y r → FW l → KWf x.word [] x.keys → KWf y.word [] y.keys ∧ (keysT y.keys).length + 2 * sumT r + 2 ≤ (keysT x.keys).length + 2 * sumT l
  | 0, _, _, _, _, h, _, _ => by cases h
  | f + 1, x, [], y, r, h, _, _ => by cases h
  | f + 1, x, w :: t, y, r, h, hl, hk => by
    have hwp := fit_pos (hl w List.mem_cons_self).1
    unfold keysF at h
    split at h
    · cases h
      refine ⟨hk, ?_⟩
      show _ + _ + 2 ≤ _ + 2 * (w.text.length + sumT _)
      omega
    · split at h
      · cases h
      · rename_i k r1 hkp
        obtain ⟨h1, h2, h3, h4, h5⟩ := keyP_ok hkp (hl w List.mem_cons_self).2 hl.tail.wok
        have hw := keyP_w hkp (hl w List.mem_cons_self).1 hl.tail
        obtain ⟨a1, a2⟩ := keysF_w f _ _ _ _ h (hl.tail.sub h2) (kwf_snoc hk (by rw [h3]; exact h4) (by rw [List.nil_append, h3]; exact h5) h1.2.2)
        refine ⟨a1, ?_⟩
        have e : (keysT (x.with k).keys).length = (keysT x.keys).length + (keyT k).length := keysT_snoc x.keys k
        show _ + _ + 2 ≤ _ + 2 * (w.text.length + sumT _)
        omega
theorem fst_name {l : List UInt8} {n : Nat} {v : Int} (h : fst l = .ok 1 n v) : v = 0 := by
  unfold fst at h
  split at h
  · split at h
    · cases h; rfl
    · cases h
  · split at h
    · split at h
      · cases h
      · cases h
    · split at h
      · cases h
      · cases h
theorem itemP_w {sz : Int} {l : List W} {y : I} {r : List W} (h : itemP sz l = .ok y r) (hl : FW l) : WfI y ∧ (fullI y).length + 2 * sumT r ≤ 2 * sumT l := by
  unfold itemP at h
  split at h
  · cases h
  · rename_i w t
    have hwp := fit_pos (hl w List.mem_cons_self).1
    split at h
    · cases h
    · rename_i hrow
      split at h
      · rename_i ht
        obtain ⟨a1, a2, a3, a4, _⟩ := keysF_ok _ _ _ _ _ h hl.tail.wok (fun k hk => by simp at hk)
        obtain ⟨b1, b2⟩ := keysF_w _ _ _ _ _ h hl.tail trivial
        dsimp only at a3 a4
        refine ⟨⟨by rw [a3]; exact hrow, fun _ => a4, fun hn => absurd (a3.trans ht) hn, b1⟩, ?_⟩
        have e0 : (keysT ([] : List K)).length = 0 := rfl
        unfold fullI
        rw [a3, a4, bs_len]
        have e1 : (nameT ⟨#[]⟩).length = 0 := by unfold nameT; rw [if_pos rfl]; rfl
        simp only [List.length_append, List.length_cons, List.length_nil]
        show _ ≤ 2 * (w.text.length + sumT t)
        dsimp only at b2
        omega
      · rename_i ht
        split at h
        · cases h
        · rename_i n t'
          have hnf := (hl n (List.mem_cons_of_mem _ List.mem_cons_self)).1
          split at h
          · rename_i hk
            obtain ⟨a1, a2, a3, a4, _⟩ := keysF_ok _ _ _ _ _ h hl.tail.tail.wok (fun k hk => by simp at hk)
            obtain ⟨b1, b2⟩ := keysF_w _ _ _ _ _ h hl.tail.tail trivial
            dsimp only at a3 a4
            refine ⟨⟨by rw [a3]; exact hrow, fun hh => absurd (a3.symm.trans hh) ht, fun _ => ?_, b1⟩, ?_⟩
            · rw [a4, bs_len]
              obtain ⟨hf, hne⟩ := hnf
              rw [hk] at hf
              have hz := fst_name hf
              rw [hz] at hf
              exact ⟨hf, hne⟩
            · have e0 : (keysT ([] : List K)).length = 0 := rfl
              unfold fullI
              rw [a3, a4, bs_len]
              have e1 : (nameT (bs n.text)).length ≤ 1 + n.text.length := by
                unfold nameT
                split
                · simp
                · rw [bs_len]; simp only [List.length_cons]; omega
              simp only [List.length_append, List.length_cons, List.length_nil]
              show _ ≤ 2 * (w.text.length + (n.text.length + sumT t'))
              dsimp only at b2
              omega
          · cases h
theorem fullL_snoc : ∀ (l : List I) (x : I), (fullL (l ++ [x])).length = (fullL l).length + (fullI x).length
  | [], x => by
    show (fullI x ++ []).length = 0 + _
    simp
  | a :: t, x => by
    show (fullI a ++ fullL (t ++ [x])).length = (fullI a ++ fullL t).length + _
    rw [List.length_append, List.length_append, fullL_snoc t x]
    omega
theorem itemsF_w {sz : Int} : ∀ (f : Nat) (acc : List I) (l : List W) (r : List I), itemsF sz f acc l = .ok r → FW l → l.length ≤ 20000 → (∀ x ∈ acc, WfI x) → (∀ x ∈ r, WfI x) ∧ (fullL r).length ≤ (fullL acc).length + 2 * sumT l
  | 0, _, _, _, h, _, _, _ => by cases h
  | f + 1, acc, [], r, h, _, _, ha => by cases h; exact ⟨ha, Nat.le_add_right _ _⟩
  | f + 1, acc, w :: t, r, h, hl, hn, ha => by
    unfold itemsF at h
    split at h
    · cases h
    · split at h
      · cases h
      · rename_i x r1 hip
        obtain ⟨_, h2⟩ := itemP_ok hip hl.wok hn
        obtain ⟨b1, b2⟩ := itemP_w hip hl
        have := itemP_len hip
        obtain ⟨c1, c2⟩ := itemsF_w f _ _ _ h (hl.sub h2) (by omega) (fun x' hx' => by
          rcases List.mem_append.1 hx' with hx' | hx'
          · exact ha x' hx'
          · obtain rfl : x' = x := by simpa using hx'
            exact b1)
        rw [fullL_snoc] at c2
        exact ⟨c1, by omega⟩
/-- What Parse gives. -/
theorem parse_wf {s : List UInt8} {m : List I} (h : parse s = .ok m) : (∀ x ∈ m, WfI x) ∧ (fullL m).length ≤ 2 * s.length := by
  unfold parse at h
  split at h
  · cases h
  · rename_i ws hw
    obtain ⟨h1, h2⟩ := itemsF_w _ _ _ _ h (fun y hy => ⟨words_fit hw y hy, words_wok hw y hy⟩) (words_few hw) (fun x hx => by simp at hx)
    refine ⟨h1, ?_⟩
    have := chain_sum (words_chain hw)
    have e : (fullL []).length = 0 := rfl
    omega
/-- Positions are no part of the text. -/
theorem keyT_same {x y : K} (h : sameKB x y = true) : keyT x = keyT y := by
  unfold sameKB at h
  simp only [Bool.and_eq_true, decide_eq_true_eq, beq_iff_eq] at h
  unfold keyT
  rw [h.1, h.2]
theorem keysT_same : ∀ {s t : List K}, allB sameKB s t = true → keysT s = keysT t
  | [], [], _ => rfl
  | a :: s, [], h => by cases h
  | [], b :: t, h => by cases h
  | a :: s, b :: t, h => by
    unfold allB at h
    simp only [Bool.and_eq_true] at h
    show keyT a ++ keysT s = keyT b ++ keysT t
    rw [keyT_same h.1, keysT_same h.2]
theorem fullI_same {x y : I} (h : sameIB x y = true) : fullI x = fullI y := by
  unfold sameIB at h
  simp only [Bool.and_eq_true, decide_eq_true_eq] at h
  unfold fullI
  rw [h.1, h.2.1, keysT_same h.2.2]
theorem fullL_same : ∀ {s t : List I}, allB sameIB s t = true → fullL s = fullL t
  | [], [], _ => rfl
  | a :: s, [], h => by cases h
  | [], b :: t, h => by cases h
  | a :: s, b :: t, h => by
    unfold allB at h
    simp only [Bool.and_eq_true] at h
    show fullI a ++ fullL s = fullI b ++ fullL t
    rw [fullI_same h.1, fullL_same h.2]
/-- The law's plain content. -/
theorem again_plain {s : List UInt8} {l : List I} (h : parse s = .ok l) (hs : s.length ≤ 10000) : ∃ m, fmtC l = some (fullL l) ∧ parse (fullL l) = .ok m ∧ fmtC m = some (fullL l) ∧ allB sameIB m l = true ∧ (fullL l).length ≤ 20000 := by
  obtain ⟨hw, hl⟩ := parse_wf h
  have hn := (parse_ok h).2
  have ht : (fullL l).length ≤ 20000 := by omega
  obtain ⟨m, hm, hsm⟩ := parse_full hw hn ht
  refine ⟨m, fmtC_full hw hn ht, hm, ?_, hsm, ht⟩
  have hf := fullL_same hsm
  rw [← hf]
  exact fmtC_full (parse_wf hm).1 (parse_ok hm).2 (by rw [hf]; exact ht)
end SS

namespace SS
open SC
def exI : I := ⟨⟨#[112, 111, 115, 116]⟩, ⟨#[112]⟩, [⟨⟨#[99, 101, 110, 116, 101, 114]⟩, [3, 4], 7⟩, ⟨⟨#[115, 105, 122, 101]⟩, [2], 18⟩], 0⟩
theorem ex1 : parse [112, 111, 115, 116, 32, 112, 32, 99, 101, 110, 116, 101, 114, 32, 51, 32, 52, 32, 115, 105, 122, 101, 32, 50, 59] = .ok [exI] := by kernel_rfl
theorem ex2 : parse [119, 97, 108, 108, 32, 119, 32, 109, 105, 114, 114, 111, 114, 59] = .bad 4 7 := by kernel_rfl
theorem ex3 : parse [112, 111, 115, 116, 32, 112, 32, 99, 101, 110, 116, 101, 114, 32, 51, 32, 52, 32, 115, 105, 122, 101, 32, 50, 59, 10] = .ok [exI] := by kernel_rfl
theorem ex4 : fmtC [exI] = some [112, 111, 115, 116, 32, 112, 32, 99, 101, 110, 116, 101, 114, 32, 51, 32, 52, 32, 115, 105, 122, 101, 32, 50, 59, 10] := by
  have h2 : Go.Lib.itoa 2 = [50] := by unfold Go.Lib.itoa; rw [if_neg (by decide), Go.Lib.decDigits_one (by decide)]; rfl
  have h3 : Go.Lib.itoa 3 = [51] := by unfold Go.Lib.itoa; rw [if_neg (by decide), Go.Lib.decDigits_one (by decide)]; rfl
  have h4 : Go.Lib.itoa 4 = [52] := by unfold Go.Lib.itoa; rw [if_neg (by decide), Go.Lib.decDigits_one (by decide)]; rfl
  have hk1 : keyT ⟨⟨#[99, 101, 110, 116, 101, 114]⟩, [3, 4], 7⟩ = [32, 99, 101, 110, 116, 101, 114, 32, 51, 32, 52] := by unfold keyT; simp only [valsT]; rw [h3, h4]; rfl
  have hk2 : keyT ⟨⟨#[115, 105, 122, 101]⟩, [2], 18⟩ = [32, 115, 105, 122, 101, 32, 50] := by unfold keyT; simp only [valsT]; rw [h2]; rfl
  have ha : appI [] exI = [112, 111, 115, 116, 32, 112, 32, 99, 101, 110, 116, 101, 114, 32, 51, 32, 52, 32, 115, 105, 122, 101, 32, 50, 59, 10] := by
    unfold appI exI
    simp only [appKeys]
    rw [hk1, hk2]
    kernel_rfl
  have hf : fmtF [] [exI] = some [112, 111, 115, 116, 32, 112, 32, 99, 101, 110, 116, 101, 114, 32, 51, 32, 52, 32, 115, 105, 122, 101, 32, 50, 59, 10] := by
    unfold fmtF
    rw [ha, if_neg (by decide)]
    rfl
  unfold fmtC
  rw [hf]
  show chkF [exI] [112, 111, 115, 116, 32, 112, 32, 99, 101, 110, 116, 101, 114, 32, 51, 32, 52, 32, 115, 105, 122, 101, 32, 50, 59, 10] (parse [112, 111, 115, 116, 32, 112, 32, 99, 101, 110, 116, 101, 114, 32, 51, 32, 52, 32, 115, 105, 122, 101, 32, 50, 59, 10]) = some [112, 111, 115, 116, 32, 112, 32, 99, 101, 110, 116, 101, 114, 32, 51, 32, 52, 32, 115, 105, 122, 101, 32, 50, 59, 10]
  rw [ex3]
  unfold chkF
  dsimp only
  rw [if_pos (by kernel_rfl)]
theorem exOk : ∀ x ∈ [exI], OkI x := by
  intro x hx
  obtain rfl : x = exI := by simpa using hx
  refine ⟨by decide, by decide, by decide, fun k hk => ?_⟩
  unfold exI at hk
  simp at hk
  rcases hk with rfl | rfl
  · exact ⟨by decide, by decide, fun n hn => by simp at hn; omega⟩
  · exact ⟨by decide, by decide, fun n hn => by simp at hn; omega⟩
theorem ar1 : arity ⟨#[102, 108, 105, 112, 112, 101, 114]⟩ ⟨#[114, 97, 110, 103, 101]⟩ = 2 := by kernel_rfl
theorem ar2 : arity ⟨#[119, 97, 108, 108]⟩ ⟨#[109, 105, 114, 114, 111, 114]⟩ = -1 := by kernel_rfl
theorem gv1 : getV ⟨#[99, 101, 110, 116, 101, 114]⟩ exI.keys = some [3, 4] := by kernel_rfl
end SS
namespace Go.Proofs.YtdikoeeoglfmaaaDoor
open Go.RowKit SC PB SS
set_option maxHeartbeats 8000000 in
set_option maxRecDepth 100000 in
theorem awake_any (w : World) (htab : Lib.TabBelow Tryd.prog w.heap.size w "internal/strconv.uint64pow10" .u64 Lib.pow10Tab) : Calls Tryd.prog 7 #[] w fun e w' => e = .returned (.bool true) ∧ Below w.heap.size w w' := by
  have HP1 := Lib.hid (fun W => parse_any ⟨#[112, 111, 115, 116, 32, 112, 32, 99, 101, 110, 116, 101, 114, 32, 51, 32, 52, 32, 115, 105, 122, 101, 32, 50, 59]⟩ W (by decide))
  have HP2 := Lib.hid (fun W => parse_any ⟨#[119, 97, 108, 108, 32, 119, 32, 109, 105, 114, 114, 111, 114, 59]⟩ W (by decide))
  rw [show parse (⟨#[112, 111, 115, 116, 32, 112, 32, 99, 101, 110, 116, 101, 114, 32, 51, 32, 52, 32, 115, 105, 122, 101, 32, 50, 59]⟩ : ByteArray).data.toList = .ok [exI] from ex1] at HP1
  rw [show parse (⟨#[119, 97, 108, 108, 32, 119, 32, 109, 105, 114, 114, 111, 114, 59]⟩ : ByteArray).data.toList = .bad 4 7 from ex2] at HP2
  have HF := Lib.hid (fun v W (h : RdI W v [exI]) (hb : Below w.heap.size w W) => format_any [exI] v W h exOk (by decide) (tab_mono htab hb hb.size))
  rw [ex4] at HF
  dsimp only [strO] at HF
  have HG := Lib.hid (fun z W (h : RdK W z exI.keys) => get_any exI z ⟨#[99, 101, 110, 116, 101, 114]⟩ W h (by decide) (fun k hk => (exOk exI List.mem_cons_self).same.2 k hk))
  rw [gv1] at HG
  have HA1 := Lib.hid (fun W => arity_any ⟨#[102, 108, 105, 112, 112, 101, 114]⟩ ⟨#[114, 97, 110, 103, 101]⟩ W)
  have HA2 := Lib.hid (fun W => arity_any ⟨#[119, 97, 108, 108]⟩ ⟨#[109, 105, 114, 114, 111, 114]⟩ W)
  rw [ar1] at HA1
  rw [ar2] at HA2
  clear htab
  go_enter Tryd.func7, Tryd.ntmps7
  go_wp2_with fail
  refine (HP1.out _).mono ?_
  rintro e w1 ⟨v1, rfl, r1, q1⟩
  have HR1 := Lib.hid (fun W (h : Below w1.heap.size w1 W) => r1.kept h)
  have HF1 := Lib.hid (fun W (h : Below w1.heap.size w1 W) => HF.out v1 W (r1.kept h) (next q1 h))
  obtain ⟨b1, g1, o1, c1, rfl, hb1, hl1, hk1⟩ := r1
  obtain rfl := hb1 (by decide)
  have hl1 := hl1 (by decide)
  obtain ⟨z1, hz1⟩ := hk1 0 exI rfl
  have HZ1 := Lib.hid (fun W (h : Below w1.heap.size w1 W) => hz1.kept h hl1)
  dsimp only [SR.err, SR.at, SR.list, List.length]
  clear hk1 hz1
  go_wp2_with fail
  refine (HP2.out _).mono ?_
  rintro e w2 ⟨v2, rfl, r2, q2⟩
  obtain ⟨b2, g2, o2, c2, rfl, -, -, -⟩ := r2
  dsimp only [SR.err, SR.at, SR.list, List.length]
  have qq := next q1 q2
  go_wp2_with fail
  refine (HF1.out _ q2).mono ?_
  rintro e w3 ⟨rfl, q3⟩
  have q13 := next q2 q3
  have qq3 := next qq q3
  obtain ⟨y0, y1, y2, y3, hk3⟩ := HZ1.out _ q13
  obtain ⟨zb, zn, zc, rfl⟩ := rdk_form hk3
  have HG3 := Lib.hid (HG.out _ _ hk3)
  have hl3 : g1 < w3.heap.size := Nat.lt_of_lt_of_le hl1 q13.size
  rw [Nat.zero_mul, Nat.add_zero] at y0 y1 y2 y3
  unfold iagg at HG3
  clear hk3
  go_wp2_with fail
  refine HG3.out.mono ?_
  rintro e w4 ⟨v4, rfl, r4, q4⟩
  obtain ⟨b4, g4, o4, c4, rfl, hb4, hl4, hk4⟩ := r4.form
  dsimp only [oV, List.length] at *
  obtain rfl := hb4 (by decide)
  have z4 := hk4 1 4 rfl
  have hl4 := hl4 (by decide)
  have qq4 := next qq3 q4
  clear r4 hk4
  go_wp2_with fail
  refine (HA1.out _).mono ?_
  rintro e w5 ⟨rfl, q5⟩
  go_wp2_with fail
  refine (HA2.out _).mono ?_
  rintro e w6 ⟨rfl, q6⟩
  go_wp2_with fail
  go_ret
  trace_state
  exact ⟨rfl, next (next qq4 q5) q6⟩
end Go.Proofs.YtdikoeeoglfmaaaDoor

namespace SS
open Go Go.RowKit PB SC
theorem sameKB_symm (x y : K) (h : sameKB x y = true) : sameKB y x = true := by
  unfold sameKB at h ⊢
  simp only [Bool.and_eq_true, decide_eq_true_eq, beq_iff_eq] at h ⊢
  exact ⟨h.1.symm, h.2.symm⟩
theorem sameIB_symm (x y : I) (h : sameIB x y = true) : sameIB y x = true := by
  unfold sameIB at h ⊢
  simp only [Bool.and_eq_true, decide_eq_true_eq] at h ⊢
  exact ⟨h.1.symm, h.2.1.symm, allB_symm sameKB_symm h.2.2⟩
theorem RdI.shape {w : World} {v : Value} {l : List I} (h : RdI w v l) : ∃ (b : Option Addr) (c : Nat), v = .slice b l.length c := by
  obtain ⟨b, _, _, c, rfl, _⟩ := h
  exact ⟨b, c, rfl⟩
theorem okI_of {m : List I} (h : ∀ x ∈ m, IOk x) : (∀ x ∈ m, OkI x) ∧ ∀ x ∈ m, x.keys.length ≤ 1000000 ∧ ∀ k ∈ x.keys, k.vals.length ≤ 1000000 := ⟨fun x hx => (h x hx).ok, fun x hx => (h x hx).ok.same⟩
end SS
namespace Go.Proofs.YtdikoeeoglfmaaaDoor
open Go.RowKit SC PB SS
set_option maxHeartbeats 8000000 in
set_option maxRecDepth 100000 in
theorem again_any (s : ByteArray) (w : World) (hs : s.size ≤ 9223372036854775807) (htab : Lib.TabBelow Tryd.prog w.heap.size w "internal/strconv.uint64pow10" .u64 Lib.pow10Tab) :
    Calls Tryd.prog 5 #[.string s] w fun e w' => e = .returned (.bool true) ∧ Below w.heap.size w w' := by
  have HA := Lib.hid (fun W (hb : Below w.heap.size w W) => awake_any W (tab_mono htab hb hb.size))
  have HP := Lib.hid (fun W => parse_any s W hs)
  have hz : ((0 : Int) != 0) = false := by decide
  have hz2 : ((0 : Int) == 0) = true := by decide
  cases hp : parse s.data.toList with
  | bad er pos =>
    have hne := parse_ne hp
    have hnb : (er != 0) = true := by simp [bne, hne]
    rw [hp] at HP
    clear htab hp
    go_enter Tryd.func5, Tryd.ntmps5
    go_wp2_with fail
    refine (HA.out _ (Below.refl _ _)).mono ?_
    rintro e w1 ⟨rfl, q1⟩
    go_wp2_with fail
    refine (HP.out _).mono ?_
    rintro e w2 ⟨v2, rfl, r2, q2⟩
    obtain ⟨b2, c2, rfl⟩ := r2.shape
    have hq := next q1 q2
    clear r2
    dsimp only [SR.err, SR.at, SR.list, List.length]
    go_wp2_with fail
    go_ret
    exact ⟨rfl, hq⟩
  | ok l =>
    rw [hp] at HP
    obtain ⟨hokl, hsl⟩ := okI_of (parse_ok hp).1
    have hnl := (parse_ok hp).2
    have hsl2 : s.data.toList.length = s.size := by simp
    by_cases hsz : s.size ≤ 10000
    · obtain ⟨m, f1, p2, f2, hsm, ht⟩ := again_plain hp (by omega)
      obtain ⟨hokm, hsm2⟩ := okI_of (parse_ok p2).1
      have hnm := (parse_ok p2).2
      have HF1 := Lib.hid (fun v W (h : RdI W v l) (hb : Below w.heap.size w W) => format_any l v W h hokl (by omega) (tab_mono htab hb hb.size))
      have HF2 := Lib.hid (fun v W (h : RdI W v m) (hb : Below w.heap.size w W) => format_any m v W h hokm (by omega) (tab_mono htab hb hb.size))
      rw [f1] at HF1
      rw [f2] at HF2
      dsimp only [strO, Option.isSome] at HF1 HF2
      have HP2 := Lib.hid (fun (W : World) => (show Calls Tryd.prog 8 #[.string ⟨(fullL l).toArray⟩] W (RetS (parse (fullL l)) W) from parse_any ⟨(fullL l).toArray⟩ W (by rw [size_mk]; omega)))
      rw [p2] at HP2
      have HI1 := Lib.hid (fun v W (h : RdI W v l) => items_any l v W h (by omega) hsl)
      have HI2 := Lib.hid (fun v W (h : RdI W v m) => items_any m v W h (by omega) hsm2)
      have HS := Lib.hid (fun u v W (h : RdI W u l) (h' : RdI W v m) => rsame_any l m u v W h h' (allB_symm sameIB_symm hsm) (by omega) hsl)
      have hsz' : ¬ (10000 : Int) < s.size := by omega
      generalize (⟨(fullL l).toArray⟩ : ByteArray) = T at *
      have hTT := beq_str_dec T T
      rw [decide_eq_true rfl] at hTT
      clear htab hp f1 f2 p2 hsm ht hokl hsl hokm hsm2 hsz hsl2
      go_enter Tryd.func5, Tryd.ntmps5
      go_wp2_with fail
      refine (HA.out _ (Below.refl _ _)).mono ?_
      rintro e w1 ⟨rfl, q1⟩
      go_wp2_with fail
      refine (HP.out _).mono ?_
      rintro e w2 ⟨v2, rfl, r2, q2⟩
      obtain ⟨b2, c2, rfl⟩ := r2.shape
      have q12 := next q1 q2
      dsimp only [SR.err, SR.at, SR.list] at r2 ⊢
      have HR2 := Lib.hid r2
      clear r2
      go_wp2_with fail
      refine (HF1.out _ _ HR2.out q12).mono ?_
      rintro e w3 ⟨rfl, q3⟩
      have q13 := next q12 q3
      have HR3 := Lib.hid (HR2.out.kept q3)
      go_wp2_with fail
      refine (HP2.out _).mono ?_
      rintro e w4 ⟨v4, rfl, r4, q4⟩
      obtain ⟨b4, c4, rfl⟩ := r4.shape
      have q14 := next q13 q4
      dsimp only [SR.err, SR.at, SR.list] at r4 ⊢
      have HR4 := Lib.hid (HR3.out.kept q4)
      have HM4 := Lib.hid r4
      clear r4
      go_wp2_with fail
      refine (HF2.out _ _ HM4.out q14).mono ?_
      rintro e w5 ⟨rfl, q5⟩
      have q15 := next q14 q5
      have HR5 := Lib.hid (HR4.out.kept q5)
      have HM5 := Lib.hid (HM4.out.kept q5)
      clear HR2 HR3 HR4 HM4 q1 q2 q12 q3 q13 q4 q14 q5
      go_wp2_with fail
      refine (HI1.out _ _ HR5.out).mono ?_
      rintro e w6 ⟨v6, rfl, r6, q6⟩
      have q16 := next q15 q6
      have HM6 := Lib.hid (HM5.out.kept q6)
      go_wp2_with fail
      refine (HI2.out _ _ HM6.out).mono ?_
      rintro e w7 ⟨v7, rfl, r7, q7⟩
      have q17 := next q16 q7
      have HR7 := Lib.hid (r6.kept q7)
      have HM7 := Lib.hid r7
      obtain ⟨b6, c6, rfl⟩ := r6.shape
      obtain ⟨b7, c7, rfl⟩ := r7.shape
      clear r6 r7
      go_wp2_with fail
      refine (HS.out _ _ _ HR7.out HM7.out).mono ?_
      rintro e w8 ⟨rfl, q8⟩
      have q18 := next q17 q8
      go_wp2_with fail
      go_ret
      exact ⟨rfl, q18⟩
    · have hsz' : (10000 : Int) < s.size := by omega
      clear htab hp hokl hsl hnl hsl2
      go_enter Tryd.func5, Tryd.ntmps5
      go_wp2_with fail
      refine (HA.out _ (Below.refl _ _)).mono ?_
      rintro e w1 ⟨rfl, q1⟩
      go_wp2_with fail
      refine (HP.out _).mono ?_
      rintro e w2 ⟨v2, rfl, r2, q2⟩
      obtain ⟨b2, c2, rfl⟩ := r2.shape
      have q12 := next q1 q2
      clear r2
      dsimp only [SR.err, SR.at, SR.list]
      go_wp2_with fail
      refine (HA.out _ q12).mono ?_
      rintro e w3 ⟨rfl, q3⟩
      have q13 := next q12 q3
      go_wp2_with fail
      go_ret
      exact ⟨rfl, q13⟩
end Go.Proofs.YtdikoeeoglfmaaaDoor

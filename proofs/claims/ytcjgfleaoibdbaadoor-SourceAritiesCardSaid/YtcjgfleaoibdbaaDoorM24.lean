/-
  What is parsed is of ordinary size.
  Format.
  The examples of the chapter.
-/
import Derived.Laws.BytesArg
import Derived.KernelRfl
import Derived.Test.YtcjgfleaoibdbaaDoorM17
import Derived.Test.YtcjgfleaoibdbaaDoorM18
import Derived.Test.YtcjgfleaoibdbaaDoorM19
namespace SS
open SC
/-- A word of ordinary size. -/
def Wok (y : W) : Prop := y.text.length ≤ 20000 ∧ -1073741824 ≤ y.num ∧ y.num ≤ 1073741824
theorem fst_num {l : List UInt8} {k : Int} {n : Nat} {v : Int} (h : fst l = .ok k n v) : -1073741824 ≤ v ∧ v ≤ 1073741824 := by
  unfold fst at h
  split at h
  · split at h
    · cases h; omega
    · cases h
  · split at h
    · split at h
      · cases h
        unfold numVal
        split <;> omega
      · cases h
    · split at h
      · cases h; omega
      · cases h
theorem words_wok {s : List UInt8} {ws : List W} (h : words s = .ok ws) : ∀ y ∈ ws, Wok y := by
  intro y hy
  obtain ⟨i, hi⟩ := List.getElem?_of_mem hy
  have hc := chain_at (words_chain h) i y hi
  have hs : s.length ≤ 20000 := by
    unfold words at h
    split at h
    · cases h
    · omega
  exact ⟨by have := hc.1; omega, fst_num hc.2.2.1⟩
def Sub (r l : List W) : Prop := ∀ y ∈ r, y ∈ l
theorem numsP_ok {sz : Int} : ∀ {n : Nat} {acc : List Int} {l : List W} {vs : List Int} {r : List W}, numsP sz n acc l = .ok vs r → (∀ y ∈ l, Wok y) → (∀ v ∈ acc, -1073741824 ≤ v ∧ v ≤ 1073741824) → (∀ v ∈ vs, -1073741824 ≤ v ∧ v ≤ 1073741824) ∧ Sub r l
  | 0, acc, l, vs, r, h, hl, ha => by cases h; exact ⟨ha, fun y hy => hy⟩
  | n + 1, acc, [], vs, r, h, hl, ha => by cases h
  | n + 1, acc, w :: t, vs, r, h, hl, ha => by
    unfold numsP at h
    split at h
    · have hw := (hl w List.mem_cons_self).2
      obtain ⟨h1, h2⟩ := numsP_ok h (fun y hy => hl y (List.mem_cons_of_mem _ hy)) (fun v hv => by
        rcases List.mem_append.1 hv with hv | hv
        · exact ha v hv
        · obtain rfl : v = w.num := by simpa using hv
          exact hw)
      exact ⟨h1, fun y hy => List.mem_cons_of_mem _ (h2 y hy)⟩
    · cases h
/-- A key of ordinary size. -/
def KOk (k : K) : Prop := k.key.size ≤ 20000 ∧ k.vals.length ≤ 2 ∧ ∀ v ∈ k.vals, -1073741824 ≤ v ∧ v ≤ 1073741824
theorem keyP_ok {sz : Int} {word : ByteArray} {ks : List K} {x : W} {t : List W} {k : K} {r : List W} (h : keyP sz word ks x t = .ok k r) (hx : Wok x) (ht : ∀ y ∈ t, Wok y) : KOk k ∧ Sub r t ∧ k.key = bs x.text ∧ arityN word (bs x.text) = some k.vals.length ∧ hasKey ks (bs x.text) = false := by
  unfold keyP at h
  split at h
  · cases h
  · rename_i n hn
    split at h
    · cases h
    · rename_i hk
      split at h
      · cases h
      · rename_i hnn
        cases h
        obtain ⟨h1, h2⟩ := numsP_ok hnn ht (fun v hv => by simp at hv)
        have hl := (numsP_len hnn).2
        simp at hl
        exact ⟨⟨by show (bs x.text).size ≤ 20000; exact Nat.le_trans (Nat.le_of_eq (size_mk x.text)) hx.1, by show _ ≤ 2; rw [hl]; exact arityN_le hn, h1⟩, h2, rfl, by rw [hn, hl], by simpa using hk⟩
theorem keysF_ok {sz : Int} : ∀ (f : Nat) (x : I) (l : List W) (y : I) (r : List W), keysF sz f x l = .ok y r → (∀ y ∈ l, Wok y) → (∀ k ∈ x.keys, KOk k) → (∀ k ∈ y.keys, KOk k) ∧ Sub r l ∧ y.word = x.word ∧ y.name = x.name ∧ y.keys.length ≤ x.keys.length + l.length
  | 0, _, _, _, _, h, _, _ => by cases h
  | f + 1, x, [], y, r, h, _, _ => by cases h
  | f + 1, x, w :: t, y, r, h, hl, hk => by
    unfold keysF at h
    split at h
    · cases h; exact ⟨hk, fun y hy => List.mem_cons_of_mem _ hy, rfl, rfl, by simp⟩
    · split at h
      · cases h
      · rename_i k r1 hkp
        obtain ⟨h1, h2, _⟩ := keyP_ok hkp (hl w List.mem_cons_self) (fun y hy => hl y (List.mem_cons_of_mem _ hy))
        have hlen := keyP_len hkp
        obtain ⟨a1, a2, a3, a4, a5⟩ := keysF_ok f _ _ _ _ h (fun y hy => hl y (List.mem_cons_of_mem _ (h2 y hy))) (fun k' hk' => by
          rcases List.mem_append.1 hk' with hk' | hk'
          · exact hk k' hk'
          · obtain rfl : k' = k := by simpa using hk'
            exact h1)
        refine ⟨a1, fun y hy => List.mem_cons_of_mem _ (h2 y (a2 y hy)), a3, a4, ?_⟩
        have : (x.with k).keys.length = x.keys.length + 1 := by unfold I.with; simp
        simp only [List.length_cons]
        omega
/-- A statement of ordinary size. -/
def IOk (x : I) : Prop := x.word.size ≤ 20000 ∧ x.name.size ≤ 20000 ∧ x.keys.length ≤ 20000 ∧ ∀ k ∈ x.keys, KOk k
theorem itemP_ok {sz : Int} {l : List W} {y : I} {r : List W} (h : itemP sz l = .ok y r) (hl : ∀ y ∈ l, Wok y) (hn : l.length ≤ 20000) : IOk y ∧ Sub r l := by
  unfold itemP at h
  split at h
  · cases h
  · rename_i w t
    have hw := hl w List.mem_cons_self
    have hws : (bs w.text).size ≤ 20000 := Nat.le_trans (Nat.le_of_eq (size_mk w.text)) hw.1
    simp only [List.length_cons] at hn
    split at h
    · cases h
    · split at h
      · obtain ⟨a1, a2, a3, a4, a5⟩ := keysF_ok _ _ _ _ _ h (fun y hy => hl y (List.mem_cons_of_mem _ hy)) (fun k hk => by simp at hk)
        simp only [List.length_nil] at a5
        exact ⟨⟨by rw [a3]; exact hws, by rw [a4]; exact (by decide : (⟨#[]⟩ : ByteArray).size ≤ 20000), by omega, a1⟩, fun y hy => List.mem_cons_of_mem _ (a2 y hy)⟩
      · split at h
        · cases h
        · rename_i n t'
          split at h
          · obtain ⟨a1, a2, a3, a4, a5⟩ := keysF_ok _ _ _ _ _ h (fun y hy => hl y (List.mem_cons_of_mem _ (List.mem_cons_of_mem _ hy))) (fun k hk => by simp at hk)
            simp only [List.length_nil, List.length_cons] at a5 hn
            exact ⟨⟨by rw [a3]; exact hws, by rw [a4]; exact Nat.le_trans (Nat.le_of_eq (size_mk n.text)) (hl n (List.mem_cons_of_mem _ List.mem_cons_self)).1, by omega, a1⟩, fun y hy => List.mem_cons_of_mem _ (List.mem_cons_of_mem _ (a2 y hy))⟩
          · cases h
theorem itemsF_ok {sz : Int} : ∀ (f : Nat) (acc : List I) (l : List W) (r : List I), itemsF sz f acc l = .ok r → (∀ y ∈ l, Wok y) → l.length ≤ 20000 → (∀ x ∈ acc, IOk x) → acc.length ≤ 400 → (∀ x ∈ r, IOk x) ∧ r.length ≤ 400
  | 0, _, _, _, h, _, _, _, _ => by cases h
  | f + 1, acc, [], r, h, _, _, ha, hb => by cases h; exact ⟨ha, hb⟩
  | f + 1, acc, w :: t, r, h, hl, hn, ha, hb => by
    unfold itemsF at h
    split at h
    · cases h
    · split at h
      · cases h
      · rename_i x r1 hip
        obtain ⟨h1, h2⟩ := itemP_ok hip hl hn
        have := itemP_len hip
        refine itemsF_ok f _ _ _ h (fun y hy => hl y (h2 y hy)) (by omega) (fun x' hx' => ?_) (by simp; omega)
        rcases List.mem_append.1 hx' with hx' | hx'
        · exact ha x' hx'
        · obtain rfl : x' = x := by simpa using hx'
          exact h1
theorem parse_ok {s : List UInt8} {m : List I} (h : parse s = .ok m) : (∀ x ∈ m, IOk x) ∧ m.length ≤ 400 := by
  unfold parse at h
  split at h
  · cases h
  · rename_i ws hw
    exact itemsF_ok _ _ _ _ h (words_wok hw) (words_few hw) (fun x hx => by simp at hx) (by decide)
theorem numsP_ne {sz : Int} : ∀ {n : Nat} {acc : List Int} {l : List W} {e q : Int}, numsP sz n acc l = .bad e q → e ≠ 0
  | 0, acc, l, e, q, h => by cases h
  | n + 1, acc, [], e, q, h => by cases h; decide
  | n + 1, acc, w :: t, e, q, h => by
    unfold numsP at h
    split at h
    · exact numsP_ne h
    · cases h; decide
theorem keyP_ne {sz : Int} {word : ByteArray} {ks : List K} {x : W} {t : List W} {e q : Int} (h : keyP sz word ks x t = .bad e q) : e ≠ 0 := by
  unfold keyP at h
  split at h
  · cases h; decide
  · split at h
    · cases h; decide
    · split at h
      · rename_i hn; cases h; exact numsP_ne hn
      · cases h
theorem keysF_ne {sz : Int} : ∀ (f : Nat) (x : I) (l : List W) (e q : Int), keysF sz f x l = .bad e q → e ≠ 0
  | 0, _, _, _, _, h => by cases h; decide
  | f + 1, x, [], e, q, h => by cases h; decide
  | f + 1, x, w :: t, e, q, h => by
    unfold keysF at h
    split at h
    · cases h
    · split at h
      · rename_i hk; cases h; exact keyP_ne hk
      · exact keysF_ne f _ _ _ _ h
theorem itemP_ne {sz : Int} {l : List W} {e q : Int} (h : itemP sz l = .bad e q) : e ≠ 0 := by
  unfold itemP at h
  split at h
  · cases h; decide
  · split at h
    · cases h; decide
    · split at h
      · exact keysF_ne _ _ _ _ _ h
      · split at h
        · cases h; decide
        · split at h
          · exact keysF_ne _ _ _ _ _ h
          · cases h; decide
theorem itemsF_ne {sz : Int} : ∀ (f : Nat) (acc : List I) (l : List W) (e q : Int), itemsF sz f acc l = .bad e q → e ≠ 0
  | 0, _, _, _, _, h => by cases h; decide
  | f + 1, acc, [], e, q, h => by cases h
  | f + 1, acc, w :: t, e, q, h => by
    unfold itemsF at h
    split at h
    · cases h; decide
    · split at h
      · rename_i hi; cases h; exact itemP_ne hi
      · exact itemsF_ne f _ _ _ _ h
theorem parse_ne {s : List UInt8} {e q : Int} (h : parse s = .bad e q) : e ≠ 0 := by
  unfold parse at h
  split at h
  · rename_i er p hw
    cases h
    rcases words_ne hw with rfl | rfl | rfl | rfl <;> decide
  · exact itemsF_ne _ _ _ _ _ h
theorem IOk.ok {x : I} (h : IOk x) : OkI x := by
  obtain ⟨h1, h2, h3, h4⟩ := h
  refine ⟨by omega, by omega, by omega, fun k hk => ?_⟩
  obtain ⟨a, b, c⟩ := h4 k hk
  exact ⟨by omega, by omega, fun n hn => by have := c n hn; omega⟩
theorem OkI.same {x : I} (h : OkI x) : x.keys.length ≤ 1000000 ∧ ∀ k ∈ x.keys, k.vals.length ≤ 1000000 := ⟨h.keys, fun k hk => (h.key k hk).2.1⟩
end SS

namespace SS
open Go Go.RowKit PB SC
/-- The whole text, unless it is too long. -/
def fmtF (t : List UInt8) : List I → Option (List UInt8)
  | [] => some t
  | x :: l => if 20000 < (appI t x).length then none else fmtF (appI t x) l
def chkF (l : List I) (t : List UInt8) : SR → Option (List UInt8)
  | .ok m => if allB sameIB m l then some t else none
  | .bad _ _ => none
def fmtO (l : List I) : Option (List UInt8) → Option (List UInt8)
  | none => none
  | some t => chkF l t (parse t)
/-- What Format returns. -/
def fmtC (l : List I) : Option (List UInt8) := fmtO l (fmtF [] l)
def strO : Option (List UInt8) → ByteArray
  | some t => ⟨t.toArray⟩
  | none => ⟨#[]⟩
theorem fmtF_step {l : List I} {i : Nat} {x : I} {t : List UInt8} {r : Option (List UInt8)} (h : fmtF t (l.drop i) = r) (hx : l[i]? = some x) : (20000 < (appI t x).length → r = none) ∧ (¬ 20000 < (appI t x).length → fmtF (appI t x) (l.drop (i + 1)) = r) := by
  obtain ⟨hi, e⟩ := List.getElem?_eq_some_iff.1 hx
  rw [List.drop_eq_getElem_cons hi, e] at h
  unfold fmtF at h
  exact ⟨fun hh => by rw [if_pos hh] at h; exact h.symm, fun hh => by rw [if_neg hh] at h; exact h⟩
theorem fmtF_end {l : List I} {i : Nat} {t : List UInt8} {r : Option (List UInt8)} (h : fmtF t (l.drop i) = r) (hi : l.length ≤ i) : r = some t := by
  rw [List.drop_eq_nil_of_le hi] at h; exact h.symm
theorem strOfNums_bytes (t : List UInt8) : strOfNums (t.map fun b => (b.toNat : Int)) = ⟨t.toArray⟩ := by
  unfold strOfNums
  congr 2
  rw [List.map_map]
  have : (fun n : Int => UInt8.ofNat n.toNat) ∘ (fun b : UInt8 => (b.toNat : Int)) = id := by
    funext b; simp
  rw [this, List.map_id]
/-- A text of bytes that are owned. -/
theorem conv_own {P : Program} {w : World} {E src dst : TypeId} {N : Nat} {v : Value} {t : List UInt8} (hs : P.underlying src = some (.slice E)) (he : P.underlying E = some (.int .u8)) (hd : P.underlying dst = some .string) (h : OwnB E N w v t) : (convert src dst v).run P w = .ok (.string ⟨t.toArray⟩) w := by
  obtain ⟨base, b, off, c, rfl, h1, _, _, h4⟩ := own_rd h
  by_cases h0 : t.length = 0
  · obtain rfl := List.eq_nil_of_length_eq_zero h0
    cases base with
    | none => rw [run_convert_bytes_nil w src E hs he _ _ dst hd]; rfl
    | some a =>
      rw [run_convert_bytes_string w src dst E _ _ _ hs he hd]
      simp [Conv.bytesToString, loadCells, loadCellsFrom]
      try rfl
  · obtain rfl := h1 h0
    rw [run_convert_bytes_arg w src E hs he b off t.length c (t.map fun b => (b.toNat : Int)) (by simp) (fun i hi => ?_) dst hd, strOfNums_bytes]
    refine h4 i _ ?_
    unfold Lib.byteCells
    rw [List.getElem?_map, List.getElem?_eq_getElem hi, List.getD_eq_getElem?_getD, List.getElem?_map, List.getElem?_eq_getElem hi]
    rfl
end SS
namespace Go.Proofs.YtcjgfleaoibdbaaDoor
open Go.RowKit SC PB SS
set_option maxHeartbeats 8000000 in
set_option maxRecDepth 100000 in
theorem format_any (l : List I) (v : Value) (w : World) (hr : RdI w v l) (hok : ∀ x ∈ l, OkI x) (hn : l.length ≤ 1000000) (htab : Lib.TabBelow Tryd.prog w.heap.size w "internal/strconv.uint64pow10" .u64 Lib.pow10Tab) :
    Calls Tryd.prog 18 #[v] w fun e w' => e = .returned (.tuple #[.string (strO (fmtC l)), .bool (fmtC l).isSome]) ∧ Below w.heap.size w w' := by
  have HEQ := Lib.hid (fun (m : List I) (u : Value) (W : World) (h : Below w.heap.size w W) (hu : RdI W u m) (hm : (∀ x ∈ m, IOk x) ∧ m.length ≤ 400) => eqfunc_items m l u v W hu (hr.kept h) (by omega) hn (fun x hx => (hm.1 x hx).ok.same) (fun x hx => (hok x hx).same))
  obtain ⟨base, b, off, c, rfl, h1, h2, h4⟩ := hr
  have HK := Lib.hid (fun W (h : Below w.heap.size w W) (i : Nat) (x : I) (hi : l[i]? = some x) => (show ∃ z, IAt W b (off + i * 4) x z ∧ RdK w z x.keys by
    obtain ⟨z, hz⟩ := h4 i x hi
    exact ⟨z, hz.kept h (h2 (by have := (List.getElem?_eq_some_iff.1 hi).1; omega)), hz.2.2.2.2⟩))
  have HB := Lib.hid h1
  have HL := Lib.hid h2
  have HX := Lib.hid (fun (k : Nat) (hk : k < l.length) => (⟨l[k], List.getElem?_eq_getElem hk, hok _ (List.getElem_mem hk)⟩ : ∃ x, l[k]? = some x ∧ OkI x))
  have HA := Lib.hid (fun (x : I) (z : Value) (t : List UInt8) (u : Value) (W : World) (h : Below w.heap.size w W) (ho : OwnB 5 w.heap.size W u t) (ht : t.length ≤ 20000) (hx : OkI x) (hz : RdK w z x.keys) => appitem_any x z t w.heap.size u w W h.size ho ht hx hz h (Nat.le_refl _) (htab.on h))
  have HPA := Lib.hid (fun (t : List UInt8) (W : World) (ht : t.length ≤ 20000) => (show Calls Tryd.prog 8 #[.string ⟨t.toArray⟩] W (RetS (parse t) W) from parse_any ⟨t.toArray⟩ W (by rw [size_mk]; omega)))
  have HCV := Lib.hid (fun (t : List UInt8) (u : Value) (W : World) (h : OwnB 5 w.heap.size W u t) => conv_own (P := Tryd.prog) Tryd.underlying49 Tryd.underlying5 Tryd.underlying9 h)
  generalize hR : fmtF [] l = R
  have HR0 := Lib.hid (show fmtF [] (l.drop 0) = R by rw [List.drop_zero]; exact hR)
  have hC : fmtC l = fmtO l R := by unfold fmtC; rw [hR]
  rw [hC]
  generalize hF : fmtO l R = FO
  have HFO := Lib.hid hF
  have hn' := hn
  have HST := Lib.hid (fun (i : Nat) (x : I) (t : List UInt8) (h : fmtF t (l.drop i) = R) (hx : l[i]? = some x) => fmtF_step h hx)
  have HE := Lib.hid (fun (i : Nat) (t : List UInt8) (h : fmtF t (l.drop i) = R) (hi : l.length ≤ i) => fmtF_end h hi)
  clear h1 h2 h4 htab hR hC hok hn hF
  generalize hnl : l.length = n at *
  clear hnl
  go_enter Tryd.func18, Tryd.ntmps18
  go_wp2_with fail
  go_loopw [4, 12] (fun tv i wr => ∃ (k : Nat) (t : List UInt8) (b : Option Addr) (c : Nat), k ≤ n ∧ i = .int .i64 k ∧ tv = .slice b t.length c ∧ Hid (OwnB 5 w.heap.size wr (.slice b t.length c) t) ∧ Hid (fmtF t (l.drop k) = R) ∧ Hid (Below w.heap.size w wr) ∧ t.length ≤ 20000) (fun _ i _ => n - (intOf i).toNat)
  case atStart => exact ⟨0, [], none, 0, Nat.zero_le _, rfl, rfl, Lib.hid (OwnB.nil _ _ _), HR0, Lib.hid (Below.refl _ _), Nat.zero_le _⟩
  case round =>
    clear HR0
    obtain ⟨k, t, tb, tc, hk, rfl, rfl, hO, hA, hwr, htl⟩ := hrel
    by_cases hkn : k < n
    · obtain rfl := HB.out (by omega)
      obtain ⟨x, hx, hox⟩ := HX.out k hkn
      obtain ⟨z, ⟨x0, x1, x2, x3, xr⟩, hz⟩ := HK.out _ hwr.out k x hx
      obtain ⟨zb, zn, zc, rfl⟩ := rdk_form xr
      obtain ⟨s1, s2⟩ := HST.out k x t hA.out hx
      have hlt : b < wr.heap.size := Nat.lt_of_lt_of_le (HL.out (by omega)) hwr.out.size
      have hap := HA.out x (.slice zb zn zc) t (.slice tb t.length tc) _ (sb_alloc hwr.out (.cells #[.string x.word, .string x.name, .slice zb zn zc, .int .i64 x.pos] 35)) (hO.out.kept (sb_alloc (Below.refl _ _) _)) htl hox hz
      generalize appI t x = t2 at *
      have HAP := Lib.hid hap
      clear hx hox xr hz hap hO hA
      unfold iagg at HAP
      by_cases hbig : 20000 < t2.length
      · have hbi : (20000 : Int) < t2.length := by omega
        have hV := s1 hbig
        subst hV
        have hf := HFO.out
        rw [show fmtO l none = none from rfl] at hf
        subst hf
        clear s1 s2 HFO
        go_wp2_with fail
        refine HAP.out.mono ?_
        rintro e w1 ⟨v1, rfl, o1, q1⟩
        obtain ⟨b1, c1, rfl⟩ := row_form o1
        go_wp2_with fail
        go_ret2
        exact ⟨rfl, (sb_alloc hwr.out _).trans q1⟩
      · have hbi : ¬ (20000 : Int) < t2.length := by omega
        have HS2 := Lib.hid (s2 hbig)
        clear s1 s2
        go_wp2_with fail
        refine HAP.out.mono ?_
        rintro e w1 ⟨v1, rfl, o1, q1⟩
        obtain ⟨b1, c1, rfl⟩ := row_form o1
        have HO1 := Lib.hid o1
        have HQ1 := Lib.hid ((sb_alloc hwr.out _).trans q1)
        clear o1 q1
        go_wp2_with fail
        go_roundw
        case rel => exact ⟨k + 1, t2, b1, c1, by omega, by go_num, rfl, HO1, HS2, HQ1, by omega⟩
        case measure => simp [intOf]; omega
    · have hV := HE.out k t hA.out (by omega)
      subst hV
      have hcv := HCV.out t _ _ hO.out
      have hcv2 := fun W (h : Below wr.heap.size wr W) => HCV.out t _ W (hO.out.kept h)
      have HC2 := Lib.hid hcv2
      have HP := Lib.hid (HPA.out t)
      clear hcv2
      cases hp : parse t with
      | bad e q =>
        rw [hp] at HP
        have hne := parse_ne hp
        have hne1 : ((e : Int) == 0) = false := beq_eq_false_iff_ne.2 hne
        have hne2 : ((e : Int) != 0) = true := by simp [bne, hne1]
        have hf := HFO.out
        rw [show fmtO l (some t) = none by show chkF l t (parse t) = none; rw [hp]; rfl] at hf
        subst hf
        clear hp hne hne1 HFO
        go_wp2_with fail
        refine (HP.out _ htl).mono ?_
        rintro e2 w1 ⟨v1, rfl, r1, q1⟩
        obtain ⟨_, _, _, _, rfl, -, -, -⟩ := r1
        dsimp only [SR.err, SR.at, SR.list]
        go_wp2_with fail
        go_ret2
        exact ⟨rfl, next hwr.out q1⟩
      | ok m =>
        rw [hp] at HP
        have hm := parse_ok hp
        have HM := Lib.hid hm
        have hz2 : ((0 : Int) != 0) = false := by decide
        cases hall : allB sameIB m l with
        | true =>
          have hf := HFO.out
          rw [show fmtO l (some t) = some t by show chkF l t (parse t) = some t; rw [hp]; unfold chkF; dsimp only; rw [hall]; rfl] at hf
          subst hf
          clear hp hm HFO
          go_wp2_with fail
          refine (HP.out _ htl).mono ?_
          rintro e2 w1 ⟨v1, rfl, r1, q1⟩
          have HEQ1 := Lib.hid (HEQ.out m v1 w1 (next hwr.out q1) r1 HM.out)
          rw [hall] at HEQ1
          obtain ⟨vb1, _, _, vc1, rfl, -, -, -⟩ := r1
          dsimp only [SR.err, SR.at, SR.list] at *
          have HQ1 := Lib.hid q1
          clear hall q1 hcv
          go_wp2_with fail
          refine HEQ1.out.mono ?_
          rintro e2 w2 ⟨rfl, q2⟩
          have hcv := HC2.out _ (next HQ1.out q2)
          go_wp2_with fail
          go_ret2
          exact ⟨rfl, next hwr.out (next HQ1.out q2)⟩
        | false =>
          have hf := HFO.out
          rw [show fmtO l (some t) = none by show chkF l t (parse t) = none; rw [hp]; unfold chkF; dsimp only; rw [hall]; rfl] at hf
          subst hf
          clear hp hm HFO
          go_wp2_with fail
          refine (HP.out _ htl).mono ?_
          rintro e2 w1 ⟨v1, rfl, r1, q1⟩
          have HEQ1 := Lib.hid (HEQ.out m v1 w1 (next hwr.out q1) r1 HM.out)
          rw [hall] at HEQ1
          obtain ⟨vb1, _, _, vc1, rfl, -, -, -⟩ := r1
          dsimp only [SR.err, SR.at, SR.list] at *
          have HQ1 := Lib.hid q1
          clear hall q1
          go_wp2_with fail
          refine HEQ1.out.mono ?_
          rintro e2 w2 ⟨rfl, q2⟩
          go_wp2_with fail
          go_ret2
          exact ⟨rfl, next hwr.out (next HQ1.out q2)⟩
end Go.Proofs.YtcjgfleaoibdbaaDoor

namespace SS
open SC
def exI : I := ⟨⟨#[112, 111, 115, 116]⟩, ⟨#[112]⟩, [⟨⟨#[99, 101, 110, 116, 101, 114]⟩, [3, 4], 7⟩, ⟨⟨#[115, 105, 122, 101]⟩, [2], 18⟩], 0⟩
theorem ex1 : parse [112, 111, 115, 116, 32, 112, 32, 99, 101, 110, 116, 101, 114, 32, 51, 32, 52, 32, 115, 105, 122, 101, 32, 50, 59] = .ok [exI] := by kernel_rfl
theorem ex2 : parse [119, 97, 108, 108, 32, 119, 32, 109, 105, 114, 114, 111, 114, 59] = .bad 4 7 := by kernel_rfl
theorem ex3 : parse [112, 111, 115, 116, 32, 112, 32, 99, 101, 110, 116, 101, 114, 32, 51, 32, 52, 32, 115, 105, 122, 101, 32, 50, 59, 10] = .ok [exI] := by kernel_rfl
theorem ex4 : fmtC [exI] = some [112, 111, 115, 116, 32, 112, 32, 99, 101, 110, 116, 101, 114, 32, 51, 32, 52, 32, 115, 105, 122, 101, 32, 50, 59, 10] := by
  have h2 : Go.Lib.itoa 2 = [50] := by unfold Go.Lib.itoa; rw [if_neg (by decide), Go.Lib.decDigits_one (by decide)]; rfl
  have h3 : Go.Lib.itoa 3 = [51] := by unfold Go.Lib.itoa; rw [if_neg (by decide), Go.Lib.decDigits_one (by decide)]; rfl
  have h4 : Go.Lib.itoa 4 = [52] := by unfold Go.Lib.itoa; rw [if_neg (by decide), Go.Lib.decDigits_one (by decide)]; rfl
  have hk1 : keyT ⟨⟨#[99, 101, 110, 116, 101, 114]⟩, [3, 4], 7⟩ = [32, 99, 101, 110, 116, 101, 114, 32, 51, 32, 52] := by unfold keyT; simp only [valsT]; rw [h3, h4]; rfl
  have hk2 : keyT ⟨⟨#[115, 105, 122, 101]⟩, [2], 18⟩ = [32, 115, 105, 122, 101, 32, 50] := by unfold keyT; simp only [valsT]; rw [h2]; rfl
  have ha : appI [] exI = [112, 111, 115, 116, 32, 112, 32, 99, 101, 110, 116, 101, 114, 32, 51, 32, 52, 32, 115, 105, 122, 101, 32, 50, 59, 10] := by
    unfold appI exI
    simp only [appKeys]
    rw [hk1, hk2]
    kernel_rfl
  have hf : fmtF [] [exI] = some [112, 111, 115, 116, 32, 112, 32, 99, 101, 110, 116, 101, 114, 32, 51, 32, 52, 32, 115, 105, 122, 101, 32, 50, 59, 10] := by
    unfold fmtF
    rw [ha, if_neg (by decide)]
    rfl
  unfold fmtC
  rw [hf]
  show chkF [exI] [112, 111, 115, 116, 32, 112, 32, 99, 101, 110, 116, 101, 114, 32, 51, 32, 52, 32, 115, 105, 122, 101, 32, 50, 59, 10] (parse [112, 111, 115, 116, 32, 112, 32, 99, 101, 110, 116, 101, 114, 32, 51, 32, 52, 32, 115, 105, 122, 101, 32, 50, 59, 10]) = some [112, 111, 115, 116, 32, 112, 32, 99, 101, 110, 116, 101, 114, 32, 51, 32, 52, 32, 115, 105, 122, 101, 32, 50, 59, 10]
  rw [ex3]
  unfold chkF
  dsimp only
  rw [if_pos (by kernel_rfl)]
theorem exOk : ∀ x ∈ [exI], OkI x := by
  intro x hx
  obtain rfl : x = exI := by simpa using hx
  refine ⟨by decide, by decide, by decide, fun k hk => ?_⟩
  unfold exI at hk
  simp at hk
  rcases hk with rfl | rfl
  · exact ⟨by decide, by decide, fun n hn => by simp at hn; omega⟩
  · exact ⟨by decide, by decide, fun n hn => by simp at hn; omega⟩
theorem ar1 : arity ⟨#[102, 108, 105, 112, 112, 101, 114]⟩ ⟨#[114, 97, 110, 103, 101]⟩ = 2 := by kernel_rfl
theorem ar2 : arity ⟨#[119, 97, 108, 108]⟩ ⟨#[109, 105, 114, 114, 111, 114]⟩ = -1 := by kernel_rfl
theorem gv1 : getV ⟨#[99, 101, 110, 116, 101, 114]⟩ exI.keys = some [3, 4] := by kernel_rfl
end SS
namespace Go.Proofs.YtcjgfleaoibdbaaDoor
open Go.RowKit SC PB SS
set_option maxHeartbeats 8000000 in
set_option maxRecDepth 100000 in
theorem awake_any (w : World) (htab : Lib.TabBelow Tryd.prog w.heap.size w "internal/strconv.uint64pow10" .u64 Lib.pow10Tab) : Calls Tryd.prog 7 #[] w fun e w' => e = .returned (.bool true) ∧ Below w.heap.size w w' := by
  have HP1 := Lib.hid (fun W => parse_any ⟨#[112, 111, 115, 116, 32, 112, 32, 99, 101, 110, 116, 101, 114, 32, 51, 32, 52, 32, 115, 105, 122, 101, 32, 50, 59]⟩ W (by decide))
  have HP2 := Lib.hid (fun W => parse_any ⟨#[119, 97, 108, 108, 32, 119, 32, 109, 105, 114, 114, 111, 114, 59]⟩ W (by decide))
  rw [show parse (⟨#[112, 111, 115, 116, 32, 112, 32, 99, 101, 110, 116, 101, 114, 32, 51, 32, 52, 32, 115, 105, 122, 101, 32, 50, 59]⟩ : ByteArray).data.toList = .ok [exI] from ex1] at HP1
  rw [show parse (⟨#[119, 97, 108, 108, 32, 119, 32, 109, 105, 114, 114, 111, 114, 59]⟩ : ByteArray).data.toList = .bad 4 7 from ex2] at HP2
  have HF := Lib.hid (fun v W (h : RdI W v [exI]) (hb : Below w.heap.size w W) => format_any [exI] v W h exOk (by decide) (tab_mono htab hb hb.size))
  rw [ex4] at HF
  dsimp only [strO] at HF
  have HG := Lib.hid (fun z W (h : RdK W z exI.keys) => get_any exI z ⟨#[99, 101, 110, 116, 101, 114]⟩ W h (by decide) (fun k hk => (exOk exI List.mem_cons_self).same.2 k hk))
  rw [gv1] at HG
  have HA1 := Lib.hid (fun W => arity_any ⟨#[102, 108, 105, 112, 112, 101, 114]⟩ ⟨#[114, 97, 110, 103, 101]⟩ W)
  have HA2 := Lib.hid (fun W => arity_any ⟨#[119, 97, 108, 108]⟩ ⟨#[109, 105, 114, 114, 111, 114]⟩ W)
  rw [ar1] at HA1
  rw [ar2] at HA2
  clear htab
  go_enter Tryd.func7, Tryd.ntmps7
  go_wp2_with fail
  refine (HP1.out _).mono ?_
  rintro e w1 ⟨v1, rfl, r1, q1⟩
  have HR1 := Lib.hid (fun W (h : Below w1.heap.size w1 W) => r1.kept h)
  have HF1 := Lib.hid (fun W (h : Below w1.heap.size w1 W) => HF.out v1 W (r1.kept h) (next q1 h))
  obtain ⟨b1, g1, o1, c1, rfl, hb1, hl1, hk1⟩ := r1
  obtain rfl := hb1 (by decide)
  have hl1 := hl1 (by decide)
  obtain ⟨z1, hz1⟩ := hk1 0 exI rfl
  have HZ1 := Lib.hid (fun W (h : Below w1.heap.size w1 W) => hz1.kept h hl1)
  dsimp only [SR.err, SR.at, SR.list, List.length]
  clear hk1 hz1
  go_wp2_with fail
  refine (HP2.out _).mono ?_
  rintro e w2 ⟨v2, rfl, r2, q2⟩
  obtain ⟨b2, g2, o2, c2, rfl, -, -, -⟩ := r2
  dsimp only [SR.err, SR.at, SR.list, List.length]
  have qq := next q1 q2
  go_wp2_with fail
  refine (HF1.out _ q2).mono ?_
  rintro e w3 ⟨rfl, q3⟩
  have q13 := next q2 q3
  have qq3 := next qq q3
  obtain ⟨y0, y1, y2, y3, hk3⟩ := HZ1.out _ q13
  obtain ⟨zb, zn, zc, rfl⟩ := rdk_form hk3
  have HG3 := Lib.hid (HG.out _ _ hk3)
  have hl3 : g1 < w3.heap.size := Nat.lt_of_lt_of_le hl1 q13.size
  rw [Nat.zero_mul, Nat.add_zero] at y0 y1 y2 y3
  unfold iagg at HG3
  clear hk3
  go_wp2_with fail
  refine HG3.out.mono ?_
  rintro e w4 ⟨v4, rfl, r4, q4⟩
  obtain ⟨b4, g4, o4, c4, rfl, hb4, hl4, hk4⟩ := r4.form
  dsimp only [oV, List.length] at *
  obtain rfl := hb4 (by decide)
  have z4 := hk4 1 4 rfl
  have hl4 := hl4 (by decide)
  have qq4 := next qq3 q4
  clear r4 hk4
  go_wp2_with fail
  refine (HA1.out _).mono ?_
  rintro e w5 ⟨rfl, q5⟩
  go_wp2_with fail
  refine (HA2.out _).mono ?_
  rintro e w6 ⟨rfl, q6⟩
  go_wp2_with fail
  go_ret
  trace_state
  exact ⟨rfl, next (next qq4 q5) q6⟩
end Go.Proofs.YtcjgfleaoibdbaaDoor

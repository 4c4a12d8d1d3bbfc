/-
  The reference's Arity.
  The reference's reader: kind and at.
  What is parsed is of ordinary size.
  Numerals: they are numbers of a text, and no longer than what they were read from.
-/
import Derived.Lib.ItoaNum
import Derived.Test.YtdikoeeoglfmaaaDoorM17
import Derived.Test.YtdikoeeoglfmaaaDoorM18
import Derived.Test.YtdikoeeoglfmaaaDoorM22
namespace SS
open Go Go.RowKit PB SC
theorem look_step {l : List (ByteArray × Nat)} {k : ByteArray} {i : Nat} {q : ByteArray × Nat} {R : Option Nat} (h : look (l.drop i) k = R) (hk : l[i]? = some q) : (q.1 = k → R = some q.2) ∧ (¬ q.1 = k → look (l.drop (i + 1)) k = R) := by
  obtain ⟨hi, e⟩ := List.getElem?_eq_some_iff.1 hk
  rw [List.drop_eq_getElem_cons hi, e] at h
  unfold look at h
  exact ⟨fun hh => by rw [if_pos hh] at h; exact h.symm, fun hh => by rw [if_neg hh] at h; exact h⟩
theorem look_end {l : List (ByteArray × Nat)} {k : ByteArray} {i : Nat} {R : Option Nat} (h : look (l.drop i) k = R) (hi : l.length ≤ i) : R = none := by
  rw [List.drop_eq_nil_of_le hi] at h; exact h.symm
theorem row_few (w : ByteArray) : (rowOf w).length ≤ 12 := by
  by_cases h : rowOf w = []
  · rw [h]; decide
  · obtain ⟨r, hr, _, h2⟩ := rowIn_mem (show rowIn tab w ≠ [] from h)
    show (rowIn tab w).length ≤ 12
    rw [h2]
    exact (tab_some r hr).1
end SS
namespace Go.Proofs.YtdikoeeoglfmaaaDoor
open Go.RowKit SC PB SS
set_option maxHeartbeats 8000000 in
set_option maxRecDepth 100000 in
theorem rarity_any (word key : ByteArray) (w : World) :
    Calls Tryd.prog 17 #[.string word, .string key] w fun e w' => e = .returned (.int .i64 (arity word key)) ∧ Below w.heap.size w w' := by
  have HK := Lib.hid (fun W => rkeys_any word W)
  have HA0 : arity word key = arI (SS.look (rowOf word) key) := rfl
  rw [HA0]
  have hfew := row_few word
  generalize hR : SS.look (rowOf word) key = R
  have HR0 := Lib.hid (show SS.look ((rowOf word).drop 0) key = R by rw [List.drop_zero]; exact hR)
  have HRS := Lib.hid (fun (i : Nat) (q : ByteArray × Nat) (h : SS.look ((rowOf word).drop i) key = R) (hk : (rowOf word)[i]? = some q) => look_step h hk)
  have HRE := Lib.hid (fun (i : Nat) (h : SS.look ((rowOf word).drop i) key = R) (hk : (rowOf word).length ≤ i) => look_end h hk)
  have HX := Lib.hid (fun (k : Nat) (hk : k < (rowOf word).length) => (⟨(rowOf word)[k], List.getElem?_eq_getElem hk⟩ : ∃ q, (rowOf word)[k]? = some q))
  clear hR HA0
  go_enter Tryd.func17, Tryd.ntmps17
  go_wp2_with fail
  refine (HK.out _).mono ?_
  rintro e w1 ⟨v, u, rfl, r1, r2, q1⟩
  obtain ⟨nb, ng, no, nc, rfl, n1, n2, n4⟩ := r1.form
  obtain ⟨mb, mg, mo, mc, rfl, m1, m2, m4⟩ := r2.form
  rw [List.length_map] at n1 n2 m1 m2 ⊢
  rw [List.length_map]
  have HN := Lib.hid (fun W (h : Below w1.heap.size w1 W) (j : Nat) (q : ByteArray × Nat) (hq : (rowOf word)[j]? = some q) => (show W.cell? ⟨ng, no + j, none⟩ = some (.string q.1) ∧ W.cell? ⟨mg, mo + j, none⟩ = some (.int .i64 (q.2 : Int)) by
    have hl := (List.getElem?_eq_some_iff.1 hq).1
    exact ⟨by rw [h.cell (p := ⟨ng, _, none⟩) (n2 (by omega))]; exact n4 j q.1 (by rw [List.getElem?_map, hq]; rfl), by rw [h.cell (p := ⟨mg, _, none⟩) (m2 (by omega))]; exact m4 j (q.2 : Int) (by rw [List.getElem?_map, hq]; rfl)⟩))
  have HN1 := Lib.hid n1
  have HM1 := Lib.hid m1
  have HN2 := Lib.hid n2
  have HM2 := Lib.hid m2
  have HQ1 := Lib.hid q1
  clear r1 r2 n1 n2 n4 m1 m2 m4 q1
  generalize hnl : (rowOf word).length = n at *
  clear hnl
  generalize (!(rowOf word).isEmpty) = em at *
  go_wp2_with fail
  go_loopw [8] (fun iv wr => ∃ i : Nat, i ≤ n ∧ iv = .int .i64 i ∧ Hid (SS.look ((rowOf word).drop i) key = R) ∧ Hid (Below w1.heap.size w1 wr)) (fun iv _ => n - (intOf iv).toNat)
  case atStart => exact ⟨0, Nat.zero_le _, rfl, HR0, Lib.hid (Below.refl _ _)⟩
  case round =>
    clear HR0
    obtain ⟨i, hi, rfl, hA, hwr⟩ := hrel
    by_cases hin : i < n
    · obtain rfl := HN1.out (by omega)
      obtain rfl := HM1.out (by omega)
      obtain ⟨q, hq⟩ := HX.out i hin
      obtain ⟨c0, c1⟩ := HN.out _ hwr.out i q hq
      obtain ⟨s1, s2⟩ := HRS.out i q hA.out hq
      have hl1 : ng < wr.heap.size := Nat.lt_of_lt_of_le (HN2.out (by omega)) hwr.out.size
      have hl2 : mg < wr.heap.size := Nat.lt_of_lt_of_le (HM2.out (by omega)) hwr.out.size
      have HD := beq_str_dec q.1 key
      have hii : (i : Int) < n := by omega
      clear hq
      by_cases hqk : q.1 = key
      · rw [decide_eq_true hqk] at HD
        have hV := s1 hqk
        subst hV
        clear s1 s2 hqk
        go_wp2_with fail
        go_ret
        exact ⟨rfl, next HQ1.out hwr.out⟩
      · rw [decide_eq_false hqk] at HD
        have HV := Lib.hid (s2 hqk)
        clear s1 s2 hqk
        go_wp2_with fail
        go_roundw
        case rel => exact ⟨i + 1, by omega, by go_num, HV, hwr⟩
        case measure => simp [intOf]; omega
    · have hie : i = n := by omega
      subst hie
      have hV := HRE.out i hA.out (Nat.le_refl _)
      subst hV
      have hii : ¬ (i : Int) < i := by omega
      go_wp2_with fail
      go_ret
      exact ⟨rfl, next HQ1.out hwr.out⟩
end Go.Proofs.YtdikoeeoglfmaaaDoor

namespace SS
open Go Go.RowKit PB SC
/-- The reference's reader in block p stands ahead of word k of ws, which lie in block g. -/
structure RR (T : TypeId) (w : World) (p g : Nat) (sz : Int) (ws : List W) (k : Nat) : Prop where
  blk : ∃ (base : Option Addr) (c : Nat), BT w p T #[.slice base ws.length c, .int .i64 k, .int .i64 sz] ∧ (ws.length ≠ 0 → base = some ⟨g, 0, none⟩)
  row : WRow w g ws
  lt : ws.length ≠ 0 → g < w.heap.size
theorem RR.kept {T : TypeId} {w w' : World} {p g : Nat} {sz : Int} {ws : List W} {k : Nat} (h : RR T w p g sz ws k) (hb : Below w.heap.size w w') : RR T w' p g sz ws k := by
  obtain ⟨⟨b, c, h1, h2⟩, hr, hl⟩ := h
  refine ⟨⟨b, c, h1.kept hb, h2⟩, fun i x hx => (hr i x hx).kept hb (hl (by have := (List.getElem?_eq_some_iff.1 hx).1; omega)), fun h0 => Nat.lt_of_lt_of_le (hl h0) hb.size⟩
def kindAt (ws : List W) (k : Nat) : Int := match ws[k]? with
  | some x => x.kind
  | none => 0
def posAt (sz : Int) (ws : List W) (k : Nat) : Int := match ws[k]? with
  | some x => x.pos
  | none => sz
end SS
namespace Go.Proofs.YtdikoeeoglfmaaaDoor
open Go.RowKit SC PB SS
set_option maxHeartbeats 4000000 in
set_option maxRecDepth 100000 in
theorem rkind_q (T : TypeId) (p g : Nat) (sz : Int) (ws : List W) (k : Nat) (w : World) (h : RR T w p g sz ws k) (hn : ws.length ≤ 1000000) (hk : k ≤ ws.length) :
    Calls Tryd.prog 44 #[.pointer (some ⟨p, 0, none⟩)] w fun e w' => e = .returned (.int .i64 (kindAt ws k)) ∧ ∃ m, w' = w.drewN m := by
  obtain ⟨⟨base, c, hb, h2⟩, hr, hl⟩ := h
  obtain ⟨c0, c1, c2⟩ := Blk3 hb.blk
  have hlt := hb.blk.lt
  clear hb
  by_cases hkn : k < ws.length
  · obtain rfl := h2 (by omega)
    have hl := hl (by omega)
    have hx := hr k _ (List.getElem?_eq_getElem hkn)
    have HK := Lib.hid (show kindAt ws k = (ws[k]).kind by unfold kindAt; rw [List.getElem?_eq_getElem hkn])
    generalize ws[k] = x at *
    obtain ⟨x0, x1, x2, x3⟩ := hx
    rw [HK.out]
    generalize ws.length = n at *
    have hki : (k : Int) < n := by omega
    clear HK hr h2 x1 x2 x3
    go_enter Tryd.func44, Tryd.ntmps44
    go_wp2_with fail
    go_quiet (fail)
    go_wp2_with fail
    go_quiet (fail)
    go_wp2_with fail
    go_ret
    exact ⟨rfl, _, World.drewN_drewN _ _ _⟩
  · have HK := Lib.hid (show kindAt ws k = 0 by unfold kindAt; rw [List.getElem?_eq_none (by omega)])
    rw [HK.out]
    have hki : ¬ (k : Int) < ws.length := by omega
    generalize ws.length = n at *
    clear HK hr h2 hl
    go_enter Tryd.func44, Tryd.ntmps44
    go_wp2_with fail
    go_quiet (fail)
    go_wp2_with fail
    go_ret
    exact ⟨rfl, _, rfl⟩
theorem rkind_any (T : TypeId) (p g : Nat) (sz : Int) (ws : List W) (k : Nat) (w : World) (h : RR T w p g sz ws k) (hn : ws.length ≤ 1000000) (hk : k ≤ ws.length) :
    Calls Tryd.prog 44 #[.pointer (some ⟨p, 0, none⟩)] w fun e w' => e = .returned (.int .i64 (kindAt ws k)) ∧ Below w.heap.size w w' :=
  (rkind_q T p g sz ws k w h hn hk).mono fun _ _ ⟨h1, m, h2⟩ => ⟨h1, by rw [h2]; exact PB.below_drewN (Below.refl _ _) _⟩
set_option maxHeartbeats 4000000 in
set_option maxRecDepth 100000 in
theorem rat_any (T : TypeId) (p g : Nat) (sz : Int) (ws : List W) (k : Nat) (w : World) (h : RR T w p g sz ws k) (hn : ws.length ≤ 1000000) (hk : k ≤ ws.length) :
    Calls Tryd.prog 25 #[.pointer (some ⟨p, 0, none⟩)] w fun e w' => e = .returned (.int .i64 (posAt sz ws k)) ∧ Below w.heap.size w w' := by
  obtain ⟨⟨base, c, hb, h2⟩, hr, hl⟩ := h
  obtain ⟨c0, c1, c2⟩ := Blk3 hb.blk
  have hlt := hb.blk.lt
  clear hb
  by_cases hkn : k < ws.length
  · obtain rfl := h2 (by omega)
    have hl := hl (by omega)
    have hx := hr k _ (List.getElem?_eq_getElem hkn)
    have HK := Lib.hid (show posAt sz ws k = (ws[k]).pos by unfold posAt; rw [List.getElem?_eq_getElem hkn])
    generalize ws[k] = x at *
    obtain ⟨x0, x1, x2, x3⟩ := hx
    rw [HK.out]
    generalize ws.length = n at *
    have hki : (k : Int) < n := by omega
    clear HK hr h2 x1 x2 x0
    go_enter Tryd.func25, Tryd.ntmps25
    go_wp2_with fail
    go_quiet (fail)
    go_wp2_with fail
    go_quiet (fail)
    go_wp2_with fail
    go_ret
    exact ⟨rfl, PB.below_drewN (PB.below_drewN (Below.refl _ _) _) _⟩
  · have HK := Lib.hid (show posAt sz ws k = sz by unfold posAt; rw [List.getElem?_eq_none (by omega)])
    rw [HK.out]
    have hki : ¬ (k : Int) < ws.length := by omega
    generalize ws.length = n at *
    clear HK hr h2 hl
    go_enter Tryd.func25, Tryd.ntmps25
    go_wp2_with fail
    go_quiet (fail)
    go_wp2_with fail
    go_ret
    exact ⟨rfl, PB.below_drewN (Below.refl _ _) _⟩
end Go.Proofs.YtdikoeeoglfmaaaDoor

namespace SS
open SC
/-- A word of ordinary size. -/
def Wok (y : W) : Prop := y.text.length ≤ 20000 ∧ -1073741824 ≤ y.num ∧ y.num ≤ 1073741824
theorem fst_num {l : List UInt8} {k : Int} {n : Nat} {v : Int} (h : fst l = .ok k n v) : -1073741824 ≤ v ∧ v ≤ 1073741824 := by
  unfold fst at h
  split at h
  · split at h
    · cases h; omega
    · cases h
  · split at h
    · split at h
      · cases h
        unfold numVal
        split <;> omega
      · cases h
    · split at h
      · cases h; omega
      · cases h
theorem words_wok {s : List UInt8} {ws : List W} (h : words s = .ok ws) : ∀ y ∈ ws, Wok y := by
  intro y hy
  obtain ⟨i, hi⟩ := List.getElem?_of_mem hy
  have hc := chain_at (words_chain h) i y hi
  have hs : s.length ≤ 20000 := by
    unfold words at h
    split at h
    · cases h
    · omega
  exact ⟨by have := hc.1; omega, fst_num hc.2.2.1⟩
def Sub (r l : List W) : Prop := ∀ y ∈ r, y ∈ l
theorem numsP_ok {sz : Int} : ∀ {n : Nat} {acc : List Int} {l : List W} {vs : List Int} {r : List W}, numsP sz n acc l = .ok vs r → (∀ y ∈ l, Wok y) → (∀ v ∈ acc, -1073741824 ≤ v ∧ v ≤ 1073741824) → (∀ v ∈ vs, -1073741824 ≤ v ∧ v ≤ 1073741824) ∧ Sub r l
  | 0, acc, l, vs, r, h, hl, ha => by cases h; exact ⟨ha, fun y hy => hy⟩
  | n + 1, acc, [], vs, r, h, hl, ha => by cases h
  | n + 1, acc, w :: t, vs, r, h, hl, ha => by
    unfold numsP at h
    split at h
    · have hw := (hl w List.mem_cons_self).2
      obtain ⟨h1, h2⟩ := numsP_ok h (fun y hy => hl y (List.mem_cons_of_mem _ hy)) (fun v hv => by
        rcases List.mem_append.1 hv with hv | hv
        · exact ha v hv
        · obtain rfl : v = w.num := by simpa using hv
          exact hw)
      exact ⟨h1, fun y hy => List.mem_cons_of_mem _ (h2 y hy)⟩
    · cases h
/-- A key of ordinary size. -/
def KOk (k : K) : Prop := k.key.size ≤ 20000 ∧ k.vals.length ≤ 2 ∧ ∀ v ∈ k.vals, -1073741824 ≤ v ∧ v ≤ 1073741824
theorem keyP_ok {sz : Int} {word : ByteArray} {ks : List K} {x : W} {t : List W} {k : K} {r : List W} (h : keyP sz word ks x t = .ok k r) (hx : Wok x) (ht : ∀ y ∈ t, Wok y) : KOk k ∧ Sub r t ∧ k.key = bs x.text ∧ arityN word (bs x.text) = some k.vals.length ∧ hasKey ks (bs x.text) = false := by
  unfold keyP at h
  split at h
  · cases h
  · rename_i n hn
    split at h
    · cases h
    · rename_i hk
      split at h
      · cases h
      · rename_i hnn
        cases h
        obtain ⟨h1, h2⟩ := numsP_ok hnn ht (fun v hv => by simp at hv)
        have hl := (numsP_len hnn).2
        simp at hl
        exact ⟨⟨by show (bs x.text).size ≤ 20000; exact Nat.le_trans (Nat.le_of_eq (size_mk x.text)) hx.1, by show _ ≤ 2; rw [hl]; exact arityN_le hn, h1⟩, h2, rfl, by rw [hn, hl], by simpa using hk⟩
theorem keysF_ok {sz : Int} : ∀ (f : Nat) (x : I) (l : List W) (y : I) (r : List W), keysF sz f x l = .ok y r → (∀ y ∈ l, Wok y) → (∀ k ∈ x.keys, KOk k) → (∀ k ∈ y.keys, KOk k) ∧ Sub r l ∧ y.word = x.word ∧ y.name = x.name ∧ y.keys.length ≤ x.keys.length + l.length
  | 0, _, _, _, _, h, _, _ => by cases h
  | f + 1, x, [], y, r, h, _, _ => by cases h
  | f + 1, x, w :: t, y, r, h, hl, hk => by
    unfold keysF at h
    split at h
    · cases h; exact ⟨hk, fun y hy => List.mem_cons_of_mem _ hy, rfl, rfl, by simp⟩
    · split at h
      · cases h
      · rename_i k r1 hkp
        obtain ⟨h1, h2, _⟩ := keyP_ok hkp (hl w List.mem_cons_self) (fun y hy => hl y (List.mem_cons_of_mem _ hy))
        have hlen := keyP_len hkp
        obtain ⟨a1, a2, a3, a4, a5⟩ := keysF_ok f _ _ _ _ h (fun y hy => hl y (List.mem_cons_of_mem _ (h2 y hy))) (fun k' hk' => by
          rcases List.mem_append.1 hk' with hk' | hk'
          · exact hk k' hk'
          · obtain rfl : k' = k := by simpa using hk'
            exact h1)
        refine ⟨a1, fun y hy => List.mem_cons_of_mem _ (h2 y (a2 y hy)), a3, a4, ?_⟩
        have : (x.with k).keys.length = x.keys.length + 1 := by unfold I.with; simp
        simp only [List.length_cons]
        omega
/-- A statement of ordinary size. -/
def IOk (x : I) : Prop := x.word.size ≤ 20000 ∧ x.name.size ≤ 20000 ∧ x.keys.length ≤ 20000 ∧ ∀ k ∈ x.keys, KOk k
theorem itemP_ok {sz : Int} {l : List W} {y : I} {r : List W} (h : itemP sz l = .ok y r) (hl : ∀ y ∈ l, Wok y) (hn : l.length ≤ 20000) : IOk y ∧ Sub r l := by
  unfold itemP at h
  split at h
  · cases h
  · rename_i w t
    have hw := hl w List.mem_cons_self
    have hws : (bs w.text).size ≤ 20000 := Nat.le_trans (Nat.le_of_eq (size_mk w.text)) hw.1
    simp only [List.length_cons] at hn
    split at h
    · cases h
    · split at h
      · obtain ⟨a1, a2, a3, a4, a5⟩ := keysF_ok _ _ _ _ _ h (fun y hy => hl y (List.mem_cons_of_mem _ hy)) (fun k hk => by simp at hk)
        simp only [List.length_nil] at a5
        exact ⟨⟨by rw [a3]; exact hws, by rw [a4]; exact (by decide : (⟨#[]⟩ : ByteArray).size ≤ 20000), by omega, a1⟩, fun y hy => List.mem_cons_of_mem _ (a2 y hy)⟩
      · split at h
        · cases h
        · rename_i n t'
          split at h
          · obtain ⟨a1, a2, a3, a4, a5⟩ := keysF_ok _ _ _ _ _ h (fun y hy => hl y (List.mem_cons_of_mem _ (List.mem_cons_of_mem _ hy))) (fun k hk => by simp at hk)
            simp only [List.length_nil, List.length_cons] at a5 hn
            exact ⟨⟨by rw [a3]; exact hws, by rw [a4]; exact Nat.le_trans (Nat.le_of_eq (size_mk n.text)) (hl n (List.mem_cons_of_mem _ List.mem_cons_self)).1, by omega, a1⟩, fun y hy => List.mem_cons_of_mem _ (List.mem_cons_of_mem _ (a2 y hy))⟩
          · cases h
theorem itemsF_ok {sz : Int} : ∀ (f : Nat) (acc : List I) (l : List W) (r : List I), itemsF sz f acc l = .ok r → (∀ y ∈ l, Wok y) → l.length ≤ 20000 → (∀ x ∈ acc, IOk x) → acc.length ≤ 400 → (∀ x ∈ r, IOk x) ∧ r.length ≤ 400
  | 0, _, _, _, h, _, _, _, _ => by cases h
  | f + 1, acc, [], r, h, _, _, ha, hb => by cases h; exact ⟨ha, hb⟩
  | f + 1, acc, w :: t, r, h, hl, hn, ha, hb => by
    unfold itemsF at h
    split at h
    · cases h
    · split at h
      · cases h
      · rename_i x r1 hip
        obtain ⟨h1, h2⟩ := itemP_ok hip hl hn
        have := itemP_len hip
        refine itemsF_ok f _ _ _ h (fun y hy => hl y (h2 y hy)) (by omega) (fun x' hx' => ?_) (by simp; omega)
        rcases List.mem_append.1 hx' with hx' | hx'
        · exact ha x' hx'
        · obtain rfl : x' = x := by simpa using hx'
          exact h1
theorem parse_ok {s : List UInt8} {m : List I} (h : parse s = .ok m) : (∀ x ∈ m, IOk x) ∧ m.length ≤ 400 := by
  unfold parse at h
  split at h
  · cases h
  · rename_i ws hw
    exact itemsF_ok _ _ _ _ h (words_wok hw) (words_few hw) (fun x hx => by simp at hx) (by decide)
theorem numsP_ne {sz : Int} : ∀ {n : Nat} {acc : List Int} {l : List W} {e q : Int}, numsP sz n acc l = .bad e q → e ≠ 0
  | 0, acc, l, e, q, h => by cases h
  | n + 1, acc, [], e, q, h => by cases h; decide
  | n + 1, acc, w :: t, e, q, h => by
    unfold numsP at h
    split at h
    · exact numsP_ne h
    · cases h; decide
theorem keyP_ne {sz : Int} {word : ByteArray} {ks : List K} {x : W} {t : List W} {e q : Int} (h : keyP sz word ks x t = .bad e q) : e ≠ 0 := by
  unfold keyP at h
  split at h
  · cases h; decide
  · split at h
    · cases h; decide
    · split at h
      · rename_i hn; cases h; exact numsP_ne hn
      · cases h
theorem keysF_ne {sz : Int} : ∀ (f : Nat) (x : I) (l : List W) (e q : Int), keysF sz f x l = .bad e q → e ≠ 0
  | 0, _, _, _, _, h => by cases h; decide
  | f + 1, x, [], e, q, h => by cases h; decide
  | f + 1, x, w :: t, e, q, h => by
    unfold keysF at h
    split at h
    · cases h
    · split at h
      · rename_i hk; cases h; exact keyP_ne hk
      · exact keysF_ne f _ _ _ _ h
theorem itemP_ne {sz : Int} {l : List W} {e q : Int} (h : itemP sz l = .bad e q) : e ≠ 0 := by
  unfold itemP at h
  split at h
  · cases h; decide
  · split at h
    · cases h; decide
    · split at h
      · exact keysF_ne _ _ _ _ _ h
      · split at h
        · cases h; decide
        · split at h
          · exact keysF_ne _ _ _ _ _ h
          · cases h; decide
theorem itemsF_ne {sz : Int} : ∀ (f : Nat) (acc : List I) (l : List W) (e q : Int), itemsF sz f acc l = .bad e q → e ≠ 0
  | 0, _, _, _, _, h => by cases h; decide
  | f + 1, acc, [], e, q, h => by cases h
  | f + 1, acc, w :: t, e, q, h => by
    unfold itemsF at h
    split at h
    · cases h; decide
    · split at h
      · rename_i hi; cases h; exact itemP_ne hi
      · exact itemsF_ne f _ _ _ _ h
theorem parse_ne {s : List UInt8} {e q : Int} (h : parse s = .bad e q) : e ≠ 0 := by
  unfold parse at h
  split at h
  · rename_i er p hw
    cases h
    rcases words_ne hw with rfl | rfl | rfl | rfl <;> decide
  · exact itemsF_ne _ _ _ _ _ h
theorem IOk.ok {x : I} (h : IOk x) : OkI x := by
  obtain ⟨h1, h2, h3, h4⟩ := h
  refine ⟨by omega, by omega, by omega, fun k hk => ?_⟩
  obtain ⟨a, b, c⟩ := h4 k hk
  exact ⟨by omega, by omega, fun n hn => by have := c n hn; omega⟩
theorem OkI.same {x : I} (h : OkI x) : x.keys.length ≤ 1000000 ∧ ∀ k ∈ x.keys, k.vals.length ≤ 1000000 := ⟨h.keys, fun k hk => (h.key k hk).2.1⟩
end SS

namespace SS
open SC
theorem dgt_of {i : Nat} (h : i < 10) : dgt (UInt8.ofNat (48 + i)) = true ∧ (UInt8.ofNat (48 + i)).toNat = 48 + i := by
  have e : (UInt8.ofNat (48 + i)).toNat = 48 + i := by
    rw [UInt8.toNat_ofNat']
    omega
  refine ⟨?_, e⟩
  unfold dgt
  rw [e]
  simp
  omega
theorem dec_props : ∀ (u : Nat), (Go.Lib.decDigits u).all dgt = true ∧ val (Go.Lib.decDigits u) = u ∧ Go.Lib.decDigits u ≠ []
  | u => by
    by_cases h : u < 10
    · rw [Go.Lib.decDigits_one h]
      obtain ⟨h1, h2⟩ := dgt_of h
      refine ⟨by rw [List.all_cons, h1]; rfl, ?_, by simp⟩
      show 10 * 0 + ((UInt8.ofNat (48 + u)).toNat - 48) = u
      rw [h2]
      omega
    · obtain ⟨a1, a2, a3⟩ := dec_props (u / 10)
      rw [Go.Lib.decDigits, dif_neg h]
      obtain ⟨h1, h2⟩ := dgt_of (i := u % 10) (by omega)
      refine ⟨by rw [List.all_append, a1, List.all_cons, h1]; rfl, ?_, by simp⟩
      rw [val_snoc, a2, h2]
      omega
theorem span_full {p : UInt8 → Bool} : ∀ {l : List UInt8}, l.all p = true → span p l = l.length
  | [], _ => rfl
  | c :: t, h => by
    simp only [List.all_cons, Bool.and_eq_true] at h
    unfold span
    rw [if_pos h.1, span_full h.2]
    rfl
theorem head_dig {l : List UInt8} (h : l.all dgt = true) (h0 : l ≠ []) : l.head? ≠ some 45 ∧ nameLen l = 0 ∧ l.head? ≠ some 59 := by
  cases l with
  | nil => exact absurd rfl h0
  | cons c t =>
    simp only [List.all_cons, Bool.and_eq_true] at h
    have hc := h.1
    unfold dgt at hc
    simp at hc
    refine ⟨fun e => ?_, ?_, fun e => ?_⟩
    · obtain rfl : c = 45 := by simpa using e
      revert hc; decide
    · show (if ltr c = true then _ else 0) = 0
      rw [if_neg]
      unfold ltr
      simp
      omega
    · obtain rfl : c = 59 := by simpa using e
      revert hc; decide
theorem fst_itoa {n : Int} (h : -1073741824 ≤ n ∧ n ≤ 1073741824) : fst (Go.Lib.itoa n) = .ok 2 (Go.Lib.itoa n).length n := by
  unfold Go.Lib.itoa
  by_cases hn : n < 0
  · rw [if_pos hn]
    obtain ⟨a1, a2, a3⟩ := dec_props n.natAbs
    generalize Go.Lib.decDigits n.natAbs = d at *
    have hd : digs (45 :: d) = d := rfl
    have hs : sgn (45 :: d) = 1 := rfl
    have hsp := span_full a1
    have hl0 : d.length ≠ 0 := fun h => a3 (List.eq_nil_of_length_eq_zero h)
    have hnl : numLen (45 :: d) = d.length + 1 := by
      unfold numLen
      rw [hd, hsp, if_neg hl0, hs]
      omega
    have hnd : numDig (45 :: d) = d := by unfold numDig; rw [hd, hsp, List.take_length]
    unfold fst
    rw [show nameLen (45 :: d) = 0 from rfl, if_neg (by simp), hnl, if_pos (by omega), hnd, a2, if_pos (by omega)]
    congr 1
    unfold numVal
    rw [if_pos (show (45 :: d : List UInt8).head? = some 45 from rfl), hnd, a2]
    omega
  · rw [if_neg hn]
    obtain ⟨a1, a2, a3⟩ := dec_props n.toNat
    generalize Go.Lib.decDigits n.toNat = d at *
    obtain ⟨b1, b2, b3⟩ := head_dig a1 a3
    have hd : digs d = d := if_neg b1
    have hs : sgn d = 0 := if_neg b1
    have hsp := span_full a1
    have hl0 : d.length ≠ 0 := fun h => a3 (List.eq_nil_of_length_eq_zero h)
    have hnl : numLen d = d.length := by
      unfold numLen
      rw [hd, hsp, if_neg hl0, hs]
      omega
    have hnd : numDig d = d := by unfold numDig; rw [hd, hsp, List.take_length]
    unfold fst
    rw [b2, if_neg (by simp), hnl, if_pos hl0, hnd, a2, if_pos (by omega)]
    congr 1
    unfold numVal
    rw [if_neg b1, hnd, a2]
    omega
theorem val_lt : ∀ (n : Nat) (l : List UInt8), l.length = n → l.all dgt = true → val l < 10 ^ n
  | 0, l, h, _ => by
    obtain rfl := List.eq_nil_of_length_eq_zero h
    decide
  | n + 1, l, h, hd => by
    have hne : l ≠ [] := by intro e; subst e; simp at h
    obtain ⟨m, c, rfl⟩ : ∃ m c, l = m ++ [c] := ⟨l.dropLast, l.getLast hne, (List.dropLast_concat_getLast hne).symm⟩
    simp only [List.all_append, List.all_cons, List.all_nil, Bool.and_true, Bool.and_eq_true] at hd
    have ih := val_lt n m (by simpa using h) hd.1
    have hc := hd.2
    unfold dgt at hc
    simp at hc
    rw [val_snoc, Nat.pow_succ]
    omega
theorem nDigits_le : ∀ (d u : Nat), u < 10 ^ d → 1 ≤ d → Go.Lib.nDigits u ≤ d
  | 0, u, _, h => by omega
  | d + 1, u, h, _ => by
    by_cases hu : u < 10
    · rw [Go.Lib.nDigits_small hu]; omega
    · rw [Go.Lib.nDigits_big hu]
      have h2 : u / 10 < 10 ^ d := by
        rw [Nat.pow_succ] at h
        omega
      have hd : 1 ≤ d := by
        cases d with
        | zero => simp at h2; omega
        | succ d => omega
      have := nDigits_le d (u / 10) h2 hd
      omega
/-- A numeral is no longer than the number that it was read from. -/
theorem itoa_le {y : W} (h : Fit y) (hk : y.kind = 2) : (Go.Lib.itoa y.num).length ≤ y.text.length := by
  obtain ⟨hf, hne⟩ := h
  rw [hk] at hf
  generalize y.text = l at *
  generalize y.num = v at *
  unfold fst at hf
  split at hf
  · split at hf
    · injection hf with a b c; cases a
    · cases hf
  · split at hf
    · rename_i hn0
      split at hf
      · obtain ⟨e2, e3⟩ : numLen l = l.length ∧ numVal l = v := by injection hf with a b c; exact ⟨b, c⟩
        have hs0 : span dgt (digs l) ≠ 0 := by
          intro h0; unfold numLen at hn0; rw [if_pos h0] at hn0; exact hn0 rfl
        have hnl : numLen l = sgn l + span dgt (digs l) := if_neg hs0
        have hdl := digs_length l
        have hlen : (numDig l).length = span dgt (digs l) := by
          unfold numDig
          rw [List.length_take]
          have := span_le dgt (digs l)
          omega
        have hlt := val_lt _ _ rfl (numDig_all l)
        rw [hlen] at hlt
        have hnd := nDigits_le _ _ hlt (by omega)
        have hdec : ∀ u : Nat, (Go.Lib.decDigits u).length = Go.Lib.nDigits u := Go.Lib.decDigits_length
        rw [← e3]
        unfold numVal Go.Lib.itoa
        by_cases h45 : l.head? = some 45
        · have hs : sgn l = 1 := if_pos h45
          rw [if_pos h45]
          split
          · rw [List.length_cons, hdec, Int.natAbs_neg, Int.natAbs_natCast]
            omega
          · rename_i hnn
            have h0 : val (numDig l) = 0 := by omega
            rw [hdec, h0]
            have : Go.Lib.nDigits ((-((0 : Nat) : Int)).toNat) = 1 := Go.Lib.nDigits_small (by decide)
            rw [this]
            omega
        · have hs : sgn l = 0 := if_neg h45
          rw [if_neg h45, if_neg (by omega), hdec, Int.toNat_natCast]
          omega
      · cases hf
    · split at hf
      · injection hf with a b c; cases a
      · cases hf
end SS

/-
  The words of a text: the reference.
  'same': two rows of the same words.
-/
import Derived.Deep.QuietTactic
import Derived.BigQuiet
import Derived.Deep.RegionWith
import Derived.BigRegion
import Derived.Test.YtdikoeeoglfmaaaGreatDoorM08
namespace SC
open Go Go.RowKit PB
structure RIn (s : ByteArray) (k : Nat) (acc : List W) (r : WR) : Prop where
  rest : wordsR (s.data.toList.drop k) k acc = r
  few : acc.length ≤ k
theorem RIn.start (s : ByteArray) (h : ¬ 20000 < s.size) : RIn s 0 [] (words s.data.toList) := by
  have hl : s.data.toList.length = s.size := by simp
  refine ⟨?_, Nat.le_refl _⟩
  unfold words; rw [hl, if_neg h]; rfl
theorem RIn.win {s : ByteArray} {k : Nat} {acc : List W} {r : WR} (h : RIn s k acc r) (h0 : skp false (s.data.toList.drop k) = 0) : WIn s k acc r := ⟨h.rest, h0, h.few⟩
theorem RIn.done {s : ByteArray} {k : Nat} {acc : List W} {r : WR} (h : RIn s k acc r) (hk : ¬ k < s.size) : r = .ok acc := by
  rw [← h.rest, List.drop_eq_nil_of_le (by simp; omega), wordsR_eq, if_pos List.drop_nil]
theorem RIn.next {s : ByteArray} {k n : Nat} {acc : List W} {r : WR} {kd v : Int} (h : RIn s k acc r) (h0 : skp false (s.data.toList.drop k) = 0) (hk : k < s.size) (hf : fst (s.data.toList.drop k) = .ok kd n v) (hl : ¬ (kd = 2 ∧ nameLen ((s.data.toList.drop k).drop n) ≠ 0)) :
    RIn s (k + n) (acc ++ [⟨kd, (s.data.toList.drop k).take n, v, k⟩]) r := by
  have hne : ¬ s.data.toList.drop k = [] := by rw [drop_cons s k hk]; simp
  have hn := fst_len hf
  refine ⟨?_, ?_⟩
  · rw [← h.rest, wordsR_eq (s.data.toList.drop k), h0, List.drop_zero, if_neg hne, hf]
    dsimp only
    rw [if_neg hl, Nat.add_zero, List.drop_drop]
  · have := h.few
    rw [List.length_append]; simp; omega
theorem RIn.step {s : ByteArray} {k j : Nat} {acc : List W} {r : WR} (h : RIn s k acc r) (hj : k ≤ j) (hs : skp false (s.data.toList.drop k) = (j - k) + skp false (s.data.toList.drop j)) : RIn s j acc r := by
  refine ⟨?_, by have := h.few; omega⟩
  have hd : (s.data.toList.drop k).drop (j - k) = s.data.toList.drop j := by rw [List.drop_drop]; congr 1; omega
  have := wordsR_step (at_ := k) (acc := acc) hd hs
  rw [h.rest, show k + (j - k) = j by omega] at this
  exact this.symm
/-- Inside a comment that begins at k. -/
def InC (s : ByteArray) (k j : Nat) : Prop := skp false (s.data.toList.drop k) = (j - k) + skp true (s.data.toList.drop j)
theorem InC.start {s : ByteArray} {k : Nat} (h : k < s.size) (hb : s[k]'h = 35) : InC s k k := by
  unfold InC
  rw [drop_cons s k h, hb, skp_hash, skp_t, if_neg (by decide)]; omega
theorem InC.next {s : ByteArray} {k j : Nat} (h : InC s k j) (hkj : k ≤ j) (hj : j < s.size) (hb : s[j]'hj ≠ 10) : InC s k (j + 1) := by
  unfold InC at *
  rw [h, drop_cons s j hj, skp_t, if_neg hb]; omega
theorem InC.stop {s : ByteArray} {k j : Nat} (h : InC s k j) (hj : ∀ hj : j < s.size, s[j]'hj = 10) : skp false (s.data.toList.drop k) = (j - k) + skp false (s.data.toList.drop j) := by
  unfold InC at h
  rw [h]
  by_cases hp : j < s.size
  · rw [drop_cons s j hp, hj hp, skp_t, if_pos rfl, skp_blank (by decide)]
  · rw [List.drop_eq_nil_of_le (by simp; omega)]; rfl
end SC
namespace Go.Proofs.YtdikoeeoglfmaaaGreatDoor
open Go.RowKit SC PB
set_option maxHeartbeats 8000000 in
set_option maxRecDepth 100000 in
theorem rwords_any (s : ByteArray) (w : World) (_hs : s.size ≤ 9223372036854775807) :
    Calls Tryz.prog 31 #[.string s] w (RetW 103 (words s.data.toList) w) := by
  obtain ⟨i0, hi, hz0, hz1, hz2⟩ := info_parts info_rword
  by_cases hbig : 20000 < s.size
  · have HR := Lib.hid (words_large hbig)
    have hb : (20000 : Int) < s.size := by omega
    go_enter Tryz.func31, Tryz.ntmps31
    go_wp2_with fail
    go_ret3
    exact ⟨_, by rw [HR.out]; rfl, by rw [HR.out]; exact OwnW.nil _ _ _, Below.refl _ _⟩
  · have HIn := Lib.hid (RIn.start s hbig)
    have hb : ¬ (20000 : Int) < s.size := by omega
    have hb2 : s.size ≤ 20000 := by omega
    have HOne := Lib.hid (fun a w ha => one_any s a w hb2 ha)
    generalize hr : words s.data.toList = r at *
    clear hbig hr
    go_enter Tryz.func31, Tryz.ntmps31
    go_wp2_with fail
    clear hb
    go_loopw [5, 6] (fun l a wr => ∃ (k : Nat) (acc : List W), k ≤ s.size ∧ a = .int .i64 k ∧ OwnW 103 w.heap.size wr l acc ∧ Hid (Below w.heap.size w wr) ∧ Hid (RIn s k acc r)) (fun _ a _ => s.size - (intOf a).toNat)
    case atStart => exact ⟨0, [], Nat.zero_le _, rfl, OwnW.nil _ _ _, Lib.hid (Below.refl _ _), HIn⟩
    case round =>
      clear HIn
      obtain ⟨k, acc, hk, rfl, hO, hwr, hI⟩ := hrel
      by_cases hp : k < s.size
      · have HC := Lib.hid (drop_cons s k hp)
        generalize hb : s[k]'hp = b at *
        by_cases hbl : isBlank b = true
        · have HG := Lib.hid (hI.out.step (j := k + 1) (by omega) (by rw [HC.out, skp_blank hbl]; omega))
          have HB : b = 32 ∨ b = 9 ∨ b = 10 := by simpa [isBlank, or_assoc] using hbl
          clear HC hbl
          rcases HB with rfl | rfl | rfl
          all_goals
            go_wp2_with fail
            go_roundw
            case rel => exact ⟨k + 1, acc, by omega, by go_num, hO, hwr, HG⟩
            case measure => simp [intOf]; omega
        · have t1 : ((b.toNat : Int) == 32) = false := nb (b := b) (n := 32) (fun h => by subst h; exact hbl (by decide)) (by decide)
          have t2 : ((b.toNat : Int) == 9) = false := nb (b := b) (n := 9) (fun h => by subst h; exact hbl (by decide)) (by decide)
          have t3 : ((b.toNat : Int) == 10) = false := nb (b := b) (n := 10) (fun h => by subst h; exact hbl (by decide)) (by decide)
          by_cases hh : b = 35
          · have t4 : ((b.toNat : Int) == 35) = true := by subst hh; decide
            have HS := Lib.hid (InC.start hp (hb.trans hh))
            have HK := Lib.hid (show ∀ j, (∀ hj : j < s.size, s[j]'hj = 10) → k ≠ j from fun j h e => by
              subst e; have := h hp; rw [hb, hh] at this; exact absurd this (by decide))
            clear HC hh hbl
            go_wp2_with fail
            obtain ⟨wo, hwo⟩ : ∃ wo : World, wo = wr := ⟨_, rfl⟩
            subst hwo
            go_loop [6] (fun i => ∃ j : Nat, k ≤ j ∧ j ≤ s.size ∧ i = .int .i64 j ∧ Hid (InC s k j)) (fun i => s.size - (intOf i).toNat)
            case atStart => exact ⟨k, Nat.le_refl _, hk, rfl, HS⟩
            case round =>
              clear HS
              obtain ⟨j, hkj, hj, rfl, hC⟩ := hrel
              by_cases hpj : ∃ hp : j < s.size, s[j]'hp ≠ 10
              · obtain ⟨hpj, hne⟩ := hpj
                have HG := Lib.hid (hC.out.next hkj hpj hne)
                have t5 : (((s[j]'hpj).toNat : Int) == 10) = false := nb (n := 10) hne (by decide)
                have t6 : (((s[j]'hpj).toNat : Int) != 10) = true := by simp [bne, t5]
                clear hne
                go_wp2_with fail
                go_round
                case rel => exact ⟨j + 1, by omega, by omega, by go_num, HG⟩
                case measure => simp [intOf]; omega
              · have hno : ∀ hj : j < s.size, s[j]'hj = 10 := fun hj => Classical.byContradiction fun h => hpj ⟨hj, h⟩
                have HG := Lib.hid (hI.out.step hkj (hC.out.stop hno))
                have hkj2 : k < j := by have := HK.out j hno; omega
                by_cases hp2 : j < s.size
                · have t5 : (((s[j]'hp2).toNat : Int) == 10) = true := by rw [hno hp2]; decide
                  have t6 : (((s[j]'hp2).toNat : Int) != 10) = false := by simp [bne, t5]
                  clear hno hpj
                  go_wp2_with fail
                  go_roundw
                  case rel => exact ⟨j, acc, by omega, rfl, hO, hwr, HG⟩
                  case measure => simp [intOf]; omega
                · clear hno hpj
                  go_wp2_with fail
                  go_roundw
                  case rel => exact ⟨j, acc, by omega, rfl, hO, hwr, HG⟩
                  case measure => simp [intOf]; omega
          · have t4 : ((b.toNat : Int) == 35) = false := nb (b := b) (n := 35) hh (by decide)
            have h0 : skp false (s.data.toList.drop k) = 0 := by rw [HC.out, skp_none (by simpa using hbl) hh]
            have HF := Lib.hid (fun w => HOne.out k w hp)
            clear HC hbl hh HOne
            cases hf : fst (s.data.toList.drop k) with
            | bad er =>
              have HR := Lib.hid ((hI.out.win h0).bad hp hf)
              have HV := Lib.hid (show oneV (s.data.toList.drop k) k = .tuple #[wordV 0 ⟨#[]⟩ 0 0, .int .i64 0, .int .i64 er, .int .i64 k] by unfold oneV; rw [hf])
              have hne : ((er : Int) == 0) = false := by rw [beq_eq_false_iff_ne]; rcases bads hf with rfl | rfl | rfl <;> decide
              have hne2 : ((er : Int) != 0) = true := by simp [bne, hne]
              rw [HV.out] at HF
              clear hf h0 HV
              go_wp2_with fail
              refine (HF.out _).mono ?_
              rintro e w1 ⟨rfl, hw1⟩
              have q1 := hwr.out.trans (hw1.mono hwr.out.size)
              clear hw1
              go_wp2_with fail
              go_ret3
              exact ⟨_, by rw [HR.out]; rfl, by rw [HR.out]; exact OwnW.nil _ _ _, q1.alloc (by have := q1.size; omega) _⟩
            | ok kd n v =>
              have hn := fst_len hf
              have hn2 : n ≤ s.size - k := by have := hn.2; simpa using this
              have b1 : (k : Int) + n ≤ s.size := by omega
              have HN1 := Lib.hid hn.1
              by_cases hx : kd = 2 ∧ nameLen ((s.data.toList.drop k).drop n) ≠ 0
              · have HR := Lib.hid ((hI.out.win h0).letter hp (by rw [← hx.1]; exact hf) (by rw [← List.drop_drop]; exact hx.2))
                have HV := Lib.hid (show oneV (s.data.toList.drop k) k = .tuple #[wordV 0 ⟨#[]⟩ 0 0, .int .i64 0, .int .i64 4, .int .i64 ((k : Int) + n)] by unfold oneV; rw [hf]; dsimp only; rw [if_pos hx])
                rw [HV.out] at HF
                clear hf h0 HV hx hn
                go_wp2_with fail
                refine (HF.out _).mono ?_
                rintro e w1 ⟨rfl, hw1⟩
                have q1 := hwr.out.trans (hw1.mono hwr.out.size)
                clear hw1
                go_wp2_with fail
                go_ret3
                exact ⟨_, by rw [HR.out]; rfl, by rw [HR.out]; exact OwnW.nil _ _ _, q1.alloc (by have := q1.size; omega) _⟩
              · have HG := Lib.hid (hI.out.next h0 hp hf hx)
                have hcn : acc.length ≤ 1000000 := by have := hI.out.few; omega
                have HV := Lib.hid (show oneV (s.data.toList.drop k) k = .tuple #[wordV kd ⟨((s.data.toList.drop k).take n).toArray⟩ v k, .int .i64 ((k : Int) + n), .int .i64 0, .int .i64 0] by unfold oneV; rw [hf]; dsimp only; rw [if_neg hx])
                generalize hT : (s.data.toList.drop k).take n = T at *
                obtain ⟨TB, hTB⟩ : ∃ TB : ByteArray, (⟨T.toArray⟩ : ByteArray) = TB := ⟨_, rfl⟩
                rw [hTB] at HV
                rw [HV.out] at HF
                have HTB := Lib.hid hTB
                clear hf h0 HV hx hn hT hTB
                go_wp2_with fail
                refine (HF.out _).mono ?_
                rintro e w1 ⟨rfl, hw1⟩
                have q1 := Lib.hid (hwr.out.trans (hw1.mono hwr.out.size))
                have O1 := hO.kept hw1
                have hsz := q1.out.size
                clear hw1 hO
                go_wp2_with (at_builtin; refine wpList_append_w _ rfl _ _ 76 rfl 103 i0 Tryz.underlying76 hi hz0 hz1 hz2 w.heap.size _ acc ⟨kd, T, v, k⟩ rfl ((O1.kept ((Below.refl _ _).alloc (Nat.le_refl _) _)).kept ((Below.refl _ _).alloc (Nat.le_refl _) _)) (w1.heap.size + 1) rfl (by have h := one_word (w1.alloc (.cells #[.int .i64 kd, .string TB, .int .i64 v, .int .i64 k] 103)) ⟨kd, T, v, k⟩ 103; rw [show (⟨(⟨kd, T, v, k⟩ : W).text.toArray⟩ : ByteArray) = TB from HTB.out] at h; simpa using h) hcn (by simp; omega) ?_)
                intro v' w' hown hbl hg
                have q3 := Lib.hid (((q1.out.alloc hsz _).alloc (by simp; omega) _).trans hbl)
                clear q1 O1 hbl hg
                go_wp2_with fail
                go_roundw
                case rel => exact ⟨k + n, _, by omega, by go_num, hown, q3, HG⟩
                case measure => have := HN1.out; simp [intOf]; omega
      · have HR := Lib.hid (hI.out.done hp)
        go_wp2_with fail
        go_ret3
        exact ⟨_, by rw [HR.out]; rfl, by rw [HR.out]; exact hO, hwr.out⟩
end Go.Proofs.YtdikoeeoglfmaaaGreatDoor

namespace SC
open Go Go.RowKit PB
theorem next {w w1 w2 : World} (h : Below w.heap.size w w1) (h' : Below w1.heap.size w1 w2) : Below w.heap.size w w2 := h.trans (h'.mono h.size)
theorem sb_alloc {w w' : World} (h : Below w.heap.size w w') (o : Obj) : Below w.heap.size w (w'.alloc o) := h.alloc h.size o
theorem sb_drew {w w' : World} (h : Below w.heap.size w w') : Below w.heap.size w w'.drew := PB.below_drewN h 1
theorem sb_set {w w' : World} (h : Below w.heap.size w w') {p : Addr} (hp : w.heap.size ≤ p.block) (v : Value) : Below w.heap.size w (w'.setCell p v) := h.setCell hp v
/-- The n words from the beginning of block g. -/
def WRow (w : World) (g : Nat) (ws : List W) : Prop := ∀ i x, ws[i]? = some x → WAt w g i x
theorem WRow.kept {w w' : World} {g : Nat} {ws : List W} (h : WRow w g ws) (hb : Below w.heap.size w w') (hg : ws.length ≠ 0 → g < w.heap.size) : WRow w' g ws := fun i x hx =>
  (h i x hx).kept hb (hg (by have := (List.getElem?_eq_some_iff.1 hx).1; omega))
end SC

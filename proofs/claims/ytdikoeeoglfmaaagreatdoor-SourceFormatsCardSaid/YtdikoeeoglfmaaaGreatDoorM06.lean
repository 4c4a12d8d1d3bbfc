/-
  Rows of words that are owned.
  The words of a text.
  Which texts are names: the code and the reference.
-/
import Derived.Maps.AppendAt
import Derived.ChangeMaps5
import Derived.Test.YtdikoeeoglfmaaaGreatDoorM03
import Derived.Test.YtdikoeeoglfmaaaGreatDoorM05
namespace SC
open Go Go.RowKit PB
def wc (x : W) : List Value := [.int .i64 x.kind, .string ⟨x.text.toArray⟩, .int .i64 x.num, .int .i64 x.pos]
def wlist : List W → List Value
  | [] => []
  | x :: t => wc x ++ wlist t
theorem wlist_length : ∀ l, (wlist l).length = l.length * 4
  | [] => rfl
  | x :: t => by unfold wlist; rw [List.length_append, wlist_length t]; simp [wc]; omega
theorem wlist_append : ∀ l m, wlist (l ++ m) = wlist l ++ wlist m
  | [], _ => rfl
  | x :: t, m => by
    show wc x ++ wlist (t ++ m) = wc x ++ wlist t ++ wlist m
    rw [wlist_append t m, List.append_assoc]
theorem wlist_get : ∀ (l : List W) (i : Nat) (x : W), l[i]? = some x → (wlist l)[i * 4]? = some (.int .i64 x.kind) ∧ (wlist l)[i * 4 + 1]? = some (.string ⟨x.text.toArray⟩) ∧ (wlist l)[i * 4 + 2]? = some (.int .i64 x.num) ∧ (wlist l)[i * 4 + 3]? = some (.int .i64 x.pos)
  | [], i, x, h => by simp at h
  | y :: t, 0, x, h => by
    obtain rfl : y = x := by simpa using h
    exact ⟨rfl, rfl, rfl, rfl⟩
  | y :: t, i + 1, x, h => by
    have ih := wlist_get t i x (by simpa using h)
    have e : ∀ j, (wlist (y :: t))[(i + 1) * 4 + j]? = (wlist t)[i * 4 + j]? := fun j => by
      show (wc y ++ wlist t)[(i + 1) * 4 + j]? = _
      rw [List.getElem?_append_right (by simp [wc]; omega)]
      congr 1
      simp [wc]; omega
    have e0 := e 0
    rw [Nat.add_zero, Nat.add_zero] at e0
    rw [e0, e 1, e 2, e 3]
    exact ih
/-- The slice value v owns the words ws. -/
def OwnW (E : TypeId) (N : Nat) (w : World) (v : Value) (ws : List W) : Prop := w.ownsRow N E 4 v ws.length (wlist ws)
theorem OwnW.nil (E : TypeId) (N : Nat) (w : World) : OwnW E N w (.slice none 0 0) [] := World.ownsRow_nil w N E 4
theorem OwnW.kept {E : TypeId} {N : Nat} {ws : List W} {w w' : World} {v : Value} (h : OwnW E N w v ws) (hb : Below w.heap.size w w') : OwnW E N w' v ws := by
  obtain ⟨h1, h2⟩ := h
  refine ⟨h1, ?_⟩
  rcases h2 with h2 | ⟨g, cap, cur, rfl, hg, hh, r⟩
  · exact .inl h2
  · have hlt : g < w.heap.size := by
      rcases Nat.lt_or_ge g w.heap.size with h | h
      · exact h
      · rw [Array.getElem?_eq_none h] at hh; cases hh
    exact .inr ⟨g, cap, cur, rfl, hg, by rw [hb.block g hlt]; exact hh, r⟩
theorem OwnW.mono {E : TypeId} {N N' : Nat} {ws : List W} {w : World} {v : Value} (h : OwnW E N w v ws) (hN : N' ≤ N) : OwnW E N' w v ws := by
  obtain ⟨h1, h2⟩ := h
  refine ⟨h1, ?_⟩
  rcases h2 with h2 | ⟨g, cap, cur, rfl, hg, r⟩
  · exact .inl h2
  · exact .inr ⟨g, cap, cur, rfl, Nat.le_trans hN hg, r⟩
theorem waddr (g j : Nat) : (⟨g, 0, none⟩ : Addr).add j = ⟨g, j, none⟩ := by unfold Addr.add; split <;> simp_all
/-- Word i of a row in block g. -/
def WAt (w : World) (g i : Nat) (x : W) : Prop := w.cell? ⟨g, i * 4, none⟩ = some (.int .i64 x.kind) ∧ w.cell? ⟨g, i * 4 + 1, none⟩ = some (.string ⟨x.text.toArray⟩) ∧ w.cell? ⟨g, i * 4 + 2, none⟩ = some (.int .i64 x.num) ∧ w.cell? ⟨g, i * 4 + 3, none⟩ = some (.int .i64 x.pos)
theorem ownw_slice {E : TypeId} {N : Nat} {ws : List W} {w : World} {v : Value} (h : OwnW E N w v ws) :
    ∃ (base : Option Addr) (g c : Nat), v = .slice base ws.length c ∧ (ws.length ≠ 0 → base = some ⟨g, 0, none⟩) ∧ (∀ i x, ws[i]? = some x → WAt w g i x) ∧ (ws.length ≠ 0 → g < w.heap.size) ∧ (ws.length ≠ 0 → N ≤ g) := by
  have hl := World.ownsRow.lt h
  rcases h.2 with ⟨rfl, h0⟩ | ⟨g, cap, cur, rfl, hg, hh, r⟩
  · refine ⟨none, 0, 0, by rw [h0], fun h => absurd h0 h, fun i x hx => ?_, fun h => absurd h0 h, fun h => absurd h0 h⟩
    have := (List.getElem?_eq_some_iff.1 hx).1
    omega
  · refine ⟨_, g, cap, rfl, fun _ => rfl, fun i x hx => ?_, fun _ => (hl g rfl).2, fun _ => hg⟩
    obtain ⟨e1, e2, e3, e4⟩ := wlist_get ws i x hx
    have k1 := World.ownsRow.cells h (g := g) rfl _ _ e1
    have k2 := World.ownsRow.cells h (g := g) rfl _ _ e2
    have k3 := World.ownsRow.cells h (g := g) rfl _ _ e3
    have k4 := World.ownsRow.cells h (g := g) rfl _ _ e4
    rw [waddr] at k1 k2 k3 k4
    exact ⟨k1, k2, k3, k4⟩
theorem WAt.kept {w w' : World} {g i : Nat} {x : W} (h : WAt w g i x) (hb : Below w.heap.size w w') (hg : g < w.heap.size) : WAt w' g i x := by
  obtain ⟨h1, h2, h3, h4⟩ := h
  exact ⟨by rw [hb.cell (p := ⟨g, _, none⟩) hg]; exact h1, by rw [hb.cell (p := ⟨g, _, none⟩) hg]; exact h2, by rw [hb.cell (p := ⟨g, _, none⟩) hg]; exact h3, by rw [hb.cell (p := ⟨g, _, none⟩) hg]; exact h4⟩
theorem one_word (w : World) (x : W) (E : TypeId) : ∀ j u, (wc x)[j]? = some u → (w.alloc (.cells #[.int .i64 x.kind, .string ⟨x.text.toArray⟩, .int .i64 x.num, .int .i64 x.pos] E)).cell? ((⟨w.heap.size, 0, none⟩ : Addr).add j) = some u := by
  intro j u hj
  rw [waddr]
  refine cell_new _ _ _ _ _ _ rfl ?_
  simpa [wc] using hj
/-- A block that is no row of the slice's stays when the slice grows. -/
theorem Blk.grown {w w' : World} {row : Option Nat} {g : Nat} {cs : Array Value} (h : Blk w g cs) (hg : w.grownBy w' row) (hne : some g ≠ row) : Blk w' g cs := by
  obtain ⟨T, hT⟩ := h
  refine ⟨T, ?_⟩
  rw [hg.block g (Array.getElem?_eq_some_iff.1 hT).1 hne]
  exact hT
/-- 'append(own, x)'. -/
theorem wpList_append_w {P : Program} (w : World) {ops : Array Oper} {rest : List Oper} {o : Oper} {a : Act} {Q : Exit → Act → World → Prop} (hgd : o.guard = none) (s x : Operand) (t : TypeId)
    (ho : o.op = .call { callee := .builtin .append, args := #[s, x], argTypes := #[t, t] }) (E : TypeId) (i : TypeInfo) (ht : P.underlying t = some (.slice E)) (hi : P.info? E = some i) (hz : i.zero = some (wordV 0 ⟨#[]⟩ 0 0)) (hsize : i.size = 4) (hby : i.bytes = 40)
    (N : Nat) (v : Value) (ws : List W) (y : W) (hs : a.eval s = v) (hown : OwnW E N w v ws) (b : Nat) (hx : a.eval x = .slice (some ⟨b, 0, none⟩) 1 1) (hb : ∀ j u, (wc y)[j]? = some u → w.cell? ((⟨b, 0, none⟩ : Addr).add j) = some u) (hn : ws.length ≤ 1000000) (hN : N ≤ w.heap.size)
    (h : ∀ v' w', OwnW E N w' v' (ws ++ [y]) → Below N w w' → w.grownBy w' v.ownBlock → wpList P ops Q rest (a.put o.dst v') w') : wpList P ops Q (o :: rest) a w := by
  refine wpList_append_own_at w hgd s x t ho N E i (wordV 0 ⟨#[]⟩ 0 0) 4 40 ht hi hz hsize hby rfl (by decide) v ws.length (wlist ws) hs hown ⟨b, 0, none⟩ 1 1 (wc y) hx rfl hb ?_ (by unfold maxLen; omega) (by omega) hN ?_
  · intro u hu
    simp [wc] at hu
    rcases hu with rfl | rfl | rfl | rfl <;> rfl
  · intro v' w' h1 h2 _ _
    refine h v' w' ?_ ((Below.refl _ _).grown h2 hN (fun q hq => (World.ownsRow.lt hown q hq).1)) h2
    show w'.ownsRow N E 4 v' (ws ++ [y]).length (wlist (ws ++ [y]))
    rw [wlist_append, List.length_append]
    have e : wlist [y] = wc y := by simp [wlist]
    rw [e]
    exact h1
end SC
namespace Go.Proofs.YtdikoeeoglfmaaaGreatDoor
open Go.RowKit SC PB
set_option maxRecDepth 100000 in
theorem info_word : (Tryz.prog.info? 64).map (fun i => (i.zero, i.size, i.bytes)) = some (some (wordV 0 ⟨#[]⟩ 0 0), 4, 40) := by kernel_rfl
set_option maxRecDepth 100000 in
theorem info_rword : (Tryz.prog.info? 103).map (fun i => (i.zero, i.size, i.bytes)) = some (some (wordV 0 ⟨#[]⟩ 0 0), 4, 40) := by kernel_rfl
end Go.Proofs.YtdikoeeoglfmaaaGreatDoor

namespace SC
open Go Go.RowKit PB
def WR.err : WR → Int
  | .bad e _ => e
  | .ok _ => 0
def WR.at : WR → Nat
  | .bad _ p => p
  | .ok _ => 0
def WR.list : WR → List W
  | .bad _ _ => []
  | .ok l => l
/-- What Words returns. -/
def RetW (E : TypeId) (r : WR) (w : World) (e : Ending) (w' : World) : Prop :=
  ∃ v, e = .returned (.tuple #[v, .int .i64 r.err, .int .i64 r.at]) ∧ OwnW E w.heap.size w' v r.list ∧ Below w.heap.size w w'
/-- The head of its loop. -/
structure WIn (s : ByteArray) (k : Nat) (acc : List W) (r : WR) : Prop where
  rest : wordsR (s.data.toList.drop k) k acc = r
  skip : skp false (s.data.toList.drop k) = 0
  few : acc.length ≤ k
theorem WIn.done {s : ByteArray} {k : Nat} {acc : List W} {r : WR} (h : WIn s k acc r) (hk : ¬ k < s.size) : r = .ok acc := by
  rw [← h.rest, wordsR_eq, if_pos]
  rw [h.skip, List.drop_zero]
  exact List.drop_eq_nil_of_le (by simp; omega)
theorem WIn.bad {s : ByteArray} {k : Nat} {acc : List W} {r : WR} {e : Int} (h : WIn s k acc r) (hk : k < s.size) (hf : fst (s.data.toList.drop k) = .bad e) : r = .bad e k := by
  have hne : ¬ s.data.toList.drop k = [] := by rw [drop_cons s k hk]; simp
  rw [← h.rest, wordsR_eq, h.skip, List.drop_zero, if_neg hne, hf]; rfl
theorem WIn.letter {s : ByteArray} {k n : Nat} {acc : List W} {r : WR} {v : Int} (h : WIn s k acc r) (hk : k < s.size) (hf : fst (s.data.toList.drop k) = .ok 2 n v) (hl : nameLen (s.data.toList.drop (k + n)) ≠ 0) : r = .bad 4 (k + n) := by
  have hne : ¬ s.data.toList.drop k = [] := by rw [drop_cons s k hk]; simp
  rw [← h.rest, wordsR_eq, h.skip, List.drop_zero, if_neg hne, hf]
  dsimp only
  rw [List.drop_drop, if_pos ⟨rfl, hl⟩]; rfl
theorem WIn.next {s : ByteArray} {k n : Nat} {acc : List W} {r : WR} {kd v : Int} (h : WIn s k acc r) (hk : k < s.size) (hf : fst (s.data.toList.drop k) = .ok kd n v) (hl : kd ≠ 2 ∨ nameLen (s.data.toList.drop (k + n)) = 0) :
    WIn s (k + n + skp false (s.data.toList.drop (k + n))) (acc ++ [⟨kd, (s.data.toList.drop k).take n, v, k⟩]) r := by
  have hne : ¬ s.data.toList.drop k = [] := by rw [drop_cons s k hk]; simp
  have hn := fst_len hf
  refine ⟨?_, ?_, ?_⟩
  · rw [← h.rest, wordsR_eq (s.data.toList.drop k), h.skip, List.drop_zero, if_neg hne, hf]
    dsimp only
    rw [List.drop_drop, if_neg (fun hh => by rcases hl with h | h; exact h hh.1; exact hh.2 h), Nat.add_zero, ← wordsR_skip (s.data.toList.drop (k + n)), List.drop_drop]
  · rw [← List.drop_drop]; exact skp_stop false _
  · have := h.few
    rw [List.length_append]; simp; omega
theorem WIn.start (s : ByteArray) (h : ¬ 20000 < s.size) : WIn s (skp false s.data.toList) [] (words s.data.toList) := by
  have hl : s.data.toList.length = s.size := by simp
  refine ⟨?_, ?_, Nat.zero_le _⟩
  · have := wordsR_skip s.data.toList 0 []
    rw [Nat.zero_add] at this
    rw [this]; unfold words; rw [hl, if_neg h]
  · exact skp_stop false _
theorem size_mk (l : List UInt8) : (⟨l.toArray⟩ : ByteArray).size = l.length := List.size_toArray
theorem own_ne {E : TypeId} {N : Nat} {ws : List W} {w : World} {v : Value} (h : OwnW E N w v ws) : some w.heap.size ≠ v.ownBlock := fun e => by
  have := (World.ownsRow.lt h _ e.symm).2; omega
theorem words_large {s : ByteArray} (h : 20000 < s.size) : words s.data.toList = .bad 2 0 := by
  have hl : s.data.toList.length = s.size := by simp
  unfold words; rw [hl, if_pos h]
theorem kinds {l : List UInt8} {kd : Int} {n : Nat} {v : Int} (h : fst l = .ok kd n v) : kd = 1 ∨ kd = 2 ∨ kd = 3 := by
  unfold fst at h
  split at h
  · split at h
    · cases h; exact .inl rfl
    · cases h
  · split at h
    · split at h
      · cases h; exact .inr (.inl rfl)
      · cases h
    · split at h
      · cases h; exact .inr (.inr rfl)
      · cases h
theorem bads {l : List UInt8} {e : Int} (h : fst l = .bad e) : e = 4 ∨ e = 5 ∨ e = 6 := by
  unfold fst at h
  split at h
  · split at h
    · cases h
    · cases h; exact .inr (.inr rfl)
  · split at h
    · split at h
      · cases h
      · cases h; exact .inr (.inl rfl)
    · split at h
      · cases h
      · cases h; exact .inl rfl
end SC
namespace Go.Proofs.YtdikoeeoglfmaaaGreatDoor
open Go.RowKit SC PB
set_option maxHeartbeats 4000000 in
set_option maxRecDepth 100000 in
theorem words_any (s : ByteArray) (w : World) (hs : s.size ≤ 9223372036854775807) :
    Calls Tryz.prog 19 #[.string s] w (RetW 64 (words s.data.toList) w) := by
  obtain ⟨i0, hi, hz0, hz1, hz2⟩ := info_parts info_word
  by_cases hbig : 20000 < s.size
  · have HR := Lib.hid (words_large hbig)
    have hb : (20000 : Int) < s.size := by omega
    go_enter Tryz.func19, Tryz.ntmps19
    go_wp2_with fail
    go_ret3
    exact ⟨_, by rw [HR.out]; rfl, by rw [HR.out]; exact OwnW.nil _ _ _, Below.refl _ _⟩
  · have HIn := Lib.hid (WIn.start s hbig)
    have HS := Lib.hid (fun a w ha => skip_any s a w (by omega) ha)
    have hb : ¬ (20000 : Int) < s.size := by omega
    have hb2 : s.size ≤ 20000 := by omega
    have e0 := Lib.hid (show skp false s.data.toList ≤ s.size by have := skp_le false s.data.toList; simpa using this)
    generalize hr : words s.data.toList = r at *
    clear hbig hr hb
    go_enter Tryz.func19, Tryz.ntmps19
    go_wp2_with fail
    refine (HS.out 0 _ (Nat.zero_le _)).mono ?_
    rintro e w' ⟨rfl, rfl⟩
    rw [List.drop_zero, Nat.zero_add]
    go_wp2_with fail
    go_loopw [5, 6] (fun l a wr => ∃ (k : Nat) (acc : List W), k ≤ s.size ∧ a = .int .i64 k ∧ OwnW 64 w.heap.size wr l acc ∧ Hid (Below w.heap.size w wr) ∧ Hid (WIn s k acc r)) (fun _ a _ => s.size - (intOf a).toNat)
    case atStart => exact ⟨_, [], e0.out, rfl, OwnW.nil _ _ _, Lib.hid (Below.refl _ _), HIn⟩
    case round =>
      clear HIn e0
      obtain ⟨k, acc, hk, rfl, hO, hwr, hI⟩ := hrel
      by_cases hp : k < s.size
      · have hx : (s.extract k s.size).data.toList = s.data.toList.drop k := Lib.extract_to_end s k
        have HF := Lib.hid (fun w => first_any (s.extract k s.size) w (by simp; omega))
        rw [hx] at HF
        cases hf : fst (s.data.toList.drop k) with
        | bad er =>
          have HR := Lib.hid (hI.out.bad hp hf)
          have HV := Lib.hid (show fstV (s.data.toList.drop k) = .tuple #[wordV 0 ⟨#[]⟩ 0 0, .int .i64 er] by unfold fstV; rw [hf])
          have hne : ((er : Int) == 0) = false := by rw [beq_eq_false_iff_ne]; rcases bads hf with rfl | rfl | rfl <;> decide
          have hne2 : ((er : Int) != 0) = true := by simp [bne, hne]
          rw [HV.out] at HF
          clear hf hx
          go_wp2_with fail
          refine (HF.out _).mono ?_
          rintro e w1 ⟨rfl, hw1⟩
          have q1 := hwr.out.trans (hw1.mono hwr.out.size)
          clear hw1
          go_wp2_with fail
          go_ret3
          exact ⟨_, by rw [HR.out]; rfl, by rw [HR.out]; exact OwnW.nil _ _ _, q1.alloc (by have := q1.size; omega) _⟩
        | ok kd n v =>
          have hn := fst_len hf
          have hn2 : n ≤ s.size - k := by have := hn.2; simpa using this
          have HV := Lib.hid (show fstV (s.data.toList.drop k) = .tuple #[wordV kd ⟨((s.data.toList.drop k).take n).toArray⟩ v 0, .int .i64 0] by unfold fstV; rw [hf])
          have HNx := Lib.hid (hI.out.next hp hf)
          have HL := Lib.hid (fun h : kd = 2 => hI.out.letter hp (by subst h; exact hf))
          have hTs : (⟨((s.data.toList.drop k).take n).toArray⟩ : ByteArray).size = n := by rw [size_mk, List.length_take]; omega
          have hfew := hI.out.few
          generalize hT : (s.data.toList.drop k).take n = T at *
          obtain ⟨TB, hTB⟩ : ∃ TB : ByteArray, (⟨T.toArray⟩ : ByteArray) = TB := ⟨_, rfl⟩
          rw [hTB] at HV hTs
          rw [HV.out] at HF
          have HTB := Lib.hid hTB
          have HK := Lib.hid (kinds hf)
          have hcn : acc.length ≤ 1000000 := by omega
          have b1 : (k : Int) + n ≤ s.size := by omega
          have HTS := Lib.hid hTs
          clear hf hx HV hT hTs hTB hfew
          go_wp2_with fail
          refine (HF.out _).mono ?_
          rintro e w1 ⟨rfl, hw1⟩
          have q1 := Lib.hid (hwr.out.trans (hw1.mono hwr.out.size))
          have O1 := hO.kept hw1
          have hsz := q1.out.size
          clear hw1 hO
          go_wp2_with (at_builtin; refine wpList_append_w _ rfl _ _ 57 rfl 64 i0 Tryz.underlying57 hi hz0 hz1 hz2 w.heap.size _ acc ⟨kd, T, v, k⟩ rfl ((O1.kept ((Below.refl _ _).alloc (Nat.le_refl _) _)).kept ((Below.refl _ _).alloc (Nat.le_refl _) _)) (w1.heap.size + 1) rfl (by have h := one_word (w1.alloc (.cells #[.int .i64 kd, .string TB, .int .i64 v, .int .i64 k] 64)) ⟨kd, T, v, k⟩ 64; rw [show (⟨(⟨kd, T, v, k⟩ : W).text.toArray⟩ : ByteArray) = TB from HTB.out] at h; simpa using h) hcn (by simp; omega) ?_)
          intro v' w' hown hbl hg
          have X1 := Blk.grown ((blk_new rfl).alloc _) hg (own_ne O1)
          have q3 := Lib.hid (((q1.out.alloc hsz _).alloc (by simp; omega) _).trans hbl)
          obtain ⟨c0, c1, c2, c3⟩ := Blk4 X1
          clear q1 O1 hbl hg
          have hsc := HS.out (k + n)
          rw [Int.natCast_add] at hsc
          have HSk := Lib.hid hsc
          have hnl := fun w => nameLength_any (s.extract (k + n) s.size) w (by simp; omega)
          rw [show (s.extract (k + n) s.size).data.toList = s.data.toList.drop (k + n) from Lib.extract_to_end s (k + n)] at hnl
          have HNL := Lib.hid hnl
          have e1 := Lib.hid (show k + n + skp false (s.data.toList.drop (k + n)) ≤ s.size by have := skp_le false (s.data.toList.drop (k + n)); simp at this; omega)
          have hkn : k + n ≤ s.size := by omega
          have hts := HTS.out
          have HN1 := Lib.hid hn.1
          clear hsc hnl hn
          by_cases h2 : kd = 2
          · have h2t : ((kd : Int) == 2) = true := by subst h2; decide
            have HLet := Lib.hid (HL.out h2)
            clear h2 HL HK
            by_cases hz : nameLen (s.data.toList.drop (k + n)) = 0
            · have HNx2 := Lib.hid (HNx.out (.inr hz))
              rw [hz] at HNL
              clear HNx HLet hz
              go_wp2_with fail
              refine (HNL.out _).mono ?_
              rintro e w2 ⟨rfl, hw2⟩
              have O2 := hown.kept hw2
              have q4 := Lib.hid (q3.out.trans (hw2.mono q3.out.size))
              clear hw2 hown q3 c0 c1 c2 c3 X1
              go_wp2_with fail
              refine (HSk.out _ hkn).mono ?_
              rintro e w3 ⟨rfl, rfl⟩
              go_wp2_with fail
              go_roundw
              case rel => exact ⟨_, _, e1.out, rfl, O2, q4, HNx2⟩
              case measure => have := HN1.out; simp [intOf]; omega
            · have HR := Lib.hid (HLet.out hz)
              have hz2 : 0 < (nameLen (s.data.toList.drop (k + n)) : Int) := by omega
              clear HNx HLet hz
              go_wp2_with fail
              refine (HNL.out _).mono ?_
              rintro e w2 ⟨rfl, hw2⟩
              have q4 := Lib.hid (q3.out.trans (hw2.mono q3.out.size))
              clear hw2 hown q3 c0 c1 c2 c3 X1
              go_wp2_with fail
              go_ret3
              exact ⟨_, by rw [HR.out]; rfl, by rw [HR.out]; exact OwnW.nil _ _ _, q4.out⟩
          · have h2t : ((kd : Int) == 2) = false := beq_eq_false_iff_ne.2 h2
            have HNx2 := Lib.hid (HNx.out (.inl h2))
            clear h2 HL HK HNx HNL
            go_wp2_with fail
            refine (HSk.out _ hkn).mono ?_
            rintro e w3 ⟨rfl, rfl⟩
            go_wp2_with fail
            go_roundw
            case rel => exact ⟨_, _, e1.out, rfl, hown, q3, HNx2⟩
            case measure => have := HN1.out; simp [intOf]; omega
      · have HR := Lib.hid (hI.out.done hp)
        go_wp2_with fail
        go_ret3
        exact ⟨_, by rw [HR.out]; rfl, by rw [HR.out]; exact hO, hwr.out⟩
end Go.Proofs.YtdikoeeoglfmaaaGreatDoor

namespace SC
open Go Go.RowKit
def isName (l : List UInt8) : Bool := decide (l.length ≠ 0) && (decide (l.length ≤ 12) && decide (nameLen l = l.length))
theorem ltr_i (b : UInt8) : (decide (97 ≤ (b.toNat : Int)) && decide ((b.toNat : Int) ≤ 122)) = ltr b := by
  unfold ltr; rw [Bool.eq_iff_iff]; simp; omega
theorem dgt_i (b : UInt8) : (decide (48 ≤ (b.toNat : Int)) && decide ((b.toNat : Int) ≤ 57)) = dgt b := by
  unfold dgt; rw [Bool.eq_iff_iff]; simp; omega
theorem isName_yes {l : List UInt8} (h1 : l.length ≠ 0) (h2 : l.length ≤ 12) (h3 : nameLen l = l.length) : isName l = true := by simp [isName, h1, h2, h3]
theorem isName_no {l : List UInt8} (h : l.length = 0 ∨ 12 < l.length ∨ nameLen l ≠ l.length) : isName l = false := by
  unfold isName
  rcases h with h | h | h
  · rw [h]; rfl
  · rw [decide_eq_false (show ¬ l.length ≤ 12 by omega)]; simp
  · rw [decide_eq_false h]; simp
end SC
namespace Go.Proofs.YtdikoeeoglfmaaaGreatDoor
open Go.RowKit SC
set_option maxHeartbeats 400000 in
theorem rletter_any (r : Int) (w : World) : Calls Tryz.prog 66 #[.int .u8 r] w fun e w' => e = .returned (.bool (decide (97 ≤ r) && decide (r ≤ 122))) ∧ w = w' := by
  go_enter Tryz.func66, Tryz.ntmps66
  go_wp2
  all_goals (go_ret; exact ⟨congrArg (fun b => Ending.returned (.bool b)) (by simp; omega), rfl⟩)
set_option maxHeartbeats 400000 in
theorem rdigit_any (r : Int) (w : World) : Calls Tryz.prog 67 #[.int .u8 r] w fun e w' => e = .returned (.bool (decide (48 ≤ r) && decide (r ≤ 57))) ∧ w = w' := by
  go_enter Tryz.func67, Tryz.ntmps67
  go_wp2
  all_goals (go_ret; exact ⟨congrArg (fun b => Ending.returned (.bool b)) (by simp; omega), rfl⟩)
theorem rltr (b : UInt8) (w : World) : Calls Tryz.prog 66 #[.int .u8 b.toNat] w fun e w' => e = .returned (.bool (ltr b)) ∧ w = w' := by
  have := rletter_any b.toNat w
  rwa [ltr_i] at this
theorem rdgt (b : UInt8) (w : World) : Calls Tryz.prog 67 #[.int .u8 b.toNat] w fun e w' => e = .returned (.bool (dgt b)) ∧ w = w' := by
  have := rdigit_any b.toNat w
  rwa [dgt_i] at this
end Go.Proofs.YtdikoeeoglfmaaaGreatDoor

/-
  The length of a number.
  The word of a number.
  The word at the beginning of a text.
-/
import Derived.Test.YtdikoeeoglfmaaaGreatDoorM04
namespace SC
open Go Go.RowKit PB
theorem hasPrefix_minus (l : List UInt8) : Lib.hasPrefix l [45] = decide (l.head? = some 45) := by
  unfold Lib.hasPrefix
  cases l with
  | nil => rfl
  | cons c t =>
    show (45 == c && List.isPrefixOf [] t) = decide (some c = some 45)
    by_cases h : c = 45
    · subst h; rfl
    · rw [beq_eq_false_iff_ne.2 (fun e => h e.symm)]
      simp [h]
theorem trimPrefix_minus (l : List UInt8) : Lib.trimPrefix l [45] = digs l := by
  unfold Lib.trimPrefix digs
  rw [hasPrefix_minus]
  by_cases h : l.head? = some 45 <;> simp [h]
theorem dgt_in (b : UInt8) : [48, 49, 50, 51, 52, 53, 54, 55, 56, 57].contains b = dgt b := by
  rw [Bool.eq_iff_iff]
  simp only [List.contains_iff_mem, List.mem_cons, List.mem_nil_iff, or_false, dgt, Bool.and_eq_true, decide_eq_true_eq, ← UInt8.toNat_inj]
  simp only [UInt8.reduceToNat]
  omega
theorem trim_digits : ∀ l : List UInt8, Lib.trimLeftS l [48, 49, 50, 51, 52, 53, 54, 55, 56, 57] = l.drop (span dgt l)
  | [] => rfl
  | c :: t => by
    have ih := trim_digits t
    unfold Lib.trimLeftS at *
    rw [List.dropWhile_cons, dgt_in]
    show (if dgt c = true then _ else _) = (c :: t).drop (if dgt c = true then span dgt t + 1 else 0)
    split
    · rw [ih, List.drop_succ_cons]
    · rfl
end SC
namespace Go.Proofs.YtdikoeeoglfmaaaGreatDoor
open Go.RowKit SC PB
set_option maxRecDepth 100000 in
theorem cut_any (s : ByteArray) (w : World) :
    Calls Tryz.prog 71 #[.string s, .string ⟨#[45]⟩] w fun e w' => e = .returned (.tuple #[.string ⟨(digs s.data.toList).toArray⟩, .bool (decide (s.data.toList.head? = some 45))]) ∧ w = w' :=
  (Tryz.strings_CutPrefix s ⟨#[45]⟩ w).mono fun e w' ⟨he, hw⟩ => ⟨by rw [he]; show Ending.returned (.tuple #[.string ⟨(Lib.trimPrefix s.data.toList [45]).toArray⟩, .bool (Lib.hasPrefix s.data.toList [45])]) = _; rw [trimPrefix_minus, hasPrefix_minus], hw.symm⟩
set_option maxRecDepth 100000 in
theorem trim_any (s : ByteArray) (w : World) :
    Calls Tryz.prog 72 #[.string s, .string ⟨#[48, 49, 50, 51, 52, 53, 54, 55, 56, 57]⟩] w fun e w' => e = .returned (.string ⟨(s.data.toList.drop (span dgt s.data.toList)).toArray⟩) ∧ Below w.heap.size w w' := by
  have h := Any.strings_TrimLeft_laid Tryz.lays161 (by kernel_rfl) s ⟨#[48, 49, 50, 51, 52, 53, 54, 55, 56, 57]⟩ w (by decide) (ascii_of_all (by decide))
  exact h.mono fun e w' ⟨he, hw⟩ => ⟨by rw [he]; show Ending.returned (.string ⟨(Lib.trimLeftS s.data.toList [48, 49, 50, 51, 52, 53, 54, 55, 56, 57]).toArray⟩) = _; rw [trim_digits], hw⟩
set_option maxHeartbeats 1000000 in
set_option maxRecDepth 100000 in
theorem numberLength_any (s : ByteArray) (w : World) (hs : s.size ≤ 281474976710656) :
    Calls Tryz.prog 55 #[.string s] w fun e w' => e = .returned (.int .i64 (numLen s.data.toList)) ∧ Below w.heap.size w w' := by
  have h1 := digs_length s.data.toList
  have h2 := span_le dgt (digs s.data.toList)
  have h3 : s.data.toList.length = s.size := by simp
  have HC := Lib.hid (fun w => cut_any s w)
  have HT := Lib.hid (fun w => trim_any ⟨(digs s.data.toList).toArray⟩ w)
  by_cases h0 : span dgt (digs s.data.toList) = 0
  · have HN := Lib.hid (show numLen s.data.toList = 0 by unfold numLen; rw [if_pos h0])
    have hT := HT.out
    simp only at hT
    rw [h0, List.drop_zero] at hT
    have HT2 := Lib.hid hT
    clear HT hT h0 h1 h2 h3
    generalize (⟨(digs s.data.toList).toArray⟩ : ByteArray) = D at *
    go_enter Tryz.func55, Tryz.ntmps55
    go_wp2_with fail
    refine (HC.out _).mono ?_
    rintro e w1 ⟨rfl, rfl⟩
    go_wp2_with fail
    refine (HT2.out _).mono ?_
    rintro e w1 ⟨rfl, hw1⟩
    go_wp2_with fail
    go_ret
    exact ⟨by rw [HN.out]; rfl, hw1⟩
  · have HN := Lib.hid (show (numLen s.data.toList : Int) = (s.size : Int) - (((digs s.data.toList).length - span dgt (digs s.data.toList) : Nat) : Int) by
      unfold numLen; rw [if_neg h0]; omega)
    have hT := HT.out
    simp only at hT
    have hD : (⟨(digs s.data.toList).toArray⟩ : ByteArray).size = (digs s.data.toList).length := by simp [ByteArray.size]
    have hR : (⟨((digs s.data.toList).drop (span dgt (digs s.data.toList))).toArray⟩ : ByteArray).size = (digs s.data.toList).length - span dgt (digs s.data.toList) := by simp [ByteArray.size]
    have hne : ((⟨((digs s.data.toList).drop (span dgt (digs s.data.toList))).toArray⟩ : ByteArray).toList == (⟨(digs s.data.toList).toArray⟩ : ByteArray).toList) = false := by
      rw [beq_eq_false_iff_ne, Lib.toList_data, Lib.toList_data]
      intro e
      have := congrArg List.length e
      simp at this
      omega
    have HT2 := Lib.hid hT
    rw [← hR] at HN
    have hr : (⟨((digs s.data.toList).drop (span dgt (digs s.data.toList))).toArray⟩ : ByteArray).size ≤ s.size := by omega
    clear HT hT h0 h1 h2 h3 hD hR
    generalize (⟨((digs s.data.toList).drop (span dgt (digs s.data.toList))).toArray⟩ : ByteArray) = R at *
    generalize (⟨(digs s.data.toList).toArray⟩ : ByteArray) = D at *
    go_enter Tryz.func55, Tryz.ntmps55
    go_wp2_with fail
    refine (HC.out _).mono ?_
    rintro e w1 ⟨rfl, rfl⟩
    go_wp2_with fail
    refine (HT2.out _).mono ?_
    rintro e w1 ⟨rfl, hw1⟩
    go_wp2_with fail
    go_ret
    exact ⟨by rw [HN.out]; rfl, hw1⟩
end Go.Proofs.YtdikoeeoglfmaaaGreatDoor

namespace SC
open Go Go.RowKit PB
theorem val_snoc (l : List UInt8) (c : UInt8) : val (l ++ [c]) = 10 * val l + (c.toNat - 48) := by
  unfold val; rw [List.foldl_append]; rfl
theorem foldl_ge : ∀ (l : List UInt8) (n : Nat), n ≤ l.foldl (fun n c => 10 * n + (c.toNat - 48)) n
  | [], n => Nat.le_refl _
  | c :: t, n => by
    have := foldl_ge t (10 * n + (c.toNat - 48))
    rw [List.foldl_cons]
    omega
theorem val_take (l : List UInt8) (k : Nat) : val (l.take k) ≤ val l := by
  unfold val
  conv => rhs; rw [← List.take_append_drop k l, List.foldl_append]
  exact foldl_ge _ _
theorem take_snoc (s : ByteArray) (k : Nat) (h : k < s.size) : s.data.toList.take (k + 1) = s.data.toList.take k ++ [s[k]'h] := by
  rw [List.take_succ_eq_append_getElem (by simpa using h)]; rfl
theorem all_at {s : ByteArray} {p : UInt8 → Bool} (h : s.data.toList.all p = true) (k : Nat) (hk : k < s.size) : p (s[k]'hk) = true := by
  have := drop_cons s k hk
  refine List.all_eq_true.1 h _ ?_
  exact List.mem_of_mem_drop (by rw [this]; exact List.mem_cons_self)
/-- What 'number' gives for a text of digits, maybe behind a minus sign. -/
def numberV (s : ByteArray) (neg : Bool) (v : Nat) : Value :=
  if v ≤ 1073741824 then .tuple #[wordV 2 s (if neg then -(v : Int) else v) 0, .int .i64 0] else .tuple #[wordV 0 ⟨#[]⟩ 0 0, .int .i64 5]
structure NumIn (w : World) (D : ByteArray) (pos : Nat) (wr : World) : Prop where
  blk : Blk wr w.heap.size #[.int .i64 0, .string ⟨#[]⟩, .int .i64 0, .int .i64 0]
  it : wr.heap[w.heap.size + 1]? = some (.stringIter D pos)
  bel : Below w.heap.size w wr
theorem NumIn.next {w wr : World} {D : ByteArray} {pos : Nat} (h : NumIn w D pos wr) (pos' : Nat) : NumIn w D pos' (wr.iterAt (w.heap.size + 1) D pos') := by
  refine ⟨?_, Lib.iterAt_heap wr _ D pos pos' h.it, Lib.below_iterAt h.bel (Nat.le_succ _) D pos'⟩
  obtain ⟨T, hT⟩ := h.blk
  exact ⟨T, by rw [Lib.iterAt_other _ _ _ _ _ (by omega)]; exact hT⟩
end SC
namespace Go.Proofs.YtdikoeeoglfmaaaGreatDoor
open Go.RowKit SC PB
set_option maxHeartbeats 2000000 in
set_option maxRecDepth 100000 in
theorem number_any (s : ByteArray) (w : World) (hs : s.size ≤ 281474976710656) (hall : (digs s.data.toList).all dgt = true) :
    Calls Tryz.prog 56 #[.string s] w fun e w' => e = .returned (numberV s (decide (s.data.toList.head? = some 45)) (val (digs s.data.toList))) ∧ Below w.heap.size w w' := by
  have h1 := digs_length s.data.toList
  have h3 : s.data.toList.length = s.size := by simp
  have HC := Lib.hid (fun w => cut_any s w)
  obtain ⟨D, hD⟩ : ∃ D : ByteArray, (⟨(digs s.data.toList).toArray⟩ : ByteArray) = D := ⟨_, rfl⟩
  have hDl : digs s.data.toList = D.data.toList := by rw [← hD]
  rw [hD] at HC
  rw [hDl] at hall h1 ⊢
  have hDs : D.size ≤ s.size := by have : D.data.toList.length = D.size := by simp
                                   omega
  clear hDl hD h1 h3
  generalize hneg : decide (s.data.toList.head? = some 45) = neg at *
  clear hneg
  have HALL := Lib.hid (fun k hk => all_at hall k hk)
  have HT := Lib.hid (fun k => val_take D.data.toList k)
  have HS := Lib.hid (fun k hk => take_snoc D k hk)
  generalize hV : val D.data.toList = V at *
  have HV := Lib.hid hV
  have hz : ∀ b : Bool, (if b then -((0 : Nat) : Int) else ((0 : Nat) : Int)) = 0 := by intro b; cases b <;> rfl
  clear hz hall hV
  go_enter Tryz.func56, Tryz.ntmps56
  go_wp2_with fail
  refine (HC.out _).mono ?_
  rintro e w1 ⟨rfl, rfl⟩
  go_wp2_with fail
  go_loopw [6] (fun n wr => ∃ pos : Nat, pos ≤ D.size ∧ n = .int .i64 (val (D.data.toList.take pos)) ∧ Hid (val (D.data.toList.take pos) ≤ 1073741824) ∧ Hid (NumIn w D pos wr)) (fun _ wr => D.size - wr.iterPos (w.heap.size + 1))
  case atStart =>
    refine ⟨0, Nat.zero_le _, rfl, Lib.hid (by simp [val]), Lib.hid ⟨(blk_new rfl).kept ((Below.refl _ _).alloc (Nat.le_refl _) _), ?_, ((Below.refl _ w).alloc (Nat.le_refl _) _).alloc (by simp) _⟩⟩
    have := World.iter_heap (w.alloc (.cells #[.int .i64 0, .string ⟨#[]⟩, .int .i64 0, .int .i64 0] 64)) D 0
    simpa using this
  case round =>
    obtain ⟨pos, hpos, rfl, hle, hI⟩ := hrel
    by_cases hp : pos < D.size
    · have hnx : ∀ ty, (Instr.next (.pointer (some ⟨w.heap.size + 1, 0, none⟩)) true ty).run Tryz.prog wr = _ := fun ty => Lib.run_next_any_at wr (w.heap.size + 1) D pos ty hI.out.it hp
      have hd := HALL.out pos hp
      obtain ⟨_, f2, f3⟩ := dec_facts D pos hp
      have hw := f3 (by unfold lod; rw [hd, Bool.or_true])
      have hr := f2.2 hd
      have hs1 := HS.out pos hp
      have hv1 := val_snoc (D.data.toList.take pos) (D[pos]'hp)
      rw [← hs1] at hv1
      have hv2 := HT.out (pos + 1)
      have hle2 := hle.out
      have hN2 := Lib.hid (hI.out.next (pos + 1))
      rw [hw] at hnx hr
      dsimp only at hnx hr
      obtain ⟨m, hm⟩ : ∃ m : Nat, (D[pos]'hp).toNat = 48 + m := ⟨(D[pos]'hp).toNat - 48, by omega⟩
      rw [hm] at hv1 hnx hr
      generalize hx : val (D.data.toList.take pos) = x at *
      generalize hy : val (D.data.toList.take (pos + 1)) = y at *
      have HY := Lib.hid hy
      have HV1 := Lib.hid (show y = 10 * x + m by omega)
      have b1 : (0 : Int) ≤ x := by omega
      have b2 : (x : Int) ≤ 1073741824 := by omega
      have b3 : (0 : Int) ≤ m := by omega
      have b4 : (m : Int) ≤ 9 := by omega
      clear f2 f3 hw hs1 hm hd hx hy hr hle hle2 hv1
      by_cases hc : y ≤ 1073741824
      · have HL := Lib.hid hc
        have b5 : 10 * (x : Int) + (48 + (m : Int) - 48) ≤ 1073741824 := by have := HV1.out; omega
        clear hc hv2
        go_wp2_with fail
        go_roundw
        case rel => exact ⟨pos + 1, by omega, by rw [HY.out, HV1.out]; go_num, by rw [HY.out]; exact HL, hN2⟩
        case measure =>
          simp only [World.iterPos, hN2.out.it, hI.out.it]
          omega
      · have HL := Lib.hid (show ¬ V ≤ 1073741824 by omega)
        have b5 : 1073741824 < 10 * (x : Int) + (48 + (m : Int) - 48) := by have := HV1.out; omega
        have X2 := hN2.out.blk
        have q2 := hN2.out.bel
        obtain ⟨c0, c1, c2, c3⟩ := Blk4 X2
        obtain ⟨g0, g1, g2, g3⟩ := Blk4f X2
        clear hc hv2
        generalize World.iterAt _ _ _ _ = W at *
        go_wp2_with fail
        refine bodyPost_ret (blk_res_tmp rfl _ rfl (blk_set4 X2) Tryz.underlying64 rfl (by rfl)) rfl ?_
        exact ⟨by unfold numberV; rw [if_neg HL.out]; rfl, (((q2.setCell (Nat.le_refl _) _).setCell (Nat.le_refl _) _).setCell (Nat.le_refl _) _).setCell (Nat.le_refl _) _⟩
    · have hnx : ∀ ty, (Instr.next (.pointer (some ⟨w.heap.size + 1, 0, none⟩)) true ty).run Tryz.prog wr = _ := fun ty => Lib.run_next_end_at wr (w.heap.size + 1) D pos ty hI.out.it hp
      have hv : val (D.data.toList.take pos) = V := by rw [List.take_of_length_le (by simp; omega)]; exact HV.out
      rw [hv] at hle ⊢
      have b2 := hle.out
      have X2 := hI.out.blk
      have q2 := hI.out.bel
      clear hv
      cases neg
      all_goals
        go_wp2_with fail
        refine (clone_any s _ hs).mono ?_
        rintro e w2 ⟨rfl, hw2⟩
        have X3 := X2.kept hw2
        have q3 := q2.trans (hw2.mono q2.size)
        obtain ⟨c0, c1, c2, c3⟩ := Blk4 X3
        obtain ⟨g0, g1, g2, g3⟩ := Blk4f X3
        clear hw2 X2 q2
        go_wp2_with fail
        refine bodyPost_ret (blk_res_tmp rfl _ rfl (blk_set4 X3) Tryz.underlying64 rfl (by rfl)) rfl ?_
        exact ⟨by unfold numberV; rw [if_pos hle.out]; rfl, (((q3.setCell (Nat.le_refl _) _).setCell (Nat.le_refl _) _).setCell (Nat.le_refl _) _).setCell (Nat.le_refl _) _⟩
end Go.Proofs.YtdikoeeoglfmaaaGreatDoor

namespace SC
open Go Go.RowKit PB
theorem take_span (p : UInt8 → Bool) : ∀ l : List UInt8, (l.take (span p l)).all p = true
  | [] => rfl
  | c :: t => by
    show ((c :: t).take (if p c = true then span p t + 1 else 0)).all p = true
    split
    · rename_i h; rw [List.take_succ_cons, List.all_cons, h, take_span p t]; rfl
    · rfl
theorem head_take {l : List UInt8} {n : Nat} (h : n ≠ 0) : (l.take n).head? = l.head? := by
  cases l with
  | nil => simp
  | cons c t => cases n with
    | zero => exact absurd rfl h
    | succ m => rfl
theorem digs_take {l : List UInt8} (h : numLen l ≠ 0) : digs (l.take (numLen l)) = numDig l := by
  have hl : numLen l = sgn l + span dgt (digs l) := by
    unfold numLen at h ⊢; split
    · rename_i h0; rw [if_pos h0] at h; exact absurd rfl h
    · rfl
  unfold numDig
  rw [hl] at h ⊢
  unfold digs sgn
  by_cases hm : l.head? = some 45
  · rw [if_pos hm, if_pos hm]
    rw [head_take (by omega), if_pos hm]
    cases l with
    | nil => cases hm
    | cons c t => rw [Nat.add_comm, List.take_succ_cons]; rfl
  · have h' : span dgt (if l.head? = some 45 then List.drop 1 l else l) + 0 ≠ 0 := by rw [if_neg hm]; unfold digs sgn at h; rw [if_neg hm, if_neg hm] at h; omega
    rw [if_neg hm, if_neg hm, Nat.zero_add]
    rw [if_neg hm] at h'
    rw [head_take (by omega), if_neg hm]
theorem numDig_all (l : List UInt8) : (numDig l).all dgt = true := take_span dgt (digs l)
def fstV (l : List UInt8) : Value := match fst l with
  | .bad e => .tuple #[wordV 0 ⟨#[]⟩ 0 0, .int .i64 e]
  | .ok k n v => .tuple #[wordV k ⟨(l.take n).toArray⟩ v 0, .int .i64 0]
theorem extract_take (s : ByteArray) (n : Nat) : s.extract 0 n = ⟨(s.data.toList.take n).toArray⟩ := by
  apply ByteArray.ext
  apply Array.toList_inj.1
  have := Lib.extract_data s 0 n
  rw [this]; simp
theorem hasPrefix_one (l : List UInt8) (c : UInt8) : Lib.hasPrefix l [c] = decide (l.head? = some c) := by
  unfold Lib.hasPrefix
  cases l with
  | nil => rfl
  | cons b t =>
    show (c == b && List.isPrefixOf [] t) = decide (some b = some c)
    by_cases h : b = c
    · subst h; simp [List.isPrefixOf]
    · rw [beq_eq_false_iff_ne.2 (fun e => h e.symm)]
      simp [h]
end SC
namespace Go.Proofs.YtdikoeeoglfmaaaGreatDoor
open Go.RowKit SC PB
set_option maxHeartbeats 2000000 in
set_option maxRecDepth 100000 in
theorem first_any (s : ByteArray) (w : World) (hs : s.size ≤ 281474976710656) :
    Calls Tryz.prog 35 #[.string s] w fun e w' => e = .returned (fstV s.data.toList) ∧ Below w.heap.size w w' := by
  have hl : s.data.toList.length = s.size := by simp
  have HNL := Lib.hid (fun w => nameLength_any s w (by omega))
  have HUL := Lib.hid (fun w => numberLength_any s w hs)
  have k1 := nameLen_le s.data.toList
  have k2 := numLen_le s.data.toList
  by_cases hn : nameLen s.data.toList ≠ 0
  · have HF := Lib.hid (show fstV s.data.toList = if nameLen s.data.toList ≤ 12 then .tuple #[wordV 1 (s.extract 0 (nameLen s.data.toList)) 0 0, .int .i64 0] else .tuple #[wordV 0 ⟨#[]⟩ 0 0, .int .i64 6] by
      unfold fstV fst; rw [if_pos hn, extract_take]
      by_cases h : nameLen s.data.toList ≤ 12
      · rw [if_pos h, if_pos h]
      · rw [if_neg h, if_neg h])
    have HM := Lib.hid (fun w => name_any (s.extract 0 (nameLen s.data.toList)) w (by simp; omega))
    have hsz : (s.extract 0 (nameLen s.data.toList)).size = nameLen s.data.toList := by simp; omega
    rw [hsz] at HM
    generalize hk : nameLen s.data.toList = k at *
    have b0 : (0 : Int) < k := by omega
    have b1 : k ≤ s.size := by omega
    clear hn hk k1 k2 hsz hl HUL
    go_enter Tryz.func35, Tryz.ntmps35
    go_wp2_with fail
    refine (HNL.out _).mono ?_
    rintro e w1 ⟨rfl, hw1⟩
    have X1 := blk_last hw1
    have q1 := ((Below.refl _ w).alloc (Nat.le_refl _) _).trans (hw1.mono (by simp))
    clear hw1
    by_cases h12 : k ≤ 12
    · rw [if_pos h12] at HF HM
      have H12 := Lib.hid h12
      clear h12
      go_wp2_with fail
      refine (HM.out _).mono ?_
      rintro e w2 ⟨rfl, hw2⟩
      have X3 := X1.kept hw2
      have q3 := q1.trans (hw2.mono q1.size)
      obtain ⟨c0, c1, c2, c3⟩ := Blk4 X3
      obtain ⟨g0, g1, g2, g3⟩ := Blk4f X3
      clear hw2 X1 q1
      go_wp2_with fail
      refine bodyPost_ret (blk_res_tmp rfl _ rfl (blk_set4 X3) Tryz.underlying64 rfl (by rfl)) rfl ?_
      exact ⟨by rw [HF.out]; rfl, (((q3.setCell (Nat.le_refl _) _).setCell (Nat.le_refl _) _).setCell (Nat.le_refl _) _).setCell (Nat.le_refl _) _⟩
    · rw [if_neg h12] at HF HM
      have H12 := Lib.hid h12
      clear h12
      go_wp2_with fail
      refine (HM.out _).mono ?_
      rintro e w2 ⟨rfl, hw2⟩
      have X3 := X1.kept hw2
      have q3 := q1.trans (hw2.mono q1.size)
      obtain ⟨c0, c1, c2, c3⟩ := Blk4 X3
      obtain ⟨g0, g1, g2, g3⟩ := Blk4f X3
      clear hw2 X1 q1
      go_wp2_with fail
      refine bodyPost_ret (blk_res_tmp rfl _ rfl (blk_set4 X3) Tryz.underlying64 rfl (by rfl)) rfl ?_
      exact ⟨by rw [HF.out]; rfl, (((q3.setCell (Nat.le_refl _) _).setCell (Nat.le_refl _) _).setCell (Nat.le_refl _) _).setCell (Nat.le_refl _) _⟩
  · have hn0 : nameLen s.data.toList = 0 := by omega
    rw [hn0] at HNL
    by_cases hu : numLen s.data.toList ≠ 0
    · have hsz : (s.extract 0 (numLen s.data.toList)).size = numLen s.data.toList := by simp; omega
      have hx : (s.extract 0 (numLen s.data.toList)).data.toList = s.data.toList.take (numLen s.data.toList) := by rw [extract_take]
      have HM := Lib.hid (fun w => number_any (s.extract 0 (numLen s.data.toList)) w (by omega) (by rw [hx, digs_take hu]; exact numDig_all _))
      rw [hx, digs_take hu, head_take hu] at HM
      have HF := Lib.hid (show fstV s.data.toList = numberV (s.extract 0 (numLen s.data.toList)) (decide (s.data.toList.head? = some 45)) (val (numDig s.data.toList)) by
        unfold fstV fst numberV numVal; rw [if_neg hn, if_pos hu, extract_take]
        by_cases h : val (numDig s.data.toList) ≤ 1073741824
        · rw [if_pos h, if_pos h]; by_cases hm : s.data.toList.head? = some 45 <;> simp [hm]
        · rw [if_neg h, if_neg h])
      obtain ⟨r0, r1, r2, r3, re, hR⟩ : ∃ r0 r1 r2 r3 re, numberV (s.extract 0 (numLen s.data.toList)) (decide (s.data.toList.head? = some 45)) (val (numDig s.data.toList)) = .tuple #[.agg #[.int .i64 r0, .string r1, .int .i64 r2, .int .i64 r3], .int .i64 re] := by
        unfold numberV
        split
        · exact ⟨_, _, _, _, _, rfl⟩
        · exact ⟨_, _, _, _, _, rfl⟩
      rw [hR] at HM HF
      generalize hk : numLen s.data.toList = k at *
      have b0 : (0 : Int) < k := by omega
      have b1 : k ≤ s.size := by omega
      clear hn hk k1 k2 hsz hl hx hR hu hn0
      go_enter Tryz.func35, Tryz.ntmps35
      go_wp2_with fail
      refine (HNL.out _).mono ?_
      rintro e w1 ⟨rfl, hw1⟩
      have X1 := blk_last hw1
      have q1 := ((Below.refl _ w).alloc (Nat.le_refl _) _).trans (hw1.mono (by simp))
      clear hw1
      go_wp2_with fail
      refine (HUL.out _).mono ?_
      rintro e w2 ⟨rfl, hw2⟩
      have X2 := X1.kept hw2
      have q2 := q1.trans (hw2.mono q1.size)
      clear hw2 X1 q1
      go_wp2_with fail
      refine (HM.out _).mono ?_
      rintro e w3 ⟨rfl, hw3⟩
      have X3 := X2.kept hw3
      have q3 := q2.trans (hw3.mono q2.size)
      obtain ⟨c0, c1, c2, c3⟩ := Blk4 X3
      obtain ⟨g0, g1, g2, g3⟩ := Blk4f X3
      clear hw3 X2 q2
      go_wp2_with fail
      refine bodyPost_ret (blk_res_tmp rfl _ rfl (blk_set4 X3) Tryz.underlying64 rfl (by rfl)) rfl ?_
      exact ⟨by rw [HF.out]; rfl, (((q3.setCell (Nat.le_refl _) _).setCell (Nat.le_refl _) _).setCell (Nat.le_refl _) _).setCell (Nat.le_refl _) _⟩
    · have hu0 : numLen s.data.toList = 0 := by omega
      rw [hu0] at HUL
      have HP := Lib.hid (fun w => Tryz.strings_HasPrefix s ⟨#[59]⟩ w)
      have e59 : Lib.hasPrefix s.data.toList (⟨#[59]⟩ : ByteArray).data.toList = decide (s.data.toList.head? = some 59) := hasPrefix_one _ _
      rw [e59] at HP
      have HF := Lib.hid (show fstV s.data.toList = if s.data.toList.head? = some 59 then .tuple #[wordV 3 ⟨#[59]⟩ 0 0, .int .i64 0] else .tuple #[wordV 0 ⟨#[]⟩ 0 0, .int .i64 4] by
        unfold fstV fst; rw [if_neg hn, if_neg hu]
        by_cases h : s.data.toList.head? = some 59
        · rw [if_pos h, if_pos h]
          cases hs : s.data.toList with
          | nil => rw [hs] at h; cases h
          | cons c t => rw [hs] at h; obtain rfl : c = 59 := by simpa using h
                        rfl
        · rw [if_neg h, if_neg h])
      clear hn hu hn0 hu0 k1 k2 e59 hl
      by_cases h59 : s.data.toList.head? = some 59
      all_goals
        simp only [h59, decide_true, decide_false, if_true, if_false] at HP HF
        clear h59
        go_enter Tryz.func35, Tryz.ntmps35
        go_wp2_with fail
        refine (HNL.out _).mono ?_
        rintro e w1 ⟨rfl, hw1⟩
        have X1 := blk_last hw1
        have q1 := ((Below.refl _ w).alloc (Nat.le_refl _) _).trans (hw1.mono (by simp))
        clear hw1
        go_wp2_with fail
        refine (HUL.out _).mono ?_
        rintro e w2 ⟨rfl, hw2⟩
        have X3 := X1.kept hw2
        have q3 := q1.trans (hw2.mono q1.size)
        obtain ⟨c0, c1, c2, c3⟩ := Blk4 X3
        obtain ⟨g0, g1, g2, g3⟩ := Blk4f X3
        clear hw2 X1 q1
        go_wp2_with fail
        refine (HP.out _).mono ?_
        rintro e w3 ⟨rfl, rfl⟩
        go_wp2_with fail
        refine bodyPost_ret (blk_res_tmp rfl _ rfl (blk_set4 X3) Tryz.underlying64 rfl (by rfl)) rfl ?_
        exact ⟨by rw [HF.out]; rfl, (((q3.setCell (Nat.le_refl _) _).setCell (Nat.le_refl _) _).setCell (Nat.le_refl _) _).setCell (Nat.le_refl _) _⟩
end Go.Proofs.YtdikoeeoglfmaaaGreatDoor

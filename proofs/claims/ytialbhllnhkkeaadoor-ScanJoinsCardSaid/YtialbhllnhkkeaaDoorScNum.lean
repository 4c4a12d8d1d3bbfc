/-
  The word of a number.
-/
import Derived.Test.YtialbhllnhkkeaaDoorScNumL
namespace SC
open Go Go.RowKit PB
theorem val_snoc (l : List UInt8) (c : UInt8) : val (l ++ [c]) = 10 * val l + (c.toNat - 48) := by
  unfold val; rw [List.foldl_append]; rfl
theorem foldl_ge : ∀ (l : List UInt8) (n : Nat), n ≤ l.foldl (fun n c => 10 * n + (c.toNat - 48)) n
  | [], n => Nat.le_refl _
  | c :: t, n => by
    have := foldl_ge t (10 * n + (c.toNat - 48))
    rw [List.foldl_cons]
    omega
theorem val_take (l : List UInt8) (k : Nat) : val (l.take k) ≤ val l := by
  unfold val
  conv => rhs; rw [← List.take_append_drop k l, List.foldl_append]
  exact foldl_ge _ _
theorem take_snoc (s : ByteArray) (k : Nat) (h : k < s.size) : s.data.toList.take (k + 1) = s.data.toList.take k ++ [s[k]'h] := by
  rw [List.take_succ_eq_append_getElem (by simpa using h)]; rfl
theorem all_at {s : ByteArray} {p : UInt8 → Bool} (h : s.data.toList.all p = true) (k : Nat) (hk : k < s.size) : p (s[k]'hk) = true := by
  have := drop_cons s k hk
  refine List.all_eq_true.1 h _ ?_
  exact List.mem_of_mem_drop (by rw [this]; exact List.mem_cons_self)
/-- What 'number' gives for a text of digits, maybe behind a minus sign. -/
def numberV (s : ByteArray) (neg : Bool) (v : Nat) : Value :=
  if v ≤ 1073741824 then .tuple #[wordV 2 s (if neg then -(v : Int) else v) 0, .int .i64 0] else .tuple #[wordV 0 ⟨#[]⟩ 0 0, .int .i64 5]
structure NumIn (w : World) (D : ByteArray) (pos : Nat) (wr : World) : Prop where
  blk : Blk wr w.heap.size #[.int .i64 0, .string ⟨#[]⟩, .int .i64 0, .int .i64 0]
  it : wr.heap[w.heap.size + 1]? = some (.stringIter D pos)
  bel : Below w.heap.size w wr
theorem NumIn.next {w wr : World} {D : ByteArray} {pos : Nat} (h : NumIn w D pos wr) (pos' : Nat) : NumIn w D pos' (wr.iterAt (w.heap.size + 1) D pos') := by
  refine ⟨?_, Lib.iterAt_heap wr _ D pos pos' h.it, Lib.below_iterAt h.bel (Nat.le_succ _) D pos'⟩
  obtain ⟨T, hT⟩ := h.blk
  exact ⟨T, by rw [Lib.iterAt_other _ _ _ _ _ (by omega)]; exact hT⟩
end SC
namespace Go.Proofs.YtialbhllnhkkeaaDoor
open Go.RowKit SC PB
set_option maxHeartbeats 2000000 in
theorem number_any (s : ByteArray) (w : World) (hs : s.size ≤ 281474976710656) (hall : (digs s.data.toList).all dgt = true) :
    Calls Tryd.prog 30 #[.string s] w fun e w' => e = .returned (numberV s (decide (s.data.toList.head? = some 45)) (val (digs s.data.toList))) ∧ Below w.heap.size w w' := by
  have h1 := digs_length s.data.toList
  have h3 : s.data.toList.length = s.size := by simp
  have HC := Lib.hid (fun w => cut_any s w)
  obtain ⟨D, hD⟩ : ∃ D : ByteArray, (⟨(digs s.data.toList).toArray⟩ : ByteArray) = D := ⟨_, rfl⟩
  have hDl : digs s.data.toList = D.data.toList := by rw [← hD]
  rw [hD] at HC
  rw [hDl] at hall h1 ⊢
  have hDs : D.size ≤ s.size := by have : D.data.toList.length = D.size := by simp
                                   omega
  clear hDl hD h1 h3
  generalize hneg : decide (s.data.toList.head? = some 45) = neg at *
  clear hneg
  have HALL := Lib.hid (fun k hk => all_at hall k hk)
  have HT := Lib.hid (fun k => val_take D.data.toList k)
  have HS := Lib.hid (fun k hk => take_snoc D k hk)
  generalize hV : val D.data.toList = V at *
  have HV := Lib.hid hV
  have hz : ∀ b : Bool, (if b then -((0 : Nat) : Int) else ((0 : Nat) : Int)) = 0 := by intro b; cases b <;> rfl
  clear hz hall hV
  go_enter Tryd.func30, Tryd.ntmps30
  go_wp2_with fail
  refine (HC.out _).mono ?_
  rintro e w1 ⟨rfl, rfl⟩
  go_wp2_with fail
  go_loopw [6] (fun n wr => ∃ pos : Nat, pos ≤ D.size ∧ n = .int .i64 (val (D.data.toList.take pos)) ∧ Hid (val (D.data.toList.take pos) ≤ 1073741824) ∧ Hid (NumIn w D pos wr)) (fun _ wr => D.size - wr.iterPos (w.heap.size + 1))
  case atStart =>
    refine ⟨0, Nat.zero_le _, rfl, Lib.hid (by simp [val]), Lib.hid ⟨(blk_new rfl).kept ((Below.refl _ _).alloc (Nat.le_refl _) _), ?_, ((Below.refl _ w).alloc (Nat.le_refl _) _).alloc (by simp) _⟩⟩
    have := World.iter_heap (w.alloc (.cells #[.int .i64 0, .string ⟨#[]⟩, .int .i64 0, .int .i64 0] 33)) D 0
    simpa using this
  case round =>
    obtain ⟨pos, hpos, rfl, hle, hI⟩ := hrel
    by_cases hp : pos < D.size
    · have hnx : ∀ ty, (Instr.next (.pointer (some ⟨w.heap.size + 1, 0, none⟩)) true ty).run Tryd.prog wr = _ := fun ty => Lib.run_next_any_at wr (w.heap.size + 1) D pos ty hI.out.it hp
      have hd := HALL.out pos hp
      obtain ⟨_, f2, f3⟩ := dec_facts D pos hp
      have hw := f3 (by unfold lod; rw [hd, Bool.or_true])
      have hr := f2.2 hd
      have hs1 := HS.out pos hp
      have hv1 := val_snoc (D.data.toList.take pos) (D[pos]'hp)
      rw [← hs1] at hv1
      have hv2 := HT.out (pos + 1)
      have hle2 := hle.out
      have hN2 := Lib.hid (hI.out.next (pos + 1))
      rw [hw] at hnx hr
      dsimp only at hnx hr
      obtain ⟨m, hm⟩ : ∃ m : Nat, (D[pos]'hp).toNat = 48 + m := ⟨(D[pos]'hp).toNat - 48, by omega⟩
      rw [hm] at hv1 hnx hr
      generalize hx : val (D.data.toList.take pos) = x at *
      generalize hy : val (D.data.toList.take (pos + 1)) = y at *
      have HY := Lib.hid hy
      have HV1 := Lib.hid (show y = 10 * x + m by omega)
      have b1 : (0 : Int) ≤ x := by omega
      have b2 : (x : Int) ≤ 1073741824 := by omega
      have b3 : (0 : Int) ≤ m := by omega
      have b4 : (m : Int) ≤ 9 := by omega
      clear f2 f3 hw hs1 hm hd hx hy hr hle hle2 hv1
      by_cases hc : y ≤ 1073741824
      · have HL := Lib.hid hc
        have b5 : 10 * (x : Int) + (48 + (m : Int) - 48) ≤ 1073741824 := by have := HV1.out; omega
        clear hc hv2
        go_wp2_with fail
        go_roundw
        case rel => exact ⟨pos + 1, by omega, by rw [HY.out, HV1.out]; go_num, by rw [HY.out]; exact HL, hN2⟩
        case measure =>
          simp only [World.iterPos, hN2.out.it, hI.out.it]
          omega
      · have HL := Lib.hid (show ¬ V ≤ 1073741824 by omega)
        have b5 : 1073741824 < 10 * (x : Int) + (48 + (m : Int) - 48) := by have := HV1.out; omega
        have X2 := hN2.out.blk
        have q2 := hN2.out.bel
        obtain ⟨c0, c1, c2, c3⟩ := Blk4 X2
        obtain ⟨g0, g1, g2, g3⟩ := Blk4f X2
        clear hc hv2
        generalize World.iterAt _ _ _ _ = W at *
        go_wp2_with fail
        refine bodyPost_ret (blk_res_tmp rfl _ rfl (blk_set4 X2) Tryd.underlying33 rfl (by rfl)) rfl ?_
        exact ⟨by unfold numberV; rw [if_neg HL.out]; rfl, (((q2.setCell (Nat.le_refl _) _).setCell (Nat.le_refl _) _).setCell (Nat.le_refl _) _).setCell (Nat.le_refl _) _⟩
    · have hnx : ∀ ty, (Instr.next (.pointer (some ⟨w.heap.size + 1, 0, none⟩)) true ty).run Tryd.prog wr = _ := fun ty => Lib.run_next_end_at wr (w.heap.size + 1) D pos ty hI.out.it hp
      have hv : val (D.data.toList.take pos) = V := by rw [List.take_of_length_le (by simp; omega)]; exact HV.out
      rw [hv] at hle ⊢
      have b2 := hle.out
      have X2 := hI.out.blk
      have q2 := hI.out.bel
      clear hv
      cases neg
      all_goals
        go_wp2_with fail
        refine (clone_any s _ hs).mono ?_
        rintro e w2 ⟨rfl, hw2⟩
        have X3 := X2.kept hw2
        have q3 := q2.trans (hw2.mono q2.size)
        obtain ⟨c0, c1, c2, c3⟩ := Blk4 X3
        obtain ⟨g0, g1, g2, g3⟩ := Blk4f X3
        clear hw2 X2 q2
        go_wp2_with fail
        refine bodyPost_ret (blk_res_tmp rfl _ rfl (blk_set4 X3) Tryd.underlying33 rfl (by rfl)) rfl ?_
        exact ⟨by unfold numberV; rw [if_pos hle.out]; rfl, (((q3.setCell (Nat.le_refl _) _).setCell (Nat.le_refl _) _).setCell (Nat.le_refl _) _).setCell (Nat.le_refl _) _⟩
end Go.Proofs.YtialbhllnhkkeaaDoor

/-
  Of of package poly and of the reference; the reference's Same.
-/
import Derived.Test.YtmfmbglacebeiaaPoRow
namespace PO
/-- Ints of Go. -/
def AllI (l : List Int) : Prop := ∀ (j : Nat) (z : Int), l[j]? = some z → -9223372036854775808 ≤ z ∧ z ≤ 9223372036854775807
end PO
namespace Go.Proofs.Ytmfmbglacebeiaa
open Go.RowKit PB PO
set_option maxRecDepth 100000 in
set_option maxHeartbeats 8000000 in
theorem pof_any (base : Option Addr) (n c : Nat) (l : List Int) (w : World) (h : RdI w (.slice base n c) l) (hn : n ≤ 1000000) (hI : AllI l) :
    Calls Try.prog 26 #[.slice base n c] w (RetPoly w (trimL l)) := by
  obtain ⟨base', b, off, c', e, hb, hlt, hE⟩ := h
  simp only [Value.slice.injEq] at e
  obtain ⟨rfl, rfl, rfl⟩ := e
  obtain ⟨i0, hi, hz0, hz1, hz2⟩ := zinfo info_elt
  have HB := Lib.hid hb
  have HL := Lib.hid hlt
  have HE := Lib.hid (fun (j : Nat) (hj : j < l.length) => hE j _ (at0_lt hj))
  have HI := Lib.hid (fun (j : Nat) (hj : j < l.length) W => of_any (at0 l j) W (hI j _ (at0_lt hj)).1 (hI j _ (at0_lt hj)).2)
  have HC := Lib.hid (fun (w' : World) (R : Nat) (f : Nat → Int) (hR : PRow w' R l.length f) (hf : ∀ i, i < l.length → f i = at0 l i) (hN : w.heap.size ≤ R) => hR.can (N := w.heap.size) (fun i hi => by rw [hf i hi]; exact at0_lt hi) hN)
  have HT := Lib.hid (fun (w' : World) (base : Option Addr) (c : Nat) (hv : CanP w.heap.size w' (.slice base l.length c) l) => (show CanP w.heap.size w' (.slice base (trimN l) c) (trimL l) from hv.take (trimN_le l)))
  have HP := Lib.hid (fun (w' : World) (base : Option Addr) (n c : Nat) (hv : RdP w' (.slice base n c) l) (hn : n ≤ 1000000) => cutp_any base n c l w' hv hn)
  clear hb hlt hE hI
  generalize l.length = n at *
  go_enter Try.func26, Try.ntmps26
  go_wp2_with (at_make; refine wpList_make_elts _ rfl _ _ 30 rfl 50 i0 Try.underlying30 hi hz0 hz1 hz2 .i64 .i64 _ _ n rfl rfl (by omega) (by omega) hn ?_)
  intro w0 hw0 hs0 hR0
  have HW0 := Lib.hid hw0
  have HR0 := Lib.hid hR0
  clear hw0 hR0 hs0
  go_wp2_with fail
  go_loopw [11] (fun i wr => ∃ k : Nat, k ≤ n ∧ i = .int .i64 k ∧ Hid (PRow wr w.heap.size n (fun i => if i < k then at0 l i else 0)) ∧ Hid (Below w.heap.size w wr)) (fun i _ => n - (intOf i).toNat)
  case atStart => exact ⟨0, Nat.zero_le _, rfl, Lib.hid (HR0.out.congr (fun i _ => by simp)), HW0⟩
  case round =>
    obtain ⟨k, hk, rfl, hR, hq⟩ := hrel
    by_cases hkn : k < n
    · obtain rfl := HB.out (by omega)
      have c0 := HE.out k hkn
      rw [← World.cell?_of_block (w' := wr) (hq.out.block b (HL.out (by omega)))] at c0
      have HZ := Lib.hid (HI.out k hkn)
      have HN := Lib.hid (show ∀ (w' : World) (g : Nat → Int), PRow w' w.heap.size n (fun i => if i = k then at0 l k else (fun i => if i < k then at0 l i else 0) i) → PRow w' w.heap.size n (fun i => if i < k + 1 then at0 l i else 0) from fun w' g h => h.congr (fun i _ => by
        by_cases e : i = k
        · subst e; simp
        · by_cases e2 : i < k
          · simp [e, e2, Nat.lt_succ_of_lt e2]
          · have : ¬ i < k + 1 := by omega
            simp [e, e2, this]))
      generalize at0 l k = z at *
      go_wp2_with fail
      refine (HZ.out _).mono ?_
      rintro e w1 ⟨v1, rfl, hcan, hw1⟩
      obtain ⟨sb, qb, mb, db, gb, rfl, -, -⟩ := can_elt hcan
      have hR1 := hR.out.kept hw1
      have HB1 := Lib.hid (pnext hq.out hw1)
      obtain ⟨s0, q0, m0, d0, ⟨x0, x1⟩, ⟨f0, f1⟩, -⟩ := hR1.2 k hkn
      have HR1 := Lib.hid hR1
      have HCAN := Lib.hid (hcan.mono (show w.heap.size + 1 ≤ wr.heap.size from hR.out.1))
      clear hw1 hcan hR1 c0
      go_wp2_with fail
      go_roundw
      case rel => exact ⟨k + 1, by omega, by go_num, Lib.hid (HN.out _ (at0 l) (HR1.out.set hkn HCAN.out)), Lib.hid ((HB1.out.setCell (Nat.le_refl _) _).setCell (Nat.le_refl _) _)⟩
      case measure => simp [intOf]; omega
    · obtain rfl : k = n := by omega
      have HCN := Lib.hid (HC.out wr w.heap.size _ hR.out (fun i hi => by simp [hi]) (Nat.le_refl _))
      have HPP := Lib.hid (HP.out wr _ _ _ HCN.out.rd hn)
      have HTT := Lib.hid (HT.out wr _ _ HCN.out)
      clear hkn
      go_wp2_with fail
      refine HPP.out.mono ?_
      rintro e w1 ⟨rfl, hw1⟩
      have HB1 := Lib.hid (pnext hq.out hw1)
      have HV := Lib.hid (HTT.out.kept hw1)
      clear hw1
      go_wp2_with fail
      go_ret
      exact ⟨_, rfl, HV.out, HB1.out⟩
set_option maxRecDepth 100000 in
set_option maxHeartbeats 8000000 in
theorem rof_any (base : Option Addr) (n c : Nat) (l : List Int) (w : World) (h : RdI w (.slice base n c) l) (hn : n ≤ 1000000) (hI : AllI l) :
    Calls Try.prog 27 #[.slice base n c] w (RetPoly w (trimL l)) := by
  obtain ⟨base', b, off, c', e, hb, hlt, hE⟩ := h
  simp only [Value.slice.injEq] at e
  obtain ⟨rfl, rfl, rfl⟩ := e
  obtain ⟨i0, hi, hz0, hz1, hz2⟩ := zinfo info_elt
  have HB := Lib.hid hb
  have HL := Lib.hid hlt
  have HE := Lib.hid (fun (j : Nat) (hj : j < l.length) => hE j _ (at0_lt hj))
  have HI := Lib.hid (fun (j : Nat) (hj : j < l.length) W => of_ref (at0 l j) W (hI j _ (at0_lt hj)).1 (hI j _ (at0_lt hj)).2)
  have HF := Lib.hid (fun (w' : World) (v : Value) (ho : OwnP 50 w.heap.size w' v l.length (at0 l)) => ho.can l rfl (fun j hj => at0_lt hj))
  have HP := Lib.hid (fun (w' : World) (base : Option Addr) (n c : Nat) (hv : RdP w' (.slice base n c) l) (hn : n ≤ 1000000) => ptrim_ref base n c l w' hv hn)
  clear hb hlt hE hI
  generalize hln : l.length = n at *
  have HLN := Lib.hid hln
  clear hln
  go_enter Try.func27, Try.ntmps27
  go_wp2_with fail
  go_loopw [3, 4] (fun o i wr => ∃ k : Nat, k ≤ n ∧ i = .int .i64 k ∧ OwnP 50 w.heap.size wr o k (at0 l) ∧ Hid (Below w.heap.size w wr)) (fun _ i _ => n - (intOf i).toNat)
  case atStart => exact ⟨0, Nat.zero_le _, rfl, OwnP.nil _ _ _ _, Lib.hid (Below.refl _ _)⟩
  case round =>
    obtain ⟨k, hk, rfl, hO, hq⟩ := hrel
    by_cases hkn : k < n
    · obtain rfl := HB.out (by omega)
      have c0 := HE.out k hkn
      rw [← World.cell?_of_block (w' := wr) (hq.out.block b (HL.out (by omega)))] at c0
      have HC := Lib.hid (HI.out k hkn wr)
      have HOW := Lib.hid (fun g (e : Value.ownBlock _ = some g) => (hO.lt e).2)
      have HSZ := Lib.hid hq.out.size
      obtain ⟨z, hz⟩ : ∃ z, z = at0 l k := ⟨_, rfl⟩
      rw [← hz] at c0 HC
      have HZZ := Lib.hid hz
      clear hz
      go_wp2_with fail
      refine (HC.out).mono ?_
      rintro e w1 ⟨v1, rfl, hcan, hw1⟩
      obtain ⟨sb, qb, mb, db, gb, rfl, -, -⟩ := can_elt hcan
      rw [HZZ.out] at hcan
      have hO1 := hO.kept hw1
      have HB1 := Lib.hid (pnext hq.out hw1)
      have HSZ2 := Lib.hid (show w.heap.size ≤ w1.heap.size + 1 from Nat.le_succ_of_le HB1.out.size)
      clear hw1 c0 hO
      go_wp2_with (at_builtin; refine wpList_append_elt _ rfl _ _ 30 rfl 50 i0 Try.underlying30 hi hz0 hz1 hz2 w.heap.size _ k (at0 l) rfl (hO1.kept ((Below.refl _ _).alloc (Nat.le_refl _) _)) w1.heap.size rfl sb qb mb db wr.heap.size (cell_new _ _ _ _ _ _ rfl rfl) (cell_new _ _ _ _ _ _ rfl rfl) (hcan.kept ((Below.refl _ _).alloc (Nat.le_refl _) _)) HSZ.out HOW.out (by omega) (by simp; exact HSZ2.out) ?_)
      intro v' w' hown hbl
      have HB2 := Lib.hid ((pnext HB1.out ((Below.refl _ _).alloc (Nat.le_refl _) (Obj.cells #[.bool sb, .slice qb mb db] 50))).trans hbl)
      clear hO1 hbl hcan
      go_wp2_with fail
      go_roundw
      case rel => exact ⟨k + 1, by omega, by go_num, hown, HB2⟩
      case measure => simp [intOf]; omega
    · obtain rfl : k = n := by omega
      have HV := Lib.hid (HF.out _ _ hO)
      obtain ⟨bv, _, _, cv, ev, -⟩ := HV.out
      rw [HLN.out] at ev
      subst ev
      have HPP := Lib.hid (HP.out wr _ _ _ HV.out.rd hn)
      clear hkn hO
      go_wp2_with fail
      refine HPP.out.mono ?_
      rintro e w1 ⟨v1, rfl, hc1, hw1⟩
      have HB1 := Lib.hid (pnext hq.out hw1)
      have HV1 := Lib.hid (hc1.mono hq.out.size)
      clear hw1 hc1
      go_wp2_with fail
      go_ret
      exact ⟨_, rfl, HV1.out, HB1.out⟩
end Go.Proofs.Ytmfmbglacebeiaa

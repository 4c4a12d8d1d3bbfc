/-
  The reference's Trim and Of: polynomials without zeros at the high end.
-/
import Derived.Test.YtmfmbglacebeiaaPoCut
namespace PO
open Go Go.RowKit PB
theorem zinfo {P : Program} {t : TypeId} {z : Value} {s b : Nat} (h : (P.info? t).map (fun i => (i.zero, i.size, i.bytes)) = some (some z, s, b)) : ∃ i, P.info? t = some i ∧ i.zero = some z ∧ i.size = s ∧ i.bytes = b := by
  cases e : P.info? t with
  | none => rw [e] at h; cases h
  | some i =>
    rw [e] at h
    simp only [Option.map_some, Option.some.injEq, Prod.mk.injEq] at h
    exact ⟨i, rfl, h.1, h.2.1, h.2.2⟩
theorem pnext {w w1 w2 : World} (h : Below w.heap.size w w1) (h' : Below w1.heap.size w1 w2) : Below w.heap.size w w2 := h.trans (h'.mono h.size)
end PO
namespace Go.Proofs.Ytmfmbglacebeiaa
open Go.RowKit PB PO
/-- The call returns a polynomial in canonical form. -/
def RetPoly (w : World) (l : List Int) (e : Ending) (w' : World) : Prop := ∃ v, e = .returned v ∧ CanP w.heap.size w' v l ∧ Below w.heap.size w w'
set_option maxRecDepth 100000 in
set_option maxHeartbeats 8000000 in
theorem ptrim_ref (base : Option Addr) (n c : Nat) (l : List Int) (w : World) (h : RdP w (.slice base n c) l) (hn : n ≤ 1000000) :
    Calls Try.prog 43 #[.slice base n c] w (RetPoly w (trimL l)) := by
  obtain ⟨base', b, off, c', e, hb, hlt, hc, hE⟩ := h
  simp only [Value.slice.injEq] at e
  obtain ⟨rfl, rfl, rfl⟩ := e
  obtain ⟨i0, hi, hz0, hz1, hz2⟩ := zinfo info_elt
  have HB := Lib.hid hb
  have HL := Lib.hid hlt
  have HE := Lib.hid hE
  have ht := trimN_le l
  have HT := Lib.hid (show trimTo (at0 l) l.length = trimN l from rfl)
  have HG := Lib.hid (fun (j : Nat) (hj : j < l.length) => at0_lt hj)
  have HF := Lib.hid (fun (w' : World) (v : Value) (ho : OwnP 50 w.heap.size w' v (trimN l) (at0 l)) => ho.can (trimL l) (trimL_length l) (fun j hj => by
    have h1 := at0_lt (l := trimL l) (i := j) (by rw [trimL_length]; exact hj)
    rw [h1, trimL_at0]))
  clear hb hlt hE
  generalize l.length = n at *
  generalize trimN l = t at *
  go_enter Try.func43, Try.ntmps43
  go_wp2_with fail
  go_loopw [3] (fun i wr => ∃ k : Nat, k ≤ n ∧ i = .int .i64 k ∧ Hid (trimTo (at0 l) k = t) ∧ Hid (Below w.heap.size w wr)) (fun i _ => (intOf i).toNat)
  case atStart => exact ⟨n, Nat.le_refl _, rfl, HT, Lib.hid (Below.refl _ _)⟩
  case round =>
    obtain ⟨k, hk, rfl, hT, hq⟩ := hrel
    have done : ∀ (wx : World), wx = wr ∨ Below wr.heap.size wr wx → k = t → True := fun _ _ _ => trivial
    clear done
    cases k with
    | zero =>
      obtain rfl : t = 0 := hT.out.symm
      go_wp2_with fail
      obtain ⟨wo, rfl⟩ : ∃ wo, wo = wr := ⟨_, rfl⟩
      go_loopw [4, 5] (fun o i wr => ∃ k : Nat, k ≤ 0 ∧ i = .int .i64 k ∧ OwnP 50 w.heap.size wr o k (at0 l) ∧ Hid (Below w.heap.size w wr)) (fun _ i _ => 0 - (intOf i).toNat)
      case atStart => exact ⟨0, Nat.zero_le _, rfl, OwnP.nil _ _ _ _, hq⟩
      case round =>
        obtain ⟨k, hk, rfl, hO, hq⟩ := hrel
        by_cases hkn : k < 0
        · exact absurd hkn (by omega)
        · obtain rfl : k = 0 := by omega
          go_wp2_with fail
          go_ret
          exact ⟨_, rfl, HF.out _ _ hO, hq.out⟩
    | succ j =>
      obtain rfl := HB.out (by omega)
      have hlt := HL.out (by omega)
      obtain ⟨s, q, m, d, h0, h1, hi'⟩ := (HE.out j _ (HG.out j (by omega))).kept hq.out hlt
      have HS := Lib.hid (sign_ref _ _ wr hi')
      clear hi'
      by_cases hz : at0 l j = 0
      · have HN := Lib.hid (trim_step0 hT.out hz)
        rw [sign_z hz] at HS
        go_wp2_with fail
        refine (HS.out).mono ?_
        rintro e w1 ⟨rfl, hw1⟩
        have HB1 := Lib.hid (pnext hq.out hw1)
        clear hw1 h0 h1
        go_wp2_with fail
        go_roundw
        case rel => exact ⟨j, by omega, by go_num, HN, HB1⟩
        case measure => simp [intOf]
      · have HN := Lib.hid (trim_stop hT.out hz)
        have hs0 := sign_nz hz
        generalize (at0 l j).sign = sg at *
        have hs1 : (sg == 0) = false := by simpa using hs0
        have hs2 : decide (sg = 0) = false := by simpa using hs0
        clear hs0 hz
        go_wp2_with fail
        refine (HS.out).mono ?_
        rintro e w1 ⟨rfl, hw1⟩
        have hq := Lib.hid (pnext hq.out hw1)
        obtain rfl : j + 1 = t := HN.out
        clear hw1 h0 h1 HN HS hT
        go_wp2_with fail
        obtain ⟨wo, rfl⟩ : ∃ wo, wo = w1 := ⟨_, rfl⟩
        go_loopw [4, 5] (fun o i wr => ∃ k : Nat, k ≤ (j + 1) ∧ i = .int .i64 k ∧ OwnP 50 w.heap.size wr o k (at0 l) ∧ Hid (Below w.heap.size w wr)) (fun _ i _ => (j + 1) - (intOf i).toNat)
        case atStart => exact ⟨0, Nat.zero_le _, rfl, OwnP.nil _ _ _ _, hq⟩
        case round =>
          obtain ⟨k, hk, rfl, hO, hq⟩ := hrel
          by_cases hkn : k < (j + 1)
          · skip
            obtain ⟨s, q, m, d, h0, h1, hi'⟩ := (HE.out k _ (HG.out k (by omega))).kept hq.out (HL.out (by omega))
            have HC := Lib.hid (trim_ref _ _ wr hi')
            have HOW := Lib.hid (fun g (e : Value.ownBlock _ = some g) => (hO.lt e).2)
            have HSZ := Lib.hid hq.out.size
            clear hi'
            go_wp2_with fail
            refine (HC.out).mono ?_
            rintro e w1 ⟨v1, rfl, hcan, hw1⟩
            obtain ⟨sb, qb, mb, db, gb, rfl, -, -⟩ := can_elt hcan
            have hO1 := hO.kept hw1
            have HB1 := Lib.hid (pnext hq.out hw1)
            have HSZ2 := Lib.hid (show w.heap.size ≤ w1.heap.size + 1 from Nat.le_succ_of_le HB1.out.size)
            clear hw1 h0 h1 hO
            go_wp2_with (at_builtin; refine wpList_append_elt _ rfl _ _ 30 rfl 50 i0 Try.underlying30 hi hz0 hz1 hz2 w.heap.size _ k (at0 l) rfl (hO1.kept ((Below.refl _ _).alloc (Nat.le_refl _) _)) w1.heap.size rfl sb qb mb db wr.heap.size (cell_new _ _ _ _ _ _ rfl rfl) (cell_new _ _ _ _ _ _ rfl rfl) (hcan.kept ((Below.refl _ _).alloc (Nat.le_refl _) _)) HSZ.out HOW.out (by omega) (by simp; exact HSZ2.out) ?_)
            intro v' w' hown hbl
            have HB2 := Lib.hid ((pnext HB1.out ((Below.refl _ _).alloc (Nat.le_refl _) (Obj.cells #[.bool sb, .slice qb mb db] 50))).trans hbl)
            clear hO1 hbl hcan
            go_wp2_with fail
            go_roundw
            case rel => exact ⟨k + 1, by omega, by go_num, hown, HB2⟩
            case measure => simp [intOf]; omega
          · obtain rfl : k = (j + 1) := by omega
            go_wp2_with fail
            go_ret
            exact ⟨_, rfl, HF.out _ _ hO, hq.out⟩
end Go.Proofs.Ytmfmbglacebeiaa

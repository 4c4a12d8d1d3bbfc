/-
  cut of package poly, and the first loop of the reference's Trim.
-/
import Derived.Test.YtmfmbglacebeiaaPoA
namespace PO
open Go Go.RowKit PB
theorem sign_z {z : Int} (h : z = 0) : z.sign = 0 := by rw [h]; rfl
theorem sign_nz {z : Int} (h : z ≠ 0) : z.sign ≠ 0 := by
  intro e; exact h (Int.sign_eq_zero_iff_zero.1 e)
theorem trim_step0 {f : Nat → Int} {j m : Nat} (h : trimTo f (j + 1) = m) (h0 : f j = 0) : trimTo f j = m := by
  have e : trimTo f (j + 1) = trimTo f j := by show (if f j = 0 then trimTo f j else j + 1) = _; rw [if_pos h0]
  rw [← e]; exact h
theorem trim_stop {f : Nat → Int} {j m : Nat} (h : trimTo f (j + 1) = m) (h0 : f j ≠ 0) : j + 1 = m := by
  have e : trimTo f (j + 1) = j + 1 := by show (if f j = 0 then trimTo f j else j + 1) = _; rw [if_neg h0]
  rw [← e]; exact h
end PO
namespace Go.Proofs.Ytmfmbglacebeiaa
open Go.RowKit PB PO
set_option maxRecDepth 100000 in
set_option maxHeartbeats 4000000 in
theorem cutp_any (base : Option Addr) (n c : Nat) (l : List Int) (w : World) (h : RdP w (.slice base n c) l) (hn : n ≤ 1000000) :
    Calls Try.prog 42 #[.slice base n c] w fun e w' => e = .returned (.slice base (trimN l) c) ∧ Below w.heap.size w w' := by
  obtain ⟨base', b, off, c', e, hb, hlt, hc, hE⟩ := h
  simp only [Value.slice.injEq] at e
  obtain ⟨rfl, rfl, rfl⟩ := e
  have HB := Lib.hid hb
  have HL := Lib.hid hlt
  have HE := Lib.hid hE
  have ht := trimN_le l
  have HT := Lib.hid (show trimTo (at0 l) l.length = trimN l from rfl)
  have HG := Lib.hid (fun (j : Nat) (hj : j < l.length) => at0_lt hj)
  clear hb hlt hE
  generalize l.length = n at *
  generalize trimN l = t at *
  go_enter Try.func42, Try.ntmps42
  go_wp2_with fail
  go_loopw [3] (fun i wr => ∃ k : Nat, k ≤ n ∧ i = .int .i64 k ∧ Hid (trimTo (at0 l) k = t) ∧ Hid (Below w.heap.size w wr)) (fun i _ => (intOf i).toNat)
  case atStart => exact ⟨n, Nat.le_refl _, rfl, HT, Lib.hid (Below.refl _ _)⟩
  case round =>
    obtain ⟨k, hk, rfl, hT, hq⟩ := hrel
    cases k with
    | zero =>
      obtain rfl : t = 0 := hT.out.symm
      go_wp2_with fail
      go_ret
      exact ⟨rfl, hq.out⟩
    | succ j =>
      obtain rfl := HB.out (by omega)
      have hlt := HL.out (by omega)
      obtain ⟨s, q, m, d, h0, h1, hi⟩ := (HE.out j _ (HG.out j (by omega))).kept hq.out hlt
      have HS := Lib.hid (sign_any _ _ wr hi)
      clear hi
      by_cases hz : at0 l j = 0
      · have HN := Lib.hid (trim_step0 hT.out hz)
        rw [sign_z hz] at HS
        go_wp2_with fail
        refine (HS.out).mono ?_
        rintro e w1 ⟨rfl, hw1⟩
        have HB1 := Lib.hid (hq.out.trans (hw1.mono hq.out.size))
        clear hw1 h0 h1
        go_wp2_with fail
        go_roundw
        case rel => exact ⟨j, by omega, by go_num, HN, HB1⟩
        case measure => simp [intOf]
      · have HN := Lib.hid (trim_stop hT.out hz)
        have hs0 := sign_nz hz
        generalize (at0 l j).sign = sg at *
        have hs1 : (sg == 0) = false := by simpa using hs0
        have hs2 : decide (sg = 0) = false := by simpa using hs0
        clear hs0 hz
        go_wp2_with fail
        refine (HS.out).mono ?_
        rintro e w1 ⟨rfl, hw1⟩
        have HB1 := Lib.hid (hq.out.trans (hw1.mono hq.out.size))
        clear hw1 h0 h1
        go_wp2_with fail
        go_ret
        trace_state
        exact ⟨by rw [← HN.out]; rfl, HB1.out⟩
end Go.Proofs.Ytmfmbglacebeiaa

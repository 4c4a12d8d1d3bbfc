/-
  The reference's Same at polynomials that are the same.
-/
import Derived.Test.YtmfmbglacebeiaaPoOf
namespace Go.Proofs.Ytmfmbglacebeiaa
open Go.RowKit PB PO
set_option maxRecDepth 100000 in
set_option maxHeartbeats 8000000 in
theorem psame_any (b1 b2 : Option Addr) (n1 c1 n2 c2 N1 N2 : Nat) (l : List Int) (w : World) (h1 : CanP N1 w (.slice b1 n1 c1) l) (h2 : CanP N2 w (.slice b2 n2 c2) l) (hn : l.length ≤ 1000000) :
    Calls Try.prog 14 #[.slice b1 n1 c1, .slice b2 n2 c2] w fun e w' => e = .returned (.bool true) ∧ Below w.heap.size w w' := by
  obtain ⟨x1, g1, o1, d1, e1, hb1, hl1, -, hc1, hE1⟩ := h1
  obtain ⟨x2, g2, o2, d2, e2, hb2, hl2, -, hc2, hE2⟩ := h2
  simp only [Value.slice.injEq] at e1 e2
  obtain ⟨rfl, rfl, rfl⟩ := e1
  obtain ⟨rfl, rfl, rfl⟩ := e2
  have HB1 := Lib.hid hb1
  have HB2 := Lib.hid hb2
  have HL1 := Lib.hid hl1
  have HL2 := Lib.hid hl2
  have HE1 := Lib.hid (fun (j : Nat) (hj : j < l.length) => hE1 j _ (at0_lt hj))
  have HE2 := Lib.hid (fun (j : Nat) (hj : j < l.length) => hE2 j _ (at0_lt hj))
  clear hb1 hb2 hl1 hl2 hE1 hE2
  generalize l.length = n at *
  have t0 : (n != n) = false := by simp
  go_enter Try.func14, Try.ntmps14
  go_wp2_with fail
  go_loopw [5] (fun i wr => ∃ k : Nat, k ≤ n ∧ i = .int .i64 k ∧ Hid (Below w.heap.size w wr)) (fun i _ => n - (intOf i).toNat)
  case atStart => exact ⟨0, Nat.zero_le _, rfl, Lib.hid (Below.refl _ _)⟩
  case round =>
    obtain ⟨k, hk, rfl, hq⟩ := hrel
    by_cases hkn : k < n
    · obtain rfl := HB1.out (by omega)
      obtain rfl := HB2.out (by omega)
      have q1 := (HE1.out k hkn).kept hq.out (HL1.out (by omega))
      have q2 := (HE2.out k hkn).kept hq.out (HL2.out (by omega))
      have l1 := Nat.lt_of_lt_of_le (HL1.out (by omega)) hq.out.size
      have l2 := Nat.lt_of_lt_of_le (HL2.out (by omega)) hq.out.size
      obtain ⟨s, q, m, c, a0, a1, i1⟩ := q1
      obtain ⟨t, r, p, d, a2, a3, i2⟩ := q2
      have HS := Lib.hid (fun W (hW : Below wr.heap.size wr W) => same_ref N1 N2 _ _ _ W (i1.kept hW) (i2.kept hW))
      have HK := Lib.hid (fun w' (h : Below wr.heap.size wr w') => (⟨by rw [h.cell (p := ⟨g1, _, none⟩) l1]; exact a0, by rw [h.cell (p := ⟨g1, _, none⟩) l1]; exact a1, by rw [h.cell (p := ⟨g2, _, none⟩) l2]; exact a2, by rw [h.cell (p := ⟨g2, _, none⟩) l2]; exact a3⟩ : w'.cell? ⟨g1, o1 + k * 2, none⟩ = some (.bool s) ∧ w'.cell? ⟨g1, o1 + k * 2 + 1, none⟩ = some (.slice q m c) ∧ w'.cell? ⟨g2, o2 + k * 2, none⟩ = some (.bool t) ∧ w'.cell? ⟨g2, o2 + k * 2 + 1, none⟩ = some (.slice r p d)))
      have hqq : Below wr.heap.size wr wr := Below.refl _ _
      have k1 : (0 : Int) ≤ (k : Int) := by omega
      have k2 : (k : Int) < (n : Int) := by omega
      clear i1 i2 l1 l2
      go_upto_region 6 with fail
      have hqd : Below wr.heap.size wr wr.drew := PB.below_drewN hqq 1
      go_region_held3 (fun w' => w'.cell? ⟨g1, o1 + k * 2, none⟩ = some (.bool s) ∧ w'.cell? ⟨g1, o1 + k * 2 + 1, none⟩ = some (.slice q m c) ∧ w'.cell? ⟨g2, o2 + k * 2, none⟩ = some (.bool t) ∧ w'.cell? ⟨g2, o2 + k * 2 + 1, none⟩ = some (.slice r p d))
        (first | exact HK.out _ hqq | exact HK.out _ (PB.below_drewN hqq 1) | fail)
        (first
          | (go_at_call 30; (with_reducible refine (HS.out _ hqd).mono ?_); rintro e x1 ⟨rfl, hx1⟩; have hqq : Below wr.heap.size wr x1 := (by first | exact hqq.trans (hx1.mono hqq.size) | exact hqq.trans (below_undrew (hx1.mono hqq.size))))
          | fail "no arm")
      have HB := Lib.hid (pnext hq.out hqq)
      clear a0 a1 a2 a3
      go_wp2_with fail
      go_roundw
      case rel => exact ⟨k + 1, by omega, by go_num, HB⟩
      case measure => simp [intOf]; omega
    · obtain rfl : k = n := by omega
      go_wp2_with fail
      go_ret
      exact ⟨rfl, hq.out⟩
end Go.Proofs.Ytmfmbglacebeiaa

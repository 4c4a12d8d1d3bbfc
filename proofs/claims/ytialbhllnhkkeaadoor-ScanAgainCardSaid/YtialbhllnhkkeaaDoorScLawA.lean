/-
  ScanAgain: its walk.
-/
import Derived.Test.YtialbhllnhkkeaaDoorScAgainM
import Derived.Test.YtialbhllnhkkeaaDoorScLawW
namespace SC
open Go Go.RowKit PB
theorem chain_step {s : List UInt8} {ws : List W} {k a : Nat} {x : W} (h : Chain s a (ws.drop k)) (hx : ws[k]? = some x) : a ≤ x.pos ∧ x.pos + x.text.length ≤ s.length ∧ x.text = (s.drop x.pos).take x.text.length ∧ Chain s (x.pos + x.text.length) (ws.drop (k + 1)) := by
  obtain ⟨hk, e⟩ := List.getElem?_eq_some_iff.1 hx
  rw [List.drop_eq_getElem_cons hk, e] at h
  exact ⟨h.1, h.2.1, h.2.2.1, h.2.2.2.2⟩
end SC
namespace Go.Proofs.YtialbhllnhkkeaaDoor
open Go.RowKit SC PB
set_option maxHeartbeats 16000000 in
set_option maxRecDepth 100000 in
theorem lawa_any (s : ByteArray) (w : World) (hs : s.size ≤ 9223372036854775807) :
    Calls Tryd.prog 6 #[.string s] w fun e w' => e = .returned (.bool true) ∧ Below w.heap.size w w' := by
  have HW := Lib.hid (fun w => words_any s w hs)
  have hsl : s.data.toList.length = s.size := by simp
  have HF := Lib.hid (few_words s)
  cases hr : words s.data.toList with
  | bad er p =>
    rw [hr] at HW
    have hne : ((er : Int) == 0) = false := by rw [beq_eq_false_iff_ne]; rcases words_ne hr with rfl | rfl | rfl | rfl <;> decide
    have hne2 : ((er : Int) != 0) = true := by simp [bne, hne]
    clear hr
    go_enter Tryd.func6, Tryd.ntmps6
    go_wp2_with fail
    refine (awake_any _).mono ?_
    rintro e w1 ⟨rfl, q1⟩
    go_wp2_with fail
    refine (HW.out _).mono ?_
    rintro e w2 ⟨v2, rfl, o2, p2⟩
    obtain ⟨b2, g2, c2, rfl, -, -, -, -⟩ := ownw_slice o2
    have q2 := next q1 p2
    dsimp only [WR.list, WR.err, WR.at, List.length]
    clear o2 p2 q1
    go_wp2_with fail
    go_ret
    exact ⟨rfl, q2⟩
  | ok l =>
    rw [hr] at HW HF
    have hch := words_chain hr
    have HCH := Lib.hid hch
    have HX := Lib.hid (fun (k : Nat) (hk : k < l.length) => (⟨l[k], List.getElem?_eq_getElem hk⟩ : ∃ x, l[k]? = some x))
    have hs2 : s.size ≤ 20000 := by
      unfold words at hr
      split at hr
      · cases hr
      · omega
    have HJ := Lib.hid (fun (h : s.size ≤ 10000) => joinF_chain (acc := []) (f := true) hch (by omega) (by simp) (fun _ => rfl))
    have HTx := Lib.hid (show ∀ (i : Nat) (x : SC.W), l[i]? = some x → x.text.length ≤ 1000000 from fun i x hx => by have := (chain_at hch i x hx).1; omega)
    have HWJ := Lib.hid (fun r (h : joinF [] true l = some r) => words_join h)
    clear hr hch
    go_enter Tryd.func6, Tryd.ntmps6
    go_wp2_with fail
    refine (awake_any _).mono ?_
    rintro e w1 ⟨rfl, q1⟩
    go_wp2_with fail
    refine (HW.out _).mono ?_
    rintro e w2 ⟨v2, rfl, o2, p2⟩
    obtain ⟨b2, g2, c2, rfl, e2, r2, l2, -⟩ := ownw_slice o2
    have q2 := next q1 p2
    dsimp only [WR.list, WR.err, WR.at] at *
    rw [show ((0 : Nat) : Int) = 0 from rfl]
    have hfw := HF.out
    have HR2 := Lib.hid (show WRow w2 g2 l from r2)
    have HL2 := Lib.hid l2
    have HE2 := Lib.hid e2
    have HJoin := Lib.hid (fun W' (h : Below w2.heap.size w2 W') => join_any l b2 g2 c2 W' (by omega) e2 (WRow.kept r2 h l2) (fun h0 => Nat.lt_of_lt_of_le (l2 h0) h.size) HTx.out)
    have HSL := Lib.hid hsl
    clear o2 p2 q1 r2 l2 e2 HF HTx hsl
    generalize hn : l.length = n at *
    have HN := Lib.hid hn
    clear hn
    go_wp2_with fail
    go_loopw [6, 7] (fun la i wr => ∃ k a : Nat, k ≤ n ∧ i = .int .i64 k ∧ la = .int .i64 a ∧ Hid (Chain s.data.toList a (l.drop k)) ∧ Hid (Below w2.heap.size w2 wr)) (fun _ i _ => n - (intOf i).toNat)
    case atStart => exact ⟨0, 0, Nat.zero_le _, rfl, rfl, Lib.hid (by rw [List.drop_zero]; exact HCH.out), Lib.hid (Below.refl _ _)⟩
    case round =>
      clear HCH
      obtain ⟨k, a, hk, rfl, rfl, hC, hwr⟩ := hrel
      by_cases hp : k < n
      · obtain rfl := HE2.out (by omega)
        obtain ⟨x, hx⟩ := HX.out k hp
        obtain ⟨x0, x1, x2, x3⟩ := (HR2.out k x hx).kept hwr.out (HL2.out (by omega))
        obtain ⟨h1, h2, h3, h4⟩ := chain_step hC.out hx
        rw [HSL.out] at h2
        obtain ⟨kd, T, v, p⟩ := x
        dsimp only at x0 x1 x2 x3 h1 h2 h3 h4
        have hTs : (⟨T.toArray⟩ : ByteArray).size = T.length := size_mk T
        have hTx : s.extract p (p + T.length) = (⟨T.toArray⟩ : ByteArray) := by rw [extract_mk, ← h3]
        obtain ⟨TB, hTB⟩ : ∃ TB : ByteArray, (⟨T.toArray⟩ : ByteArray) = TB := ⟨_, rfl⟩
        rw [hTB] at hTs hTx x1
        rw [← hTs] at hTx h2 h4
        have HG := Lib.hid h4
        clear h3 h4 hTB hTs hx x0 x2
        have b1 : (a : Int) ≤ p := by omega
        have b2 : (p : Int) + TB.size ≤ s.size := by omega
        have d1 : decide (p < a) = false := by simp; omega
        have d2 : decide ((s.size : Int) < (p : Int) + TB.size) = false := by simp; omega
        go_wp2_with fail
        have hwrap : IntKind.i64.wrap ((p : Int) + TB.size) = (p : Int) + TB.size := IntWalk.i64_in _ (by omega)
        have c0 : (0 : Int) ≤ (p : Int) + TB.size := by omega
        have c1 : ((p : Int) + TB.size).toNat = p + TB.size := by omega
        have c3 : p ≤ p + TB.size := by omega
        have c4 : (p : Int) ≤ (p : Int) + TB.size := by omega
        go_quiet (fail)
        clear hwrap c0 c1 c3 c4 d1 d2 hTx x3 h1 h2
        go_wp2_with fail
        go_roundw
        case rel => exact ⟨k + 1, p + TB.size, by omega, by go_num, by go_num, HG, Lib.hid (PB.below_drewN hwr.out _)⟩
        case measure => simp [intOf]; omega
      · have HJ2 := Lib.hid (HJoin.out wr hwr.out)
        have q3 := Lib.hid (next q2 hwr.out)
        clear HJoin hC HR2 HL2 HE2 HX
        cases hR : joinF [] true l with
        | none =>
          have b1 : (10000 : Int) < s.size := by
            by_cases h : s.size ≤ 10000
            · exact absurd hR (HJ.out h)
            · omega
          rw [hR] at HJ2
          clear hR HJ HWJ
          go_wp2_with fail
          refine (HJ2.out).mono ?_
          rintro e w3 ⟨rfl, p3⟩
          have q4 := Lib.hid (next q3.out p3)
          clear p3
          dsimp only [joinV]
          go_wp2_with fail
          go_ret
          exact ⟨rfl, q4.out⟩
        | some r =>
          obtain ⟨m, hm1, hm2, hm3⟩ := HWJ.out r hR
          rw [hR] at HJ2
          have hml := hm2.length
          rw [HN.out] at hml
          have hrl := (joinF_text hR (by simp)).2
          have HWm := Lib.hid (fun w => words_any ⟨r.toArray⟩ w (by rw [size_mk]; omega))
          rw [show (⟨r.toArray⟩ : ByteArray).data.toList = r from rfl, hm1] at HWm
          have hmc := words_chain hm1
          have HMt := Lib.hid (show ∀ (i : Nat) (x : SC.W), m[i]? = some x → x.text.length ≤ 1000000 from fun i x hx => by have := (chain_at hmc i x hx).1; omega)
          have HM3 := Lib.hid hm3
          have HML := Lib.hid hml
          clear hR HJ HWJ hm1 hm2 hm3 hmc hml
          generalize hT : (⟨r.toArray⟩ : ByteArray) = TB at *
          have HTB := Lib.hid hT
          clear hT
          go_wp2_with fail
          refine (HJ2.out).mono ?_
          rintro e w3 ⟨rfl, p3⟩
          have q4 := Lib.hid (next q3.out p3)
          clear p3
          dsimp only [joinV]
          rw [HTB.out]
          go_wp2_with fail
          refine (HWm.out _).mono ?_
          rintro e w4 ⟨v4, rfl, o4, p4⟩
          obtain ⟨b4, g4, c4, rfl, e4, r4, l4, -⟩ := ownw_slice o4
          have q5 := Lib.hid (next q4.out p4)
          dsimp only [WR.list, WR.err, WR.at] at *
          have HJm := Lib.hid (fun W' (h : Below w4.heap.size w4 W') => join_any m b4 g4 c4 W' (by have := HML.out; omega) e4 (WRow.kept r4 h l4) (fun h0 => Nat.lt_of_lt_of_le (l4 h0) h.size) HMt.out)
          rw [HM3.out] at HJm
          clear o4 p4 e4 r4 l4
          have hml := HML.out
          generalize m.length = n2 at *
          subst hml
          go_wp2_with fail
          refine (HJm.out _ (Below.refl _ _)).mono ?_
          rintro e w5 ⟨rfl, p5⟩
          have q6 := Lib.hid (next q5.out p5)
          clear p5
          dsimp only [joinV]
          rw [HTB.out]
          go_wp2_with fail
          go_ret
          exact ⟨rfl, q6.out⟩
end Go.Proofs.YtialbhllnhkkeaaDoor

/-
  Joining words: the reference.
-/
import Derived.Test.YtialbhllnhkkeaaDoorScRJoinM
import Derived.Laws.Concat
namespace Go.Proofs.YtialbhllnhkkeaaDoor
open Go.RowKit SC PB
set_option maxHeartbeats 32000000 in
set_option maxRecDepth 100000 in
theorem rjoin_z (l : List (W × Int)) (ws : List W) (hws : l.map Prod.fst = ws) (base : Option Addr) (g off c : Nat) (w : World) (hn : ws.length ≤ 1000000) (h1 : ws.length ≠ 0 → base = some ⟨g, off, none⟩) (hr : ZRow w g off l) (hg : ws.length ≠ 0 → g < w.heap.size) (ht : ∀ (i : Nat) (x : W), ws[i]? = some x → x.text.length ≤ 1000) :
    Calls Tryd.prog 15 #[.slice base ws.length c] w fun e w' => e = .returned (joinV (joinF [] true ws)) ∧ Below w.heap.size w w' := by
  have HB := Lib.hid h1
  have HR := Lib.hid hr
  have HG := Lib.hid hg
  have HT := Lib.hid ht
  have HX := Lib.hid (fun (k : Nat) (hk : k < ws.length) => (show ∃ z : W × Int, l[k]? = some z ∧ ws[k]? = some z.1 by
    have hk2 : k < l.length := by rw [← hws] at hk; simpa using hk
    exact ⟨l[k], List.getElem?_eq_getElem hk2, by rw [← hws, List.getElem?_map, List.getElem?_eq_getElem hk2]; rfl⟩))
  clear hws
  generalize hR : joinF [] true ws = R at *
  have HR0 := Lib.hid (show joinF (⟨#[]⟩ : ByteArray).data.toList (decide ((0 : Nat) = 0)) (ws.drop 0) = R by rw [List.drop_zero]; exact hR)
  have HE := Lib.hid (show ∀ (acc : List UInt8) (first : Bool) (k : Nat) (r : Option (List UInt8)), joinF acc first (ws.drop k) = r → ¬ k < ws.length → r = some acc from fun _ _ _ _ h hk => joinF_end h hk)
  generalize hN : ws.length = n at *
  clear h1 hr hg ht hR hN
  go_enter Tryd.func15, Tryd.ntmps15
  go_wp2_with fail
  go_loopw [4, 5] (fun sv i wr => ∃ (k : Nat) (S : ByteArray), k ≤ n ∧ i = .int .i64 k ∧ sv = .string S ∧ Hid (Below w.heap.size w wr) ∧ Hid (joinF S.data.toList (decide (k = 0)) (ws.drop k) = R) ∧ Hid (S.size ≤ 20000)) (fun _ i _ => n - (intOf i).toNat)
  case atStart => exact ⟨0, ⟨#[]⟩, Nat.zero_le _, rfl, rfl, Lib.hid (Below.refl _ _), HR0, Lib.hid (by decide)⟩
  case round =>
    clear HR0
    obtain ⟨k, S, hk, rfl, rfl, hwr, hJ, hA⟩ := hrel
    by_cases hp : k < n
    · obtain rfl := HB.out (by omega)
      obtain ⟨⟨x, pz⟩, hz, hx⟩ := HX.out k hp
      obtain ⟨x0, x1, x2, x3⟩ := (HR.out k _ hz).kept hwr.out (HG.out (by omega))
      dsimp only at hx x0 x1 x2 x3
      clear x3
      have hlt : g < wr.heap.size := Nat.lt_of_lt_of_le (HG.out (by omega)) hwr.out.size
      have htx := HT.out k x hx
      have HBad := Lib.hid (fun h1 => joinF_bad hJ.out hx h1)
      have HLong := Lib.hid (fun h1 => joinF_long hJ.out hx h1)
      have HGood := Lib.hid (fun h1 h2 => joinF_good hJ.out hx h1 h2)
      have HZ := Lib.hid (fun W' (h : Below wr.heap.size wr W') => ((HR.out k _ hz).kept (next hwr.out h) (HG.out (by omega))))
      clear hx hz
      obtain ⟨kd, T, v, p0⟩ := x
      dsimp only at x0 x1 x2 htx HBad HLong HGood HZ
      have hTs : (⟨T.toArray⟩ : ByteArray).size = T.length := size_mk T
      have hTl : (⟨T.toArray⟩ : ByteArray).data.toList = T := rfl
      have hRW := fun W' => rwords_any (⟨T.toArray⟩ : ByteArray) W' (by rw [hTs]; omega)
      rw [hTl] at hRW
      have HRW := Lib.hid hRW
      clear hRW
      obtain ⟨TB, hTB⟩ : ∃ TB : ByteArray, (⟨T.toArray⟩ : ByteArray) = TB := ⟨_, rfl⟩
      rw [hTB] at hTs hTl x1 HRW
      rw [← hTs] at htx HLong HGood
      have HTB := Lib.hid hTB
      have HTl := Lib.hid hTl
      have HTs := Lib.hid hTs
      clear hTB hTs hTl
      cases hw : words T with
      | bad er p =>
        rw [hw] at HRW HBad
        have HRn := Lib.hid (HBad.out rfl)
        have hne : ((er : Int) == 0) = false := by rw [beq_eq_false_iff_ne]; rcases words_ne hw with rfl | rfl | rfl | rfl <;> decide
        have hne2 : ((er : Int) != 0) = true := by simp [bne, hne]
        clear hw HBad HLong HGood
        go_wp2_with fail
        refine (HRW.out _).mono ?_
        rintro e w1 ⟨v1, rfl, o1, p1⟩
        have q1 := next hwr.out p1
        dsimp only [WR.err, WR.at]
        clear o1 p1
        go_wp2_with fail
        go_quiet (fail)
        go_wp2_with fail
        go_ret2
        exact ⟨by rw [HRn.out]; rfl, PB.below_drewN q1 _⟩
      | ok m =>
        rw [hw] at HRW HBad HGood
        by_cases hm1 : m.length = 1
        · obtain ⟨y, rfl⟩ : ∃ y, m = [y] := by
            match m, hm1 with
            | [y], _ => exact ⟨y, rfl⟩
          clear hm1 hw
          obtain ⟨yk, yT, yn, yp⟩ := y
          have eT : decide (yT = T) = ((⟨yT.toArray⟩ : ByteArray).toList == TB.toList) := by
            rw [Lib.toList_data, Lib.toList_data, HTl.out]
            show decide (yT = T) = (yT == T)
            by_cases h : yT = T
            · subst h; simp
            · rw [decide_eq_false h, beq_eq_false_iff_ne.2 h]
          have HO : Hid (okW kd T v (.ok [⟨yk, yT, yn, yp⟩]) = (decide (yk = kd) && (((⟨yT.toArray⟩ : ByteArray).toList == TB.toList) && decide (yn = v)))) := Lib.hid (by rw [← eT]; rfl)
          clear eT
          go_wp2_with fail
          refine (HRW.out _).mono ?_
          rintro e w1 ⟨v1, rfl, o1, p1⟩
          have q1 := Lib.hid (next hwr.out p1)
          obtain ⟨b1, g1, c1, rfl, e1, r1, l1, -⟩ := ownw_slice o1
          dsimp only [WR.list, WR.err, WR.at, List.length] at *
          obtain rfl := e1 (by decide)
          obtain ⟨y0, y1, y2, _⟩ := r1 0 _ rfl
          obtain ⟨z0, z1, z2, _⟩ := HZ.out w1 p1
          dsimp only at z0 z1 z2 y0 y1 y2
          rw [HTB.out] at z1
          simp only [Nat.zero_mul, Nat.zero_add] at y0 y1 y2
          have hkn : (k : Int) < n := by omega
          generalize (⟨yT.toArray⟩ : ByteArray) = YB at *
          clear o1 p1 r1 l1 x0 x1 x2
          by_cases hkk : yk = kd
          · have t1 : ((yk : Int) == kd) = true := beq_iff_eq.2 hkk
            have t2 : ((yk : Int) != kd) = false := by simp [bne, t1]
            cases htt : (YB.toList == TB.toList) with
            | true =>
              have t3 : (YB.toList != TB.toList) = false := by simp [bne, htt]
              by_cases hnn : yn = v
              · have t4 : ((yn : Int) == v) = true := beq_iff_eq.2 hnn
                have t5 : ((yn : Int) != v) = false := by simp [bne, t4]
                have HG1 := Lib.hid (HGood.out (by rw [HO.out, htt, decide_eq_true hkk, decide_eq_true hnn]; rfl))
                clear HBad HGood HO
                have HA2 := hA.out
                clear hkk hnn
                go_wp2_with fail
                go_quiet (fail)
                clear t1 t2 t3 t4 t5 htt y0 y1 y2
                by_cases h0 : k = 0
                · subst h0
                  have HD := Lib.hid (show (S ++ TB).data.toList = sepB (decide ((0 : Nat) = 0)) S.data.toList ++ T by rw [ByteArray.data_append, Array.toList_append, HTl.out]; rfl)
                  have HSz := Lib.hid (show (sepB (decide ((0 : Nat) = 0)) S.data.toList).length + TB.size = (S ++ TB).size by rw [ByteArray.size_append]; show S.data.toList.length + _ = _; simp)
                  simp only [Nat.zero_mul, Nat.add_zero] at z0 z1 z2
                  by_cases hbig : (S ++ TB).size ≤ 20000
                  · have HG2 := Lib.hid (HG1.out (by rw [HSz.out]; exact hbig))
                    have hb : ¬ (20000 : Int) < ((S ++ TB).size : Int) := by omega
                    have hbs := hb
                    rw [ByteArray.size_append, Int.natCast_add] at hbs
                    have HBg := Lib.hid hbig
                    clear hbig HG1 HLong
                    go_wp2_with fail
                    go_roundw
                    case rel => exact ⟨0 + 1, S ++ TB, by omega, by first | rfl | go_num, rfl, Lib.hid (PB.below_drewN q1.out _), by rw [HD.out]; exact HG2, HBg⟩
                    case measure => simp [intOf]; omega
                  · have HRn := Lib.hid (HLong.out (by rw [HSz.out]; omega))
                    have hb : (20000 : Int) < ((S ++ TB).size : Int) := by omega
                    have hbs := hb
                    rw [ByteArray.size_append, Int.natCast_add] at hbs
                    clear hbig HG1 HLong
                    go_wp2_with fail
                    go_ret2
                    exact ⟨by rw [HRn.out]; rfl, PB.below_drewN q1.out _⟩
                · have hk0 : 0 < (k : Int) := by omega
                  have HD := Lib.hid (show (S ++ (⟨#[32]⟩ : ByteArray) ++ TB).data.toList = sepB (decide (k = 0)) S.data.toList ++ T by rw [ByteArray.data_append, Array.toList_append, ByteArray.data_append, Array.toList_append, HTl.out, decide_eq_false h0]; rfl)
                  have HSz := Lib.hid (show (sepB (decide (k = 0)) S.data.toList).length + TB.size = (S ++ (⟨#[32]⟩ : ByteArray) ++ TB).size by rw [ByteArray.size_append, ByteArray.size_append, decide_eq_false h0]; show (S.data.toList ++ [32]).length + _ = _; rw [List.length_append]; simp; rfl)
                  have hss : (S ++ (⟨#[32]⟩ : ByteArray)).size = S.size + 1 := by rw [ByteArray.size_append]; rfl
                  have HSS := Lib.hid hss
                  have hs3 : (S ++ (⟨#[32]⟩ : ByteArray) ++ TB).size = S.size + 1 + TB.size := by rw [ByteArray.size_append, hss]
                  have HS3 := Lib.hid hs3
                  clear hs3
                  have hss2 : (S ++ (⟨#[32]⟩ : ByteArray)).size ≤ 20001 := by omega
                  clear hss
                  by_cases hbig : (S ++ (⟨#[32]⟩ : ByteArray) ++ TB).size ≤ 20000
                  · have HG2 := Lib.hid (HG1.out (by rw [HSz.out]; exact hbig))
                    have hb : ¬ (20000 : Int) < (S.size : Int) + 1 + TB.size := by have := HS3.out; omega
                    have HBg := Lib.hid hbig
                    clear hbig HG1 HLong
                    go_wp2_with fail
                    go_roundw
                    case rel => exact ⟨k + 1, S ++ (⟨#[32]⟩ : ByteArray) ++ TB, by omega, by go_num, rfl, Lib.hid (PB.below_drewN q1.out _), by rw [HD.out]; exact HG2, HBg⟩
                    case measure => simp [intOf]; omega
                  · have HRn := Lib.hid (HLong.out (by rw [HSz.out]; omega))
                    have hb : (20000 : Int) < (S.size : Int) + 1 + TB.size := by have := HS3.out; omega
                    clear hbig HG1 HLong
                    go_wp2_with fail
                    go_ret2
                    exact ⟨by rw [HRn.out]; rfl, PB.below_drewN q1.out _⟩
              · have t4 : ((yn : Int) == v) = false := beq_eq_false_iff_ne.2 hnn
                have t5 : ((yn : Int) != v) = true := by simp [bne, t4]
                have HRn := Lib.hid (HBad.out (by rw [HO.out, decide_eq_false hnn, Bool.and_false, Bool.and_false]))
                clear HBad HLong HGood HO hkk hnn
                go_wp2_with fail
                go_quiet (fail)
                go_wp2_with fail
                go_ret2
                exact ⟨by rw [HRn.out]; rfl, PB.below_drewN q1.out _⟩
            | false =>
              have t3 : (YB.toList != TB.toList) = true := by simp [bne, htt]
              have HRn := Lib.hid (HBad.out (by rw [HO.out, htt, Bool.false_and, Bool.and_false]))
              clear HBad HLong HGood HO hkk
              go_wp2_with fail
              go_quiet (fail)
              go_wp2_with fail
              go_ret2
              exact ⟨by rw [HRn.out]; rfl, PB.below_drewN q1.out _⟩
          · have t1 : ((yk : Int) == kd) = false := beq_eq_false_iff_ne.2 hkk
            have t2 : ((yk : Int) != kd) = true := by simp [bne, t1]
            have HRn := Lib.hid (HBad.out (by rw [HO.out, decide_eq_false hkk, Bool.false_and]))
            clear HBad HLong HGood HO hkk
            go_wp2_with fail
            go_quiet (fail)
            go_wp2_with fail
            go_ret2
            exact ⟨by rw [HRn.out]; rfl, PB.below_drewN q1.out _⟩
        · have HRn := Lib.hid (HBad.out (by
            match m, hm1 with
            | [], _ => rfl
            | [_], h => exact absurd rfl h
            | _ :: _ :: _, _ => rfl))
          have t1 : ((m.length : Int) == 1) = false := beq_eq_false_iff_ne.2 (by omega)
          have t2 : ((m.length : Int) != 1) = true := by simp [bne, t1]
          clear hw HBad HLong HGood hm1
          go_wp2_with fail
          refine (HRW.out _).mono ?_
          rintro e w1 ⟨v1, rfl, o1, p1⟩
          have q1 := next hwr.out p1
          obtain ⟨b1, g1, c1, rfl, -, -, -, -⟩ := ownw_slice o1
          dsimp only [WR.list, WR.err, WR.at] at *
          clear o1 p1
          go_wp2_with fail
          go_quiet (fail)
          go_wp2_with fail
          go_ret2
          exact ⟨by rw [HRn.out]; rfl, PB.below_drewN q1 _⟩
    · have HRn := Lib.hid (HE.out _ _ _ _ hJ.out hp)
      go_wp2_with fail
      go_ret2
      exact ⟨by rw [HRn.out]; rfl, hwr.out⟩
end Go.Proofs.YtialbhllnhkkeaaDoor

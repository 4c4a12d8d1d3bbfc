/-
  ScanComments: its walk.
-/
import Derived.Test.YtialbhllnhkkeaaDoorScShift
import Derived.Test.YtialbhllnhkkeaaDoorScChain
import Derived.Laws.Concat
namespace SC
open Go Go.RowKit PB
end SC
namespace Go.Proofs.YtialbhllnhkkeaaDoor
open Go.RowKit SC PB
set_option maxHeartbeats 8000000 in
set_option maxRecDepth 100000 in
theorem lawc_any (s note : ByteArray) (w : World) (hs : s.size ≤ 9223372036854775807) (hn : note.size ≤ 9223372036854775807) :
    Calls Tryd.prog 7 #[.string s, .string note] w fun e w' => e = .returned (.bool true) ∧ Below w.heap.size w w' := by
  by_cases h1 : s.size ≤ 4000 ∧ note.size ≤ 200
  · obtain ⟨h1, h2⟩ := h1
    have b1 : ¬ 4000 < (s.size : Int) := by omega
    have b2 : ¬ 200 < (note.size : Int) := by omega
    go_enter Tryd.func7, Tryd.ntmps7
    go_wp2_with fail
    refine (awake_any _).mono ?_
    rintro e w1 ⟨rfl, q1⟩
    go_wp2_with fail
    clear b1 b2
    go_loop [5] (fun i => ∃ k : Nat, k ≤ note.size ∧ i = .int .i64 k ∧ Hid (∀ j, (hj : j < note.size) → j < k → note[j]'hj ≠ 10)) (fun i => note.size - (intOf i).toNat)
    case atStart => exact ⟨0, Nat.zero_le _, rfl, Lib.hid (fun j _ h => by omega)⟩
    case round =>
      obtain ⟨k, hk, rfl, hA⟩ := hrel
      by_cases hp : k < note.size
      · by_cases h10 : note[k]'hp = 10
        · have t1 : (((note[k]'hp).toNat : Int) == 10) = true := by rw [h10]; decide
          clear h10
          go_wp2_with fail
          refine (awake_any _).mono ?_
          rintro e w2 ⟨rfl, q2⟩
          go_wp2_with fail
          go_ret
          exact ⟨rfl, next q1 q2⟩
        · have t1 : (((note[k]'hp).toNat : Int) == 10) = false := nb (n := 10) h10 (by decide)
          have HG := Lib.hid (show ∀ j, (hj : j < note.size) → j < k + 1 → note[j]'hj ≠ 10 from fun j hj h => by
            by_cases e : j = k
            · subst e; exact h10
            · exact hA.out j hj (by omega))
          clear h10
          go_wp2_with fail
          go_round
          case rel => exact ⟨k + 1, by omega, by go_num, HG⟩
          case measure => simp [intOf]; omega
      · have hN : ∀ b ∈ note.data.toList, b ≠ 10 := fun b hb => by
          obtain ⟨j, hj, e⟩ := List.getElem_of_mem hb
          have hj2 : j < note.size := by simpa using hj
          have := hA.out j hj2 (by omega)
          rw [← e]; exact this
        have hw := words_comment hN (s := s.data.toList) (by simpa using h1) (by simpa using h2)
        have hL : note.data.toList.length = note.size := by simp
        rw [hL] at hw
        have HW := Lib.hid (fun w => words_any s w hs)
        have hHs : ((⟨#[35]⟩ : ByteArray) ++ note ++ (⟨#[10]⟩ : ByteArray)).size = note.size + 2 := by
          rw [ByteArray.size_append, ByteArray.size_append]
          show 1 + note.size + 1 = _
          omega
        have hHl : ((⟨#[35]⟩ : ByteArray) ++ note ++ (⟨#[10]⟩ : ByteArray)).data.toList = 35 :: note.data.toList ++ [10] := by
          simp [ByteArray.data_append]
        have HV := Lib.hid (fun w => words_any ((⟨#[35]⟩ : ByteArray) ++ note ++ (⟨#[10]⟩ : ByteArray) ++ s) w (by rw [ByteArray.size_append]; omega))
        have hHx : ((⟨#[35]⟩ : ByteArray) ++ note ++ (⟨#[10]⟩ : ByteArray) ++ s).data.toList = (35 :: note.data.toList ++ [10]) ++ s.data.toList := by
          rw [ByteArray.data_append, Array.toList_append, hHl]
        rw [hHx, hw] at HV
        clear hN hw hL hHl hHx hA
        have HHs := Lib.hid hHs
        clear hHs
        go_wp2_with fail
        refine (HW.out _).mono ?_
        rintro e w2 ⟨v2, rfl, o2, p2⟩
        have q2 := next q1 p2
        clear q1 p2
        generalize hH : ((⟨#[35]⟩ : ByteArray) ++ note ++ (⟨#[10]⟩ : ByteArray)) = H at *
        have hHb : H.size ≤ 202 := by have := HHs.out; omega
        have HF := Lib.hid (few_words s)
        clear hH
        cases hr : words s.data.toList with
        | bad er p =>
          rw [hr] at HV o2
          have hb := words_at hr
          have hpb : p ≤ 4000 := by simp at hb; omega
          have hne : ((er : Int) == 0) = false := by rw [beq_eq_false_iff_ne]; rcases words_ne hr with rfl | rfl | rfl | rfl <;> decide
          have hne2 : ((er : Int) != 0) = true := by simp [bne, hne]
          obtain ⟨b2, g2, c2, rfl, -, -, -, -⟩ := ownw_slice o2
          dsimp only [WR.list, WR.err, WR.at, List.length]
          have HP := Lib.hid (show ((p + (note.size + 2) : Nat) : Int) = (p : Int) + H.size by have := HHs.out; omega)
          clear o2 hr hb
          go_wp2_with fail
          refine (HV.out _).mono ?_
          rintro e w3 ⟨v3, rfl, o3, p3⟩
          obtain ⟨b3, g3, c3, rfl, -, -, -, -⟩ := ownw_slice o3
          have q3 := next q2 p3
          dsimp only [shR, WR.list, WR.err, WR.at, List.length]
          rw [HP.out]
          clear o3 p3 q2
          go_wp2_with fail
          go_loop [13] (fun i => i = .int .i64 0) (fun _ => 0)
          case atStart => rfl
          case round =>
            obtain rfl := hrel
            go_wp2_with fail
            go_ret
            exact ⟨rfl, q3⟩
        | ok l =>
          rw [hr] at HV o2 HF
          have hch := words_chain hr
          obtain ⟨b2, g2, c2, rfl, e2, r2, l2, -⟩ := ownw_slice o2
          dsimp only [WR.list, WR.err, WR.at] at *
          rw [show ((0 : Nat) : Int) = 0 from rfl]
          have HX := Lib.hid (fun (k : Nat) (hk : k < l.length) => (⟨l[k], List.getElem?_eq_getElem hk⟩ : ∃ x, l[k]? = some x))
          have HCH := Lib.hid (fun i x h => chain_at hch i x h)
          clear hr hch
          go_wp2_with fail
          refine (HV.out _).mono ?_
          rintro e w3 ⟨v3, rfl, o3, p3⟩
          have q3 := next q2 p3
          obtain ⟨b3, g3, c3, rfl, e3, r3, l3, -⟩ := ownw_slice o3
          dsimp only [shR, WR.list, WR.err, WR.at] at *
          rw [List.length_map] at e3 l3 ⊢
          rw [show ((0 : Nat) : Int) = 0 from rfl]
          have HR2 := Lib.hid (WRow.kept r2 p3 l2)
          have HL2 := Lib.hid (fun h0 => Nat.lt_of_lt_of_le (l2 h0) p3.size)
          have HR3 := Lib.hid (show WRow w3 g3 (l.map (shW (note.size + 2))) from r3)
          have HL3 := Lib.hid l3
          have HE2 := Lib.hid e2
          have HE3 := Lib.hid e3
          have hfw := HF.out
          clear o2 o3 p3 q2 r2 l2 e2 r3 l3 e3
          generalize hn : l.length = n at *
          go_wp2_with fail
          go_loopw [13] (fun i wr => ∃ k : Nat, k ≤ n ∧ i = .int .i64 k ∧ Hid (Below w3.heap.size w3 wr)) (fun i _ => n - (intOf i).toNat)
          case atStart => exact ⟨0, Nat.zero_le _, rfl, Lib.hid (Below.refl _ _)⟩
          case round =>
            obtain ⟨k2, hk2, rfl, hwr⟩ := hrel
            by_cases hp2 : k2 < n
            · obtain rfl := HE2.out (by omega)
              obtain rfl := HE3.out (by omega)
              obtain ⟨x, hx⟩ := HX.out k2 hp2
              obtain ⟨x0, x1, x2, x3⟩ := (HR2.out k2 x hx).kept hwr.out (HL2.out (by omega))
              obtain ⟨y0, y1, y2, y3⟩ := (HR3.out k2 (shW (note.size + 2) x) (by rw [List.getElem?_map, hx]; rfl)).kept hwr.out (HL3.out (by omega))
              have hb := (HCH.out k2 x hx).1
              rw [show s.data.toList.length = s.size by simp] at hb
              clear hx
              obtain ⟨kd, T, v, p⟩ := x
              dsimp only [shW] at x0 x1 x2 x3 y0 y1 y2 y3 hb
              rw [show ((p + (note.size + 2) : Nat) : Int) = (p : Int) + H.size by have := HHs.out; omega] at y3
              have hpb : p ≤ 4000 := by omega
              generalize (⟨T.toArray⟩ : ByteArray) = TB at *
              clear x0 y0 x2 y2 hb
              go_wp2_with fail
              go_quiet (fail)
              go_wp2_with fail
              go_roundw
              case rel => exact ⟨k2 + 1, by omega, by go_num, Lib.hid (PB.below_drewN hwr.out _)⟩
              case measure => simp [intOf]; omega
            · go_wp2_with fail
              go_ret
              exact ⟨rfl, next q3 hwr.out⟩
  · by_cases h2 : 4000 < s.size
    · have b1 : 4000 < (s.size : Int) := by omega
      go_enter Tryd.func7, Tryd.ntmps7
      go_wp2_with fail
      refine (awake_any _).mono ?_
      rintro e w1 ⟨rfl, q1⟩
      go_wp2_with fail
      refine (awake_any _).mono ?_
      rintro e w2 ⟨rfl, q2⟩
      go_wp2_with fail
      go_ret
      exact ⟨rfl, next q1 q2⟩
    · have b1 : ¬ 4000 < (s.size : Int) := by omega
      have b2 : 200 < (note.size : Int) := by omega
      go_enter Tryd.func7, Tryd.ntmps7
      go_wp2_with fail
      refine (awake_any _).mono ?_
      rintro e w1 ⟨rfl, q1⟩
      go_wp2_with fail
      refine (awake_any _).mono ?_
      rintro e w2 ⟨rfl, q2⟩
      go_wp2_with fail
      go_ret
      exact ⟨rfl, next q1 q2⟩
end Go.Proofs.YtialbhllnhkkeaaDoor

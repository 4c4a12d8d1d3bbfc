/-
  ScanJoins: its walk.
-/
import Derived.Test.YtialbhllnhkkeaaDoorScRJoin
import Derived.Test.YtialbhllnhkkeaaDoorScLawW
import Derived.Deep.RegionHeld3
import Derived.Deep.AppendLies
namespace SC
open Go Go.RowKit PB
theorem AllSame.get : ∀ {m ws : List W} {i : Nat} {x : W}, AllSame m ws → ws[i]? = some x → ∃ y, m[i]? = some y ∧ SameW y x
  | [], [], _, _, _, hx => by simp at hx
  | y :: s, z :: t, 0, x, h, hx => by
    obtain rfl : z = x := by simpa using hx
    exact ⟨y, rfl, h.1⟩
  | y :: s, z :: t, i + 1, x, h, hx => by
    obtain ⟨u, hu, hs⟩ := AllSame.get (i := i) h.2 (by simpa using hx)
    exact ⟨u, by simpa using hu, hs⟩
theorem step_append_z {P : Program} {w : World} {ops : Array Oper} {o : Oper} {a : Act} {K : Act → World → Prop} {Q : Exit → Act → World → Prop} {Ep : Prop} (hgd : o.guard = none) (s x : Operand) (t : TypeId)
    (ho : o.op = .call { callee := .builtin .append, args := #[s, x], argTypes := #[t, t] }) (E : TypeId) (i : TypeInfo) (ht : P.underlying t = some (.slice E)) (hi : P.info? E = some i) (hz : i.zero = some (wordV 0 ⟨#[]⟩ 0 0)) (hsize : i.size = 4) (hby : i.bytes = 40)
    (N : Nat) (v : Value) (ws : List (W × Int)) (y : W × Int) (hs : a.eval s = v) (hown : OwnZ E N w v ws) (b : Nat) (hx : a.eval x = .slice (some ⟨b, 0, none⟩) 1 1) (hb : ∀ j u, (zc y)[j]? = some u → w.cell? ((⟨b, 0, none⟩ : Addr).add j) = some u) (hn : ws.length ≤ 1000000) (hN : N ≤ w.heap.size)
    (h : ∀ v' w', OwnZ E N w' v' (ws ++ [y]) → Below N w w' → w.grownBy w' v.ownBlock → K (a.put o.dst v') w') : if Region.wanted o (yielded ops a.tmps) = true then Oper.wp P o a w K Q else Ep := by
  have hw : Region.wanted o (yielded ops a.tmps) = true := by simp [Region.wanted, hgd]
  rw [if_pos hw]
  refine wp_append_own w s x t ho N E i (wordV 0 ⟨#[]⟩ 0 0) 4 40 ht hi hz hsize hby rfl (by decide) v ws.length (zlist ws) hs hown ⟨b, 0, none⟩ 1 1 (zc y) hx rfl hb ?_ (by unfold maxLen; omega) (by omega) hN ?_
  · intro u hu
    simp [zc] at hu
    rcases hu with rfl | rfl | rfl | rfl <;> rfl
  · intro v' w' k1 k2 _
    refine h v' w' ?_ ((Below.refl _ _).grown k2 hN (fun q hq => (World.ownsRow.lt hown q hq).1)) k2
    show w'.ownsRow N E 4 v' (ws ++ [y]).length (zlist (ws ++ [y]))
    rw [zlist_append, List.length_append]
    have e : zlist [y] = zc y := by simp [zlist]
    rw [e]
    exact k1
end SC
namespace Go.Proofs.YtialbhllnhkkeaaDoor
open Go.RowKit SC PB
set_option maxHeartbeats 16000000 in
set_option maxRecDepth 100000 in
theorem lawj_main (l : List (W × Int)) (base : Option Addr) (g off c : Nat) (w : World) (hn : l.length ≤ 200) (h1 : l.length ≠ 0 → base = some ⟨g, off, none⟩) (hr : ZRow w g off l) (hg : l.length ≠ 0 → g < w.heap.size) :
    Calls Tryd.prog 5 #[.slice base l.length c] w fun e w' => e = .returned (.bool true) ∧ Below w.heap.size w w' := by
  obtain ⟨i0, hi, hz0, hz1, hz2⟩ := info_parts info_rword
  have HB := Lib.hid h1
  have HR := Lib.hid hr
  have HG := Lib.hid hg
  have HX := Lib.hid (fun (k : Nat) (hk : k < l.length) => (⟨l[k], List.getElem?_eq_getElem hk⟩ : ∃ x, l[k]? = some x))
  generalize hN : l.length = n at *
  have HN := Lib.hid hN
  have b1 : ¬ (200 : Int) < n := by omega
  clear h1 hr hg hN
  go_enter Tryd.func5, Tryd.ntmps5
  go_wp2_with fail
  refine (awake_any _).mono ?_
  rintro e w1 ⟨rfl, q1⟩
  have HQ1 := Lib.hid q1
  clear q1
  go_wp2_with fail
  clear b1
  go_loopw [3, 4] (fun mv i wr => ∃ k : Nat, k ≤ n ∧ i = .int .i64 k ∧ OwnZ 34 w1.heap.size wr mv (l.take k) ∧ Hid (Below w1.heap.size w1 wr) ∧ Hid (∀ (i : Nat) (x : W × Int), i < k → l[i]? = some x → x.1.text.length ≤ 400)) (fun _ i _ => n - (intOf i).toNat)
  case atStart => exact ⟨0, Nat.zero_le _, rfl, by rw [List.take_zero]; exact OwnZ.nil _ _ _, Lib.hid (Below.refl _ _), Lib.hid (fun i x h => by omega)⟩
  case round =>
    obtain ⟨k, hk, rfl, hO, hwr, hA⟩ := hrel
    by_cases hp : k < n
    · obtain rfl := HB.out (by omega)
      obtain ⟨z, hz⟩ := HX.out k hp
      have hq := next HQ1.out hwr.out
      obtain ⟨x0, x1, x2, x3⟩ := (HR.out k _ hz).kept hq (HG.out (by omega))
      have hlt : g < wr.heap.size := Nat.lt_of_lt_of_le (HG.out (by omega)) hq.size
      have HTk : Hid (l.take k ++ [z] = l.take (k + 1)) := Lib.hid (by
        obtain ⟨hk2, e⟩ := List.getElem?_eq_some_iff.1 hz
        rw [List.take_succ_eq_append_getElem hk2, e])
      have HA2 := Lib.hid (fun (h : z.1.text.length ≤ 400) => (show ∀ (i : Nat) (x : W × Int), i < k + 1 → l[i]? = some x → x.1.text.length ≤ 400 from fun i x hi hx => by
        by_cases e : i = k
        · subst e; rw [hz] at hx; cases hx; exact h
        · exact hA.out i x (by omega) hx))
      have HTl := Lib.hid (show (l.take k).length ≤ 1000000 by rw [List.length_take]; omega)
      have hTs := size_mk z.1.text
      have HZ := Lib.hid (one_z · z 34)
      have HKX := Lib.hid (show ∀ W', Below w1.heap.size w1 W' → ZAt W' g off k z from fun W' h => (HR.out k _ hz).kept (next HQ1.out h) (HG.out (by omega)))
      have hbw := hwr.out
      have HWs := Lib.hid hwr.out.size
      clear hz hq
      obtain ⟨⟨kd, T, v, p0⟩, p⟩ := z
      dsimp only [ZAt] at x0 x1 x2 x3 HA2 hTs HZ HKX
      obtain ⟨TB, hTB⟩ : ∃ TB : ByteArray, (⟨T.toArray⟩ : ByteArray) = TB := ⟨_, rfl⟩
      rw [hTB] at x1 hTs HZ HKX
      rw [← hTs] at HA2
      clear hTs
      have HTB := Lib.hid hTB
      clear hTB
      by_cases h4 : TB.size ≤ 400
      · have HA3 := Lib.hid (HA2.out h4)
        have b4 : ¬ (400 : Int) < TB.size := by omega
        clear HA2 h4
        go_wp2_with fail
        go_region_held3 (fun w' => w'.cell? ⟨g, off + k * 4, none⟩ = some (.int .i64 kd) ∧ w'.cell? ⟨g, off + k * 4 + 1, none⟩ = some (.string TB) ∧ w'.cell? ⟨g, off + k * 4 + 2, none⟩ = some (.int .i64 v) ∧ w'.cell? ⟨g, off + k * 4 + 3, none⟩ = some (.int .i64 p))
          (first | exact ⟨x0, x1, x2, x3⟩ | exact HKX.out _ hba | exact HKX.out _ (hbw.alloc HWs.out _) | exact HKX.out _ (PB.below_drewN (hbw.alloc HWs.out _) 1))
          (first
            | (refine step_append_z (by rfl) _ _ 27 (by rfl) 34 i0 Tryd.underlying27 hi hz0 hz1 hz2 w1.heap.size _ (l.take k) (⟨kd, T, v, p0⟩, p) (by rfl) (by exact World.ownsRow.alloc hO _) _ (by rfl) (by exact HZ.out _) HTl.out (by have := HWs.out; simp; omega) ?_
               intro v2 w5 hown hbl hg
               have hba : Below w1.heap.size w1 w5 := (by first | exact (hbw.alloc HWs.out _).trans hbl | exact (hbw.drew.alloc HWs.out _).trans hbl)
               rw [HTk.out] at hown
               clear hbl hg)
            | fail "no arm")
        have HBA := Lib.hid hba
        clear hba hbw
        go_wp2_with fail
        go_roundw
        case rel => exact ⟨k + 1, by omega, by go_num, hown, HBA, HA3⟩
        case measure => simp [intOf]; omega
      · have b4 : (400 : Int) < TB.size := by omega
        clear HA2 h4
        go_wp2_with fail
        refine (awake_any _).mono ?_
        rintro e w2 ⟨rfl, q2⟩
        go_wp2_with fail
        go_ret
        exact ⟨rfl, next (next HQ1.out hwr.out) q2⟩
    · obtain rfl : k = n := by omega
      have hlk : l.take k = l := List.take_of_length_le (by have := HN.out; omega)
      rw [hlk] at hO
      obtain ⟨b2, g2, c2, rfl, e2, r2, l2, -⟩ := ownz_slice hO
      rw [HN.out] at e2 l2 ⊢
      have hwl : (l.map Prod.fst).length = k := by rw [List.length_map]; exact HN.out
      have htx : ∀ (i : Nat) (x : W), (l.map Prod.fst)[i]? = some x → x.text.length ≤ 400 := fun i x hx => by
        rw [List.getElem?_map] at hx
        obtain ⟨z, hz, rfl⟩ := Option.map_eq_some_iff.1 hx
        exact hA.out i z (by have := (List.getElem?_eq_some_iff.1 hz).1; have := HN.out; omega) hz
      have hq := next HQ1.out hwr.out
      have hrl := HR.out.kept hq (fun h => HG.out (by have := HN.out; omega))
      have hgl : k ≠ 0 → g < wr.heap.size := fun h => Nat.lt_of_lt_of_le (HG.out h) hq.size
      have HJ := Lib.hid (fun (W' : World) (h : Below wr.heap.size wr W') => join_z l (l.map Prod.fst) rfl base g off c W' (by omega) (by rw [hwl]; exact HB.out) (hrl.kept h (by rw [HN.out]; exact hgl)) (by rw [hwl]; exact fun h0 => Nat.lt_of_lt_of_le (hgl h0) h.size) (fun i x hx => by have := htx i x hx; omega))
      have HRJ := Lib.hid (fun (W' : World) (h : Below wr.heap.size wr W') => rjoin_z l (l.map Prod.fst) rfl b2 g2 0 c2 W' (by omega) (by rw [hwl]; exact e2) (r2.kept h (by rw [HN.out]; exact l2)) (by rw [hwl]; exact fun h0 => Nat.lt_of_lt_of_le (l2 h0) h.size) (fun i x hx => by have := htx i x hx; omega))
      have HRL := Lib.hid (fun (W' : World) (h : Below wr.heap.size wr W') => hrl.kept h (by rw [HN.out]; exact hgl))
      rw [hwl] at HJ HRJ
      have HQ := Lib.hid hq
      have HWL := Lib.hid hwl
      clear hO hlk e2 r2 l2 htx hq hrl hgl hwl HR HG HX HN hA
      cases hR : joinF [] true (l.map Prod.fst) with
      | none =>
        rw [hR] at HJ HRJ
        clear hR
        go_wp2_with fail
        refine (HJ.out _ (Below.refl _ _)).mono ?_
        rintro e w3 ⟨rfl, p3⟩
        dsimp only [joinV]
        go_wp2_with fail
        refine (HRJ.out _ p3).mono ?_
        rintro e w4 ⟨rfl, p4⟩
        have q4 := next HQ.out (next p3 p4)
        dsimp only [joinV]
        clear p3 p4
        go_wp2_with fail
        go_ret
        exact ⟨rfl, q4⟩
      | some r =>
        obtain ⟨m, hm1, hm2, -⟩ := words_join hR
        rw [hR] at HJ HRJ
        have hml := hm2.length
        rw [HWL.out] at hml
        have hrl := (joinF_text hR (by simp)).2
        have HWm := Lib.hid (fun w => words_any ⟨r.toArray⟩ w (by rw [size_mk]; omega))
        rw [show (⟨r.toArray⟩ : ByteArray).data.toList = r from rfl, hm1] at HWm
        have HS := Lib.hid (fun (i : Nat) (x : W) (hx : (l.map Prod.fst)[i]? = some x) => hm2.get hx)
        have HZl := Lib.hid (fun (i : Nat) (hi : i < k) => (show ∃ z, l[i]? = some z ∧ (l.map Prod.fst)[i]? = some z.1 by
          have h2 : i < l.length := by have := HWL.out; rw [List.length_map] at this; omega
          exact ⟨l[i], List.getElem?_eq_getElem h2, by rw [List.getElem?_map, List.getElem?_eq_getElem h2]; rfl⟩))
        have HML := Lib.hid hml
        clear hR hm1 hm2 hml hrl
        generalize hT : (⟨r.toArray⟩ : ByteArray) = TB at *
        have HTB := Lib.hid hT
        clear hT
        go_wp2_with fail
        refine (HJ.out _ (Below.refl _ _)).mono ?_
        rintro e w3 ⟨rfl, p3⟩
        dsimp only [joinV]
        rw [HTB.out]
        go_wp2_with fail
        refine (HRJ.out _ p3).mono ?_
        rintro e w4 ⟨rfl, p4⟩
        have p5 := next p3 p4
        dsimp only [joinV]
        rw [HTB.out]
        clear p3 p4
        go_wp2_with fail
        refine (HWm.out _).mono ?_
        rintro e w5 ⟨v5, rfl, o5, p6⟩
        obtain ⟨b5, g5, c5, rfl, e5, r5, l5, -⟩ := ownw_slice o5
        have p7 := next p5 p6
        have q7 := Lib.hid (next HQ.out p7)
        have HR5 := Lib.hid (show WRow w5 g5 m from r5)
        have HL5 := Lib.hid l5
        have HRLx := Lib.hid (HRL.out _ p7)
        have hgl5 : Hid (∀ x : W × Int, l[0]? = some x → g < w5.heap.size) := Lib.hid (fun x hx => by
          have := (HRLx.out 0 x hx).1
          exact World.block_lt_of_cell? w5 _ this)
        have HE5 := Lib.hid e5
        dsimp only [WR.list, WR.err, WR.at] at *
        rw [show ((0 : Nat) : Int) = 0 from rfl]
        rw [HML.out] at HL5 HE5 ⊢
        clear o5 p5 p6 p7 e5 r5 l5
        go_wp2_with fail
        go_loopw [12] (fun i wx => ∃ j : Nat, j ≤ k ∧ i = .int .i64 j ∧ Hid (Below w5.heap.size w5 wx)) (fun i _ => k - (intOf i).toNat)
        case atStart => exact ⟨0, Nat.zero_le _, rfl, Lib.hid (Below.refl _ _)⟩
        case round =>
          obtain ⟨j, hj, rfl, hwx⟩ := hrel
          by_cases hpj : j < k
          · obtain rfl := HE5.out (by omega)
            obtain rfl := HB.out (by omega)
            obtain ⟨z, hz, hzf⟩ := HZl.out j hpj
            obtain ⟨y, hy, hs1, hs2, hs3⟩ := HS.out j _ hzf
            obtain ⟨z0, hz0, -⟩ := HZl.out 0 (by omega)
            obtain ⟨y0, y1, y2, y3⟩ := (HR5.out j y hy).kept hwx.out (HL5.out (by omega))
            obtain ⟨x0, x1, x2, x3⟩ := (HRLx.out j z hz).kept hwx.out (hgl5.out z0 hz0)
            rw [hs2] at y1
            rw [hs3] at y2
            clear y0 y3 x0 x3 hz hy hzf hs1 hs2 hs3 hz0
            generalize (⟨z.1.text.toArray⟩ : ByteArray) = ZB at *
            generalize z.1.num = zn at *
            go_wp2_with fail
            go_quiet (fail)
            go_wp2_with fail
            go_roundw
            case rel => exact ⟨j + 1, by omega, by go_num, Lib.hid (PB.below_drewN hwx.out _)⟩
            case measure => simp [intOf]; omega
          · go_wp2_with fail
            go_ret
            exact ⟨rfl, next q7.out hwx.out⟩
set_option maxHeartbeats 2000000 in
theorem lawj_any (l : List (W × Int)) (base : Option Addr) (g off n c : Nat) (w : World) (hl : l.length = n) (h1 : n ≠ 0 → base = some ⟨g, off, none⟩) (hg : n ≠ 0 → g < w.heap.size) (hr : ZRow w g off l) :
    Calls Tryd.prog 5 #[.slice base n c] w fun e w' => e = .returned (.bool true) ∧ Below w.heap.size w w' := by
  by_cases h : n ≤ 200
  · subst hl
    exact lawj_main l base g off c w h h1 hr hg
  · have b1 : (200 : Int) < n := by omega
    clear hl h1 hg hr
    go_enter Tryd.func5, Tryd.ntmps5
    go_wp2_with fail
    refine (awake_any _).mono ?_
    rintro e w1 ⟨rfl, q1⟩
    go_wp2_with fail
    refine (awake_any _).mono ?_
    rintro e w2 ⟨rfl, q2⟩
    go_wp2_with fail
    go_ret
    exact ⟨rfl, next q1 q2⟩
end Go.Proofs.YtialbhllnhkkeaaDoor

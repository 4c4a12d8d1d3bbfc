/-
  The reference's Parse.
  The law's places, at the same list twice.
  The text of statements is read back as the same statements: whole.
-/
import Derived.Test.YtdikoeeoglfmaaaDoorM20
import Derived.Test.YtdikoeeoglfmaaaDoorM21
import Derived.Test.YtdikoeeoglfmaaaDoorM23
import Derived.Test.YtdikoeeoglfmaaaDoorM24
import Derived.Test.YtdikoeeoglfmaaaDoorM26
namespace SS
open Go Go.RowKit PB SC
theorem fit_at {s : List UInt8} {ws : List W} (h : words s = .ok ws) (i : Nat) (y : W) (hy : ws[i]? = some y) : Fit y := (chain_at (words_chain h) i y hy).2.2
end SS
namespace Go.Proofs.YtdikoeeoglfmaaaDoor
open Go.RowKit SC PB SS
set_option maxHeartbeats 16000000 in
set_option maxRecDepth 100000 in
theorem rparse_any (s : ByteArray) (w : World) (hs : s.size ≤ 9223372036854775807) :
    Calls Tryd.prog 9 #[.string s] w (RetS (parse s.data.toList) w) := by
  obtain ⟨m0, hm, mt0, mt1, mt2⟩ := info_parts info_ritem
  have HW := Lib.hid (fun w => rwords_any s w hs)
  have hsl : s.data.toList.length = s.size := by simp
  cases hr : words s.data.toList with
  | bad er pe =>
    rw [hr] at HW
    have HP := Lib.hid (show parse s.data.toList = .bad er pe by unfold parse; rw [hr])
    rw [HP.out]
    have hne : (er != 0) = true := by rcases words_ne hr with rfl | rfl | rfl | rfl <;> decide
    clear hr HP hsl
    go_enter Tryd.func9, Tryd.ntmps9
    go_wp2_with fail
    refine (HW.out _).mono ?_
    rintro e w1 ⟨v1, rfl, o1, q1⟩
    obtain ⟨b1, g1, c1, rfl, -, -, -, -⟩ := ownw_slice o1
    dsimp only [WR.list, WR.err, WR.at, List.length]
    clear o1
    go_wp2_with fail
    go_ret3
    exact ⟨_, rfl, rdi_nil _, q1⟩
  | ok ws =>
    rw [hr] at HW
    have hfew := words_few hr
    have hsp : parse s.data.toList = itemsP s.size [] ws := by unfold parse; rw [hr, ← hsl]
    rw [hsp]
    generalize hsz : (s.size : Int) = sz at *
    generalize hR : itemsP sz [] ws = R
    have HR0 := Lib.hid hR
    have HWS := Lib.hid (show ws.length ≤ 1000000 by omega)
    have HF := Lib.hid (fun i y hy => fit_at hr i y hy)
    have HX := Lib.hid (fun (k : Nat) (hk : k < ws.length) => (⟨ws[k], List.getElem?_eq_getElem hk⟩ : ∃ x, ws[k]? = some x))
    clear hr hsl hsp hR
    go_enter Tryd.func9, Tryd.ntmps9
    go_wp2_with fail
    refine (HW.out _).mono ?_
    rintro e w1 ⟨v1, rfl, o1, q1⟩
    obtain ⟨b1, g1, c1, rfl, hb1, hrow1, hlt1, -⟩ := ownw_slice o1
    dsimp only [WR.list, WR.err, WR.at] at *
    have hz : ((0 : Int) != 0) = false := by decide
    have HRR0 := Lib.hid (show RR 68 (w1.alloc (.cells #[.slice b1 ws.length c1, .int .i64 0, .int .i64 sz] 68)) w1.heap.size g1 sz ws 0 from
      ⟨⟨b1, c1, bt_new rfl, hb1⟩, WRow.kept hrow1 (sb_alloc (Below.refl _ _) _) hlt1, fun h => by have := hlt1 h; simp; omega⟩)
    have HGP := Lib.hid hlt1
    have HQ1 := Lib.hid (sb_alloc q1 (.cells #[.slice b1 ws.length c1, .int .i64 0, .int .i64 sz] 68))
    have hpw := q1.size
    clear o1 q1 hb1 hrow1 hlt1
    go_wp2_with fail
    generalize hp : w1.heap.size = p at *
    clear hp
    go_loopw [9] (fun ov wr => ∃ (k : Nat) (acc : List I), k ≤ ws.length ∧ acc.length ≤ 400 ∧ Hid (itemsP sz acc (ws.drop k) = R) ∧ Hid (OwnIs 3 74 43 (p + 1) wr ov acc) ∧ Hid (RR 68 wr p g1 sz ws k) ∧ Hid (Below w.heap.size w wr)) (fun _ wr => ws.length + 1 - rpos wr p)
    case atStart => exact ⟨0, [], Nat.zero_le _, by decide, by rw [List.drop_zero]; exact HR0, Lib.hid (OwnIs.nil _ _ _ _ _), HRR0, HQ1⟩
    case round =>
      clear HR0 HRR0 HQ1 HW
      obtain ⟨k, acc, hk, ha4, hR, hown, hrr, hq⟩ := hrel
      obtain ⟨vb, vc, rfl⟩ := hown.out.form
      obtain ⟨c1', cf1, cl1⟩ := hrr.out.free _ (Below.refl _ _)
      have HPOS := Lib.hid hrr.out.pos
      have hk6 : k ≤ 1000000 := by omega
      by_cases hkn : k < ws.length
      · obtain ⟨y, hy⟩ := HX.out k hkn
        have hki : (k : Int) < ws.length := by omega
        have hR2 := hR.out
        rw [drop_at hy] at hR2
        obtain ⟨h9, hbad, hok⟩ := itemsP_round hR2
        rw [← drop_at hy] at hbad hok
        have hgp := HGP.out (by omega)
        have HST := Lib.hid (fun W h => rstat_any p g1 k sz ws y hy HWS.out HF.out hgp W h)
        have HAT := Lib.hid (fun (i : Nat) (hi : i ≤ ws.length) W h => rat_any 68 p g1 sz ws i W h HWS.out hi)
        by_cases h4 : acc.length = 400
        · have hV := h9 h4
          have hA := HAT.out k hk _ hrr.out
          rw [posAt_some hy] at hA
          have HA := Lib.hid hA
          subst hV
          rw [h4]
          clear h9 hbad hok hR2 hR hy hA
          go_wp2_with fail
          refine HA.out.mono ?_
          rintro e w2 ⟨rfl, q2⟩
          go_wp2_with fail
          go_ret3
          exact ⟨_, rfl, rdi_nil _, next hq.out q2⟩
        · have h4i : ((acc.length : Int) == 400) = false := beq_eq_false_iff_ne.2 (by omega)
          cases hip : itemP sz (ws.drop k) with
          | bad er pe =>
            have hV := hbad h4 er pe hip
            have hne : (er != 0) = true := by simp [bne, itemP_ne hip]
            rw [hip] at HST
            subst hV
            clear h9 hbad hok hR2 hR hy hip h4
            go_wp2_with fail
            refine (HST.out _ hrr.out).mono ?_
            rintro e w2 ⟨a2, n2, s2, s3, s4, d2, k2, rfl, hk2, hpos, hrr2, hb2⟩
            have HA := Lib.hid (fun W h => HAT.out k2 hk2 W h)
            rw [hpos] at HA
            have HRR2 := Lib.hid hrr2
            have HB2 := Lib.hid (hb2.below (N := w.heap.size) (by omega) hq.out.size)
            have hqs := hq.out.size
            have hqs2 := hb2.size
            clear hpos hrr2 hb2 c1' cf1 cl1
            go_wp2_with fail
            refine (HA.out _ (HRR2.out.kept (sb_alloc (Below.refl _ _) _))).mono ?_
            rintro e w3 ⟨rfl, q3⟩
            go_wp2_with fail
            go_ret3
            exact ⟨_, rfl, rdi_nil _, (hq.out.trans HB2.out).trans ((next (sb_alloc (Below.refl _ _) _) q3).mono (by omega))⟩
          | ok x rest =>
            have hnk := hok h4 x rest hip
            have hle := itemP_len hip
            rw [hip] at HST
            have HNK := Lib.hid hnk
            have HLE := Lib.hid hle
            clear h9 hbad hok hR2 hy hip hnk hle
            go_wp2_with fail
            refine (HST.out _ hrr.out).mono ?_
            rintro e w2 ⟨u2, k2, rfl, hd2, hk2, hown2, hrr2, hb2⟩
            obtain ⟨ub, uc, rfl⟩ := hown2.form
            unfold iagg
            obtain ⟨zs, hzl, hzr, hzz⟩ := (hown.out.but (p := p) (by omega) hb2).kept (sb_alloc (Below.refl _ _) (.cells #[.string x.word, .string x.name, .slice ub x.keys.length uc, .int .i64 x.pos] 43))
            have hpl : p < wr.heap.size := cl1
            have hqs := hq.out.size
            have hqs2 := hb2.size
            have HB2 := Lib.hid (sb_alloc (Below.refl w2.heap.size w2) (.cells #[.string x.word, .string x.name, .slice ub x.keys.length uc, .int .i64 x.pos] 43))
            have HQ2 := Lib.hid ((hq.out.trans (hb2.below (N := w.heap.size) (by omega) hq.out.size)).trans (HB2.out.mono (by omega)))
            have HRR2 := Lib.hid (hrr2.kept HB2.out)
            have HO2 := Lib.hid ((hown2.mono (N' := p + 1) (by omega)).kept HB2.out)
            have HXA := Lib.hid (show Blk (w2.alloc (.cells #[.string x.word, .string x.name, .slice ub x.keys.length uc, .int .i64 x.pos] 43)) w2.heap.size #[.string x.word, .string x.name, .slice ub x.keys.length uc, .int .i64 x.pos] from blk_new rfl)
            have hsz2 := HB2.out.size
            have HZR := Lib.hid hzr
            have HZZ := Lib.hid hzz
            have HZL := Lib.hid hzl
            have HD2 := Lib.hid hd2
            have hk1 : k + 1 ≤ k2 := by
              have := HLE.out
              rw [← hd2, List.length_drop, List.length_drop] at this
              omega
            clear hb2 hown2 hrr2 hzr hzz hzl hd2 c1' cf1 cl1 HB2
            go_upto_region 10 with fail
            generalize w2.alloc (.cells #[.string x.word, .string x.name, .slice ub x.keys.length uc, .int .i64 x.pos] 43) = w3 at *
            obtain ⟨x0, x1, x2, x3⟩ := Blk4 HXA.out
            go_wp2_with (at_builtin; refine wpList_append_own_at _ rfl _ _ 27 rfl (p + 1) 43 m0 (.agg #[.string ⟨#[]⟩, .string ⟨#[]⟩, .slice none 0 0, .int .i64 0]) 4 64 Tryd.underlying27 hm mt0 mt1 mt2 rfl (by decide) _ acc.length (ics acc zs) rfl (World.ownsRow.alloc HZR.out _) ⟨w3.heap.size, 0, none⟩ 1 1 [.string x.word, .string x.name, .slice ub x.keys.length uc, .int .i64 x.pos] rfl rfl (cells_news _ _ _) (fun u hu => by simp at hu; rcases hu with rfl | rfl | rfl | rfl <;> rfl) (by unfold maxLen; omega) (by omega) (by simp; omega) ?_)
            intro v9 w9 hown9 hg9 _ _
            have hb9 : Below (p + 1) w3 w9 := ((Below.refl (p + 1) w3).alloc (by omega) _).trans ((Below.refl (p + 1) _).grown hg9 (by simp; omega) (fun q hq => (World.ownsRow.lt HZR.out q hq).1))
            have HI9 := Lib.hid (show OwnIs 3 74 43 (p + 1) w9 v9 (acc ++ [x]) from
              OwnIs.snoc HZL.out (World.ownsRow.alloc HZR.out _) (fun i k z a b => (HZZ.out i k z a b).kept (sb_alloc (Below.refl _ _) _)) (HO2.out.kept (sb_alloc (Below.refl _ _) _)) (by decide) (by decide) hg9 hown9)
            have HBB := Lib.hid hb9
            clear hown9 hg9 hb9 x0 x1 x2 x3
            go_wp2_with fail
            have HRR9 := Lib.hid (HRR2.out.below (N := p + 1) (by omega) hgp HBB.out)
            go_roundw
            case rel => exact ⟨_, _, _, _, _, _, _, _, _, _, _, _, _, _, _, _, _, _, _, _, _, _, _, _, _, _, _, _, _, _, _, _, ⟨k2, acc ++ [x], hk2, by simp; omega, by rw [HD2.out]; exact HNK, HI9, HRR9, Lib.hid (HQ2.out.trans (HBB.out.mono (by omega)))⟩, rfl⟩
            case measure => rw [HRR9.out.pos, HPOS.out]; omega
      · have hke : k = ws.length := by omega
        have hki : ¬ (k : Int) < ws.length := by omega
        have hR2 := hR.out
        rw [hke, List.drop_length] at hR2
        have hV : R = .ok acc := hR2.symm
        subst hV
        clear hR2 hR
        go_wp2_with fail
        go_ret3
        exact ⟨_, rfl, hown.out.rd, hq.out⟩
end Go.Proofs.YtdikoeeoglfmaaaDoor

namespace SS
open Go Go.RowKit PB SC
/-- Where a statement and its keys stand in their text, in memory. -/
def PRow (w : World) (b o : Nat) (x : I) : Prop := b < w.heap.size ∧ ∃ zb kb ko zc, (x.keys.length ≠ 0 → zb = some ⟨kb, ko, none⟩) ∧ (x.keys.length ≠ 0 → kb < w.heap.size) ∧ ∀ W, Below w.heap.size w W → W.cell? ⟨b, o + 2, none⟩ = some (.slice zb x.keys.length zc) ∧ W.cell? ⟨b, o + 3, none⟩ = some (.int .i64 x.pos) ∧
      ∀ k y, x.keys[k]? = some y → W.cell? ⟨kb, ko + k * 3 + 2, none⟩ = some (.int .i64 y.pos)
theorem prow_of {w : World} {b off : Nat} {l : List I} (h2 : l.length ≠ 0 → b < w.heap.size) (h4 : ∀ j x, l[j]? = some x → ∃ z, IAt w b (off + j * 4) x z) (i : Nat) (x : I) (hi : l[i]? = some x) : PRow w b (off + i * 4) x := by
  obtain ⟨z, hz⟩ := h4 i x hi
  have hlt := h2 (by have := (List.getElem?_eq_some_iff.1 hi).1; omega)
  obtain ⟨zb, kb, ko, zc, rfl, a1, a2, a4⟩ := hz.2.2.2.2
  refine ⟨hlt, zb, kb, ko, zc, a1, a2, fun W h => ?_⟩
  obtain ⟨e1, e2, e3, e4, _⟩ := hz.kept h hlt
  refine ⟨e3, e4, fun k y hy => ?_⟩
  obtain ⟨u, hu⟩ := a4 k y hy
  exact (hu.kept h (a2 (by have := (List.getElem?_eq_some_iff.1 hy).1; omega))).2.2.1
end SS
namespace Go.Proofs.YtdikoeeoglfmaaaDoor
open Go.RowKit SC PB SS
set_option maxHeartbeats 8000000 in
set_option maxRecDepth 100000 in
theorem places_any (l : List I) (u v : Value) (w : World) (hu : RdI w u l) (hv : RdI w v l) (hn : l.length ≤ 1000000) (hok : ∀ x ∈ l, x.keys.length ≤ 1000000) :
    Calls Tryd.prog 12 #[u, v] w fun e w' => e = .returned (.bool true) ∧ Below w.heap.size w w' := by
  obtain ⟨base1, b1, off1, cp1, rfl, h1, h2, h4⟩ := hu
  obtain ⟨base2, b2, off2, cp2, rfl, k1, k2, k4⟩ := hv
  have HI1 := Lib.hid (prow_of h2 h4)
  have HI2 := Lib.hid (prow_of k2 k4)
  have HB1 := Lib.hid h1
  have HB2 := Lib.hid k1
  have HX := Lib.hid (fun (k : Nat) (hk : k < l.length) => (⟨l[k], List.getElem?_eq_getElem hk, hok _ (List.getElem_mem hk)⟩ : ∃ x, l[k]? = some x ∧ x.keys.length ≤ 1000000))
  clear h1 h2 h4 k1 k2 k4 hok
  generalize hnl : l.length = n at *
  clear hnl
  go_enter Tryd.func12, Tryd.ntmps12
  go_wp2_with fail
  go_loopw [5] (fun i wr => ∃ (k : Nat), k ≤ n ∧ i = .int .i64 k ∧ Hid (Below w.heap.size w wr)) (fun i _ => n - (intOf i).toNat)
  case atStart => exact ⟨0, Nat.zero_le _, rfl, Lib.hid (Below.refl _ _)⟩
  case round =>
    obtain ⟨i, hin, rfl, hwr⟩ := hrel
    by_cases hkn : i < n
    · obtain rfl := HB1.out (by omega)
      obtain rfl := HB2.out (by omega)
      obtain ⟨x, hx, hxk⟩ := HX.out i hkn
      obtain ⟨hlt1, zb1, kb1, ko1, zc1, a1, a2, a3⟩ := HI1.out i x hx
      obtain ⟨hlt2, zb2, kb2, ko2, zc2, e1, e2, e3⟩ := HI2.out i x hx
      obtain ⟨c2, c3, _⟩ := a3 _ hwr.out
      obtain ⟨d2, d3, _⟩ := e3 _ hwr.out
      have hl1 : b1 < wr.heap.size := Nat.lt_of_lt_of_le hlt1 hwr.out.size
      have hl2 : b2 < wr.heap.size := Nat.lt_of_lt_of_le hlt2 hwr.out.size
      have HA1 := Lib.hid a1
      have HA2 := Lib.hid a2
      have HA3 := Lib.hid a3
      have HE1 := Lib.hid e1
      have HE2 := Lib.hid e2
      have HE3 := Lib.hid e3
      have HXX := Lib.hid (fun (k : Nat) (hk : k < x.keys.length) => (⟨x.keys[k], List.getElem?_eq_getElem hk⟩ : ∃ y, x.keys[k]? = some y))
      have hik : (i : Int) < n := by omega
      have hHL1 := Lib.hid hlt1
      have hHL2 := Lib.hid hlt2
      clear a1 a2 a3 e1 e2 e3 hx hlt1 hlt2
      generalize x.pos = xp at *
      generalize hkn2 : x.keys.length = kn at *
      clear hkn2
      have hself : (xp != xp) = false := by simp [bne]
      go_wp2_with fail
      go_quiet (fail)
      clear c2 c3 d2 d3 hl1 hl2
      go_wp2_with fail
      obtain ⟨wo, hwo⟩ : ∃ wo, wo = wr := ⟨_, rfl⟩
      subst hwo
      go_loopw [6] (fun kv wq => ∃ (k : Nat), k ≤ kn ∧ kv = .int .i64 k ∧ Hid (Below w.heap.size w wq)) (fun kv _ => kn - (intOf kv).toNat)
      case atStart => exact ⟨0, Nat.zero_le _, rfl, Lib.hid (PB.below_drewN hwr.out _)⟩
      case round =>
        obtain ⟨k, hk, rfl, hwq⟩ := hrel
        obtain ⟨c2, c3, c4⟩ := HA3.out _ hwq.out
        obtain ⟨d2, d3, d4⟩ := HE3.out _ hwq.out
        have hl1 : b1 < wr.heap.size := Nat.lt_of_lt_of_le hHL1.out hwq.out.size
        have hl2 : b2 < wr.heap.size := Nat.lt_of_lt_of_le hHL2.out hwq.out.size
        by_cases hkm : k < kn
        · obtain rfl := HA1.out (by omega)
          obtain rfl := HE1.out (by omega)
          obtain ⟨y, hy⟩ := HXX.out k hkm
          have c5 := c4 k y hy
          have d5 := d4 k y hy
          have hkl1 : kb1 < wr.heap.size := Nat.lt_of_lt_of_le (HA2.out (by omega)) hwq.out.size
          have hkl2 : kb2 < wr.heap.size := Nat.lt_of_lt_of_le (HE2.out (by omega)) hwq.out.size
          clear c4 d4 hy
          generalize y.pos = yp at *
          have hyself : (yp != yp) = false := by simp [bne]
          have hkmi : (k : Int) < kn := by omega
          go_wp2_with fail
          go_quiet (fail)
          go_wp2_with fail
          go_roundw
          case rel => exact ⟨k + 1, by omega, by go_num, Lib.hid (PB.below_drewN hwq.out _)⟩
          case measure => simp [intOf]; omega
        · have hke : k = kn := by omega
          subst hke
          have hkmi : ¬ (k : Int) < k := by omega
          clear c4 d4
          go_wp2_with fail
          go_roundw
          case rel => exact ⟨i + 1, by omega, by go_num, hwq⟩
          case measure => simp [intOf]; omega
    · have hie : i = n := by omega
      subst hie
      go_wp2_with fail
      go_ret
      exact ⟨rfl, hwr.out⟩
end Go.Proofs.YtdikoeeoglfmaaaDoor

namespace SS
open SC
def fullI (x : I) : List UInt8 := x.word.data.toList ++ nameT x.name ++ keysT x.keys ++ [59, 10]
def fullL : List I → List UInt8
  | [] => []
  | x :: l => fullI x ++ fullL l
/-- A statement that can be written. -/
structure WfI (x : I) : Prop where
  row : rowOf x.word ≠ []
  tbl : x.word = bTable → x.name = ⟨#[]⟩
  nam : ¬ x.word = bTable → Wd 1 x.name.data.toList 0
  keys : KWf x.word [] x.keys
/-- The words of a statement. -/
def ItemW (ws : List W) (x : I) : Prop := ∃ y nm kw s, ws = y :: (nm ++ (kw ++ [s])) ∧ bs y.text = x.word ∧ (x.word = bTable → nm = []) ∧ (¬ x.word = bTable → ∃ q, nm = [q] ∧ q.kind = 1 ∧ bs q.text = x.name) ∧ KeysW kw x.keys ∧ s.kind = 3
theorem sepx_59 (r : List UInt8) : SepX (59 :: r) := .inr ⟨59, r, rfl, .inr (.inl rfl)⟩
theorem words_semi (r : List UInt8) (a : Nat) (acc : List W) : wordsR (59 :: 10 :: r) a acc = wordsR r (a + 2) (acc ++ [⟨3, [59], 0, a⟩]) := by
  have h : wordsR (59 :: 10 :: r) a acc = wordsR (10 :: r) (a + 1) (acc ++ [⟨3, [59], 0, a⟩]) := by
    have := w_step (k := 3) (l := [59]) (v := 0) (r := 10 :: r) ⟨rfl, by simp⟩ (.inr ⟨10, r, rfl, .inr (.inr rfl)⟩) a acc
    exact this
  rw [h, b_step (by decide)]
theorem words_item {x : I} (h : WfI x) (r : List UInt8) (a : Nat) (acc : List W) : ∃ ws a', wordsR (fullI x ++ r) a acc = wordsR r a' (acc ++ ws) ∧ ItemW ws x := by
  have hw := row_wd h.row
  have hsep : SepX (keysT x.keys ++ (59 :: 10 :: r)) := sepx_keys _ (sepx_59 _)
  by_cases ht : x.word = bTable
  · have hn : nameT x.name = [] := if_pos (h.tbl ht)
    obtain ⟨kw, a1, e1, hk⟩ := words_keys x.word x.keys [] (59 :: 10 :: r) (a + x.word.data.toList.length) (acc ++ [⟨1, x.word.data.toList, 0, a⟩]) (sepx_59 _) h.keys
    refine ⟨⟨1, x.word.data.toList, 0, a⟩ :: ([] ++ (kw ++ [⟨3, [59], 0, a1⟩])), a1 + 2, ?_, ⟨_, [], kw, _, rfl, bs_list _, fun _ => rfl, fun hh => absurd ht hh, hk, rfl⟩⟩
    unfold fullI
    rw [hn]
    rw [show (x.word.data.toList ++ [] ++ keysT x.keys ++ [59, 10] ++ r) = x.word.data.toList ++ (keysT x.keys ++ (59 :: 10 :: r)) by simp]
    rw [w_step hw hsep, e1, words_semi]
    simp
  · have hnw := h.nam ht
    have hn : nameT x.name = 32 :: x.name.data.toList := if_neg (by intro e; exact hnw.2 (by rw [e]))
    obtain ⟨kw, a1, e1, hk⟩ := words_keys x.word x.keys [] (59 :: 10 :: r) (a + x.word.data.toList.length + 1 + x.name.data.toList.length) (acc ++ [⟨1, x.word.data.toList, 0, a⟩] ++ [⟨1, x.name.data.toList, 0, a + x.word.data.toList.length + 1⟩]) (sepx_59 _) h.keys
    refine ⟨⟨1, x.word.data.toList, 0, a⟩ :: ([⟨1, x.name.data.toList, 0, a + x.word.data.toList.length + 1⟩] ++ (kw ++ [⟨3, [59], 0, a1⟩])), a1 + 2, ?_, ⟨_, _, kw, _, rfl, bs_list _, fun hh => absurd hh ht, fun _ => ⟨_, rfl, rfl, bs_list _⟩, hk, rfl⟩⟩
    unfold fullI
    rw [hn]
    rw [show (x.word.data.toList ++ 32 :: x.name.data.toList ++ keysT x.keys ++ [59, 10] ++ r) = x.word.data.toList ++ (32 :: (x.name.data.toList ++ (keysT x.keys ++ (59 :: 10 :: r)))) by simp]
    rw [w_step hw (.inr ⟨32, _, rfl, .inl rfl⟩), b_step (by decide), w_step hnw hsep, e1, words_semi]
    simp
def ItemsW : List W → List I → Prop
  | ws, [] => ws = []
  | ws, x :: t => ∃ a b, ws = a ++ b ∧ ItemW a x ∧ ItemsW b t
theorem words_items : ∀ (l : List I) (a : Nat) (acc : List W), (∀ x ∈ l, WfI x) → ∃ ws, wordsR (fullL l) a acc = .ok (acc ++ ws) ∧ ItemsW ws l
  | [], a, acc, _ => ⟨[], by unfold fullL; rw [wordsR_eq, if_pos List.drop_nil, List.append_nil], rfl⟩
  | x :: l, a, acc, h => by
    obtain ⟨ws, a1, e1, h1⟩ := words_item (h x List.mem_cons_self) (fullL l) a acc
    obtain ⟨ws2, e2, h2⟩ := words_items l a1 (acc ++ ws) (fun y hy => h y (List.mem_cons_of_mem _ hy))
    exact ⟨ws ++ ws2, by unfold fullL; rw [e1, e2, List.append_assoc], ws, ws2, rfl, h1, h2⟩
theorem numsP_back {sz : Int} : ∀ (vals : List Int) (vs : List W) (acc : List Int) (r : List W), NumW vs vals → numsP sz vals.length acc (vs ++ r) = .ok (acc ++ vals) r
  | [], [], acc, r, _ => by rw [List.append_nil]; rfl
  | [], y :: s, _, _, h => by cases h
  | n :: t, [], _, _, h => by cases h
  | n :: t, y :: s, acc, r, h => by
    obtain ⟨h1, h2, h3⟩ := h
    show numsP sz (t.length + 1) acc (y :: (s ++ r)) = _
    unfold numsP
    rw [if_pos h1, h2, numsP_back t s (acc ++ [n]) r h3, List.append_assoc]
    rfl
theorem keyP_back {sz : Int} {word : ByteArray} {ks : List K} {y : W} {vs r : List W} {k : K} (h1 : bs y.text = k.key) (h2 : NumW vs k.vals) (h3 : arityN word k.key = some k.vals.length) (h4 : hasKey ks k.key = false) : keyP sz word ks y (vs ++ r) = .ok ⟨k.key, k.vals, y.pos⟩ r := by
  unfold keyP
  rw [h1, h3]
  dsimp only
  rw [h4, numsP_back k.vals vs [] r h2]
  rfl
theorem hasKey_same {ks ks' : List K} {k : ByteArray} (h : allB sameKB ks' ks = true) : hasKey ks' k = hasKey ks k := by
  induction ks' generalizing ks with
  | nil => cases ks with
    | nil => rfl
    | cons y t => cases h
  | cons x s ih => cases ks with
    | nil => cases h
    | cons y t =>
      unfold allB at h
      simp only [Bool.and_eq_true] at h
      have he : x.key = y.key := by
        have := h.1
        unfold sameKB at this
        simp only [Bool.and_eq_true, decide_eq_true_eq] at this
        exact this.1
      unfold hasKey at ih ⊢
      rw [List.any_cons, List.any_cons, ih h.2, he]
theorem allB_snoc {α : Type} {f : α → α → Bool} : ∀ {s t : List α} {x y : α}, allB f s t = true → f x y = true → allB f (s ++ [x]) (t ++ [y]) = true
  | [], [], x, y, _, h => by show (f x y && true) = true; rw [h]; rfl
  | a :: s, [], _, _, h, _ => by cases h
  | [], b :: t, _, _, h, _ => by cases h
  | a :: s, b :: t, x, y, h, h2 => by
    unfold allB at h
    simp only [Bool.and_eq_true] at h
    show (f a b && allB f (s ++ [x]) (t ++ [y])) = true
    rw [h.1, allB_snoc h.2 h2]
    rfl
theorem keys_back {sz : Int} {word name : ByteArray} {pos : Int} {s : W} {r : List W} (hs : s.kind = 3) : ∀ (ks pre pre' : List K) (kw : List W), KeysW kw ks → KWf word pre ks → allB sameKB pre' pre = true →
    ∃ ks', keysP sz ⟨word, name, pre', pos⟩ (kw ++ s :: r) = .ok ⟨word, name, ks', pos⟩ r ∧ allB sameKB ks' (pre ++ ks) = true
  | [], pre, pre', kw, hk, _, hp => by
    obtain rfl : kw = [] := hk
    refine ⟨pre', ?_, by rw [List.append_nil]; exact hp⟩
    show keysP sz _ (s :: r) = _
    rw [keysP_cons, if_pos hs]
  | k :: t, pre, pre', kw, hk, hw, hp => by
    obtain ⟨y, vs, b, rfl, h1, h2, h3, h4⟩ := hk
    obtain ⟨w1, w2, w3, w4⟩ := hw
    have hkp : keyP sz word pre' y (vs ++ (b ++ s :: r)) = .ok ⟨k.key, k.vals, y.pos⟩ (b ++ s :: r) := keyP_back h1 h2 w1 (by rw [hasKey_same hp]; exact w2)
    obtain ⟨ks', e, he⟩ := keys_back hs t (pre ++ [k]) (pre' ++ [⟨k.key, k.vals, y.pos⟩]) b h4 w4 (allB_snoc hp (by unfold sameKB; simp))
    refine ⟨ks', ?_, by simpa using he⟩
    show keysP sz _ (y :: vs ++ b ++ s :: r) = _
    rw [show (y :: vs ++ b ++ s :: r) = y :: (vs ++ (b ++ s :: r)) by simp, keysP_cons, if_neg (by rw [h3]; decide), hkp]
    exact e
theorem item_back {sz : Int} {ws r : List W} {x : I} (h : ItemW ws x) (hw : WfI x) : ∃ x', itemP sz (ws ++ r) = .ok x' r ∧ sameIB x' x = true := by
  obtain ⟨y, nm, kw, s, rfl, h1, h2, h3, h4, h5⟩ := h
  by_cases ht : x.word = bTable
  · obtain rfl := h2 ht
    obtain ⟨ks', e, he⟩ := keys_back (sz := sz) (word := x.word) (name := ⟨#[]⟩) (pos := y.pos) (r := r) h5 x.keys [] [] kw h4 hw.keys rfl
    refine ⟨⟨x.word, ⟨#[]⟩, ks', y.pos⟩, ?_, ?_⟩
    · show itemP sz (y :: (kw ++ [s] ++ r)) = _
      unfold itemP
      dsimp only
      rw [h1, if_neg hw.row, if_pos ht, List.append_assoc]
      exact e
    · unfold sameIB
      dsimp only
      rw [hw.tbl ht, decide_eq_true rfl, decide_eq_true rfl]
      simpa using he
  · obtain ⟨q, rfl, hq1, hq2⟩ := h3 ht
    obtain ⟨ks', e, he⟩ := keys_back (sz := sz) (word := x.word) (name := x.name) (pos := y.pos) (r := r) h5 x.keys [] [] kw h4 hw.keys rfl
    refine ⟨⟨x.word, x.name, ks', y.pos⟩, ?_, ?_⟩
    · show itemP sz (y :: q :: (kw ++ [s] ++ r)) = _
      unfold itemP
      dsimp only
      rw [h1, if_neg hw.row, if_neg ht, if_pos hq1, hq2, List.append_assoc]
      exact e
    · unfold sameIB
      dsimp only
      rw [decide_eq_true rfl, decide_eq_true rfl]
      simpa using he
theorem items_back {sz : Int} : ∀ (l : List I) (ws : List W) (acc acc0 : List I), ItemsW ws l → (∀ x ∈ l, WfI x) → acc.length + l.length ≤ 400 → allB sameIB acc acc0 = true → ∃ m, itemsP sz acc ws = .ok m ∧ allB sameIB m (acc0 ++ l) = true
  | [], ws, acc, acc0, h, _, _, ha => by
    obtain rfl : ws = [] := h
    exact ⟨acc, rfl, by rw [List.append_nil]; exact ha⟩
  | x :: l, ws, acc, acc0, h, hw, hn, ha => by
    obtain ⟨a, b, rfl, h1, h2⟩ := h
    obtain ⟨x', e, hx⟩ := item_back (sz := sz) (r := b) h1 (hw x List.mem_cons_self)
    obtain ⟨m, em, hm⟩ := items_back (sz := sz) l b (acc ++ [x']) (acc0 ++ [x]) h2 (fun y hy => hw y (List.mem_cons_of_mem _ hy)) (by simp at hn ⊢; omega) (allB_snoc ha hx)
    refine ⟨m, ?_, by simpa using hm⟩
    obtain ⟨y, nm, kw, s, rfl, _⟩ := h1
    show itemsP sz acc (y :: (nm ++ (kw ++ [s]) ++ b)) = _
    rw [itemsP_cons, if_neg (by simp at hn; omega)]
    rw [show (y :: (nm ++ (kw ++ [s]) ++ b)) = y :: (nm ++ (kw ++ [s])) ++ b from rfl, e]
    exact em
/-- The text of statements that can be written is read back. -/
theorem parse_full {l : List I} (hw : ∀ x ∈ l, WfI x) (hn : l.length ≤ 400) (ht : (fullL l).length ≤ 20000) : ∃ m, parse (fullL l) = .ok m ∧ allB sameIB m l = true := by
  obtain ⟨ws, e, hi⟩ := words_items l 0 [] hw
  obtain ⟨m, em, hm⟩ := items_back (sz := ((fullL l).length : Int)) l ws [] [] hi hw (by simpa using hn) rfl
  refine ⟨m, ?_, by simpa using hm⟩
  unfold parse
  have : words (fullL l) = .ok ws := by
    unfold words
    rw [if_neg (by omega), e]
    rfl
  rw [this]
  exact em
/-- Short texts are not cut. -/
theorem appKeys_full : ∀ (ks : List K) (t : List UInt8), t.length + (keysT ks).length ≤ 20000 → appKeys t ks = t ++ keysT ks
  | [], t, _ => by unfold keysT appKeys; rw [List.append_nil]
  | k :: ks, t, h => by
    unfold keysT at h ⊢
    rw [List.length_append] at h
    unfold appKeys
    rw [if_neg (by omega), appKeys_full ks (t ++ keyT k) (by rw [List.length_append]; omega), List.append_assoc]
theorem appI_full (x : I) (t : List UInt8) (h : t.length + (fullI x).length ≤ 20000) : appI t x = t ++ fullI x := by
  unfold fullI at h ⊢
  unfold appI
  simp only [List.length_append] at h
  rw [appKeys_full _ _ (by simp only [List.length_append]; omega)]
  simp
theorem fmtF_full : ∀ (l : List I) (t : List UInt8), t.length + (fullL l).length ≤ 20000 → fmtF t l = some (t ++ fullL l)
  | [], t, _ => by unfold fmtF fullL; rw [List.append_nil]
  | x :: l, t, h => by
    unfold fullL at h ⊢
    rw [List.length_append] at h
    unfold fmtF
    rw [appI_full x t (by omega), if_neg (by rw [List.length_append]; omega), fmtF_full l _ (by rw [List.length_append]; omega), List.append_assoc]
theorem fmtC_full {l : List I} (hw : ∀ x ∈ l, WfI x) (hn : l.length ≤ 400) (ht : (fullL l).length ≤ 20000) : fmtC l = some (fullL l) := by
  obtain ⟨m, e, hm⟩ := parse_full hw hn ht
  unfold fmtC
  rw [fmtF_full l [] (by simpa using ht)]
  show chkF l _ (parse _) = _
  rw [show ([] : List UInt8) ++ fullL l = fullL l from rfl, e]
  unfold chkF
  dsimp only
  rw [hm]
  rfl
end SS

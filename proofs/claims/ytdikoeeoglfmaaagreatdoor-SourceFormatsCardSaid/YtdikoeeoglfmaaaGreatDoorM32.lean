/-
  The reference's Parse.
  The reference's Format.
  The examples of the chapter.
-/
import Derived.KernelRfl
import Derived.Test.YtdikoeeoglfmaaaGreatDoorM19
import Derived.Test.YtdikoeeoglfmaaaGreatDoorM21
import Derived.Test.YtdikoeeoglfmaaaGreatDoorM24
import Derived.Test.YtdikoeeoglfmaaaGreatDoorM27
import Derived.Test.YtdikoeeoglfmaaaGreatDoorM28
import Derived.Test.YtdikoeeoglfmaaaGreatDoorM31
namespace SS
open Go Go.RowKit PB SC
theorem fit_at {s : List UInt8} {ws : List W} (h : words s = .ok ws) (i : Nat) (y : W) (hy : ws[i]? = some y) : Fit y := (chain_at (words_chain h) i y hy).2.2
end SS
namespace Go.Proofs.YtdikoeeoglfmaaaGreatDoor
open Go.RowKit SC PB SS
set_option maxHeartbeats 16000000 in
set_option maxRecDepth 100000 in
theorem rparse_any (s : ByteArray) (w : World) (hs : s.size ≤ 9223372036854775807) :
    Calls Tryz.prog 16 #[.string s] w (RetS (parse s.data.toList) w) := by
  obtain ⟨m0, hm, mt0, mt1, mt2⟩ := info_parts info_ritem
  have HW := Lib.hid (fun w => rwords_any s w hs)
  have hsl : s.data.toList.length = s.size := by simp
  cases hr : words s.data.toList with
  | bad er pe =>
    rw [hr] at HW
    have HP := Lib.hid (show parse s.data.toList = .bad er pe by unfold parse; rw [hr])
    rw [HP.out]
    have hne : (er != 0) = true := by rcases words_ne hr with rfl | rfl | rfl | rfl <;> decide
    clear hr HP hsl
    go_enter Tryz.func16, Tryz.ntmps16
    go_wp2_with fail
    refine (HW.out _).mono ?_
    rintro e w1 ⟨v1, rfl, o1, q1⟩
    obtain ⟨b1, g1, c1, rfl, -, -, -, -⟩ := ownw_slice o1
    dsimp only [WR.list, WR.err, WR.at, List.length]
    clear o1
    go_wp2_with fail
    go_ret3
    exact ⟨_, rfl, rdi_nil _, q1⟩
  | ok ws =>
    rw [hr] at HW
    have hfew := words_few hr
    have hsp : parse s.data.toList = itemsP s.size [] ws := by unfold parse; rw [hr, ← hsl]
    rw [hsp]
    generalize hsz : (s.size : Int) = sz at *
    generalize hR : itemsP sz [] ws = R
    have HR0 := Lib.hid hR
    have HWS := Lib.hid (show ws.length ≤ 1000000 by omega)
    have HF := Lib.hid (fun i y hy => fit_at hr i y hy)
    have HX := Lib.hid (fun (k : Nat) (hk : k < ws.length) => (⟨ws[k], List.getElem?_eq_getElem hk⟩ : ∃ x, ws[k]? = some x))
    clear hr hsl hsp hR
    go_enter Tryz.func16, Tryz.ntmps16
    go_wp2_with fail
    refine (HW.out _).mono ?_
    rintro e w1 ⟨v1, rfl, o1, q1⟩
    obtain ⟨b1, g1, c1, rfl, hb1, hrow1, hlt1, -⟩ := ownw_slice o1
    dsimp only [WR.list, WR.err, WR.at] at *
    have hz : ((0 : Int) != 0) = false := by decide
    have HRR0 := Lib.hid (show RR 81 (w1.alloc (.cells #[.slice b1 ws.length c1, .int .i64 0, .int .i64 sz] 81)) w1.heap.size g1 sz ws 0 from
      ⟨⟨b1, c1, bt_new rfl, hb1⟩, WRow.kept hrow1 (sb_alloc (Below.refl _ _) _) hlt1, fun h => by have := hlt1 h; simp; omega⟩)
    have HGP := Lib.hid hlt1
    have HQ1 := Lib.hid (sb_alloc q1 (.cells #[.slice b1 ws.length c1, .int .i64 0, .int .i64 sz] 81))
    have hpw := q1.size
    clear o1 q1 hb1 hrow1 hlt1
    go_wp2_with fail
    generalize hp : w1.heap.size = p at *
    clear hp
    go_loopw [9] (fun ov wr => ∃ (k : Nat) (acc : List I), k ≤ ws.length ∧ acc.length ≤ 400 ∧ Hid (itemsP sz acc (ws.drop k) = R) ∧ Hid (OwnIs 3 53 52 (p + 1) wr ov acc) ∧ Hid (RR 81 wr p g1 sz ws k) ∧ Hid (Below w.heap.size w wr)) (fun _ wr => ws.length + 1 - rpos wr p)
    case atStart => exact ⟨0, [], Nat.zero_le _, by decide, by rw [List.drop_zero]; exact HR0, Lib.hid (OwnIs.nil _ _ _ _ _), HRR0, HQ1⟩
    case round =>
      clear HR0 HRR0 HQ1 HW
      obtain ⟨k, acc, hk, ha4, hR, hown, hrr, hq⟩ := hrel
      obtain ⟨vb, vc, rfl⟩ := hown.out.form
      obtain ⟨c1', cf1, cl1⟩ := hrr.out.free _ (Below.refl _ _)
      have HPOS := Lib.hid hrr.out.pos
      have hk6 : k ≤ 1000000 := by omega
      by_cases hkn : k < ws.length
      · obtain ⟨y, hy⟩ := HX.out k hkn
        have hki : (k : Int) < ws.length := by omega
        have hR2 := hR.out
        rw [drop_at hy] at hR2
        obtain ⟨h9, hbad, hok⟩ := itemsP_round hR2
        rw [← drop_at hy] at hbad hok
        have hgp := HGP.out (by omega)
        have HST := Lib.hid (fun W h => rstat_any p g1 k sz ws y hy HWS.out HF.out hgp W h)
        have HAT := Lib.hid (fun (i : Nat) (hi : i ≤ ws.length) W h => rat_any 81 p g1 sz ws i W h HWS.out hi)
        by_cases h4 : acc.length = 400
        · have hV := h9 h4
          have hA := HAT.out k hk _ hrr.out
          rw [posAt_some hy] at hA
          have HA := Lib.hid hA
          subst hV
          rw [h4]
          clear h9 hbad hok hR2 hR hy hA
          go_wp2_with fail
          refine HA.out.mono ?_
          rintro e w2 ⟨rfl, q2⟩
          go_wp2_with fail
          go_ret3
          exact ⟨_, rfl, rdi_nil _, next hq.out q2⟩
        · have h4i : ((acc.length : Int) == 400) = false := beq_eq_false_iff_ne.2 (by omega)
          cases hip : itemP sz (ws.drop k) with
          | bad er pe =>
            have hV := hbad h4 er pe hip
            have hne : (er != 0) = true := by simp [bne, itemP_ne hip]
            rw [hip] at HST
            subst hV
            clear h9 hbad hok hR2 hR hy hip h4
            go_wp2_with fail
            refine (HST.out _ hrr.out).mono ?_
            rintro e w2 ⟨a2, n2, s2, s3, s4, d2, k2, rfl, hk2, hpos, hrr2, hb2⟩
            have HA := Lib.hid (fun W h => HAT.out k2 hk2 W h)
            rw [hpos] at HA
            have HRR2 := Lib.hid hrr2
            have HB2 := Lib.hid (hb2.below (N := w.heap.size) (by omega) hq.out.size)
            have hqs := hq.out.size
            have hqs2 := hb2.size
            clear hpos hrr2 hb2 c1' cf1 cl1
            go_wp2_with fail
            refine (HA.out _ (HRR2.out.kept (sb_alloc (Below.refl _ _) _))).mono ?_
            rintro e w3 ⟨rfl, q3⟩
            go_wp2_with fail
            go_ret3
            exact ⟨_, rfl, rdi_nil _, (hq.out.trans HB2.out).trans ((next (sb_alloc (Below.refl _ _) _) q3).mono (by omega))⟩
          | ok x rest =>
            have hnk := hok h4 x rest hip
            have hle := itemP_len hip
            rw [hip] at HST
            have HNK := Lib.hid hnk
            have HLE := Lib.hid hle
            clear h9 hbad hok hR2 hy hip hnk hle
            go_wp2_with fail
            refine (HST.out _ hrr.out).mono ?_
            rintro e w2 ⟨u2, k2, rfl, hd2, hk2, hown2, hrr2, hb2⟩
            obtain ⟨ub, uc, rfl⟩ := hown2.form
            unfold iagg
            obtain ⟨zs, hzl, hzr, hzz⟩ := (hown.out.but (p := p) (by omega) hb2).kept (sb_alloc (Below.refl _ _) (.cells #[.string x.word, .string x.name, .slice ub x.keys.length uc, .int .i64 x.pos] 52))
            have hpl : p < wr.heap.size := cl1
            have hqs := hq.out.size
            have hqs2 := hb2.size
            have HB2 := Lib.hid (sb_alloc (Below.refl w2.heap.size w2) (.cells #[.string x.word, .string x.name, .slice ub x.keys.length uc, .int .i64 x.pos] 52))
            have HQ2 := Lib.hid ((hq.out.trans (hb2.below (N := w.heap.size) (by omega) hq.out.size)).trans (HB2.out.mono (by omega)))
            have HRR2 := Lib.hid (hrr2.kept HB2.out)
            have HO2 := Lib.hid ((hown2.mono (N' := p + 1) (by omega)).kept HB2.out)
            have HXA := Lib.hid (show Blk (w2.alloc (.cells #[.string x.word, .string x.name, .slice ub x.keys.length uc, .int .i64 x.pos] 52)) w2.heap.size #[.string x.word, .string x.name, .slice ub x.keys.length uc, .int .i64 x.pos] from blk_new rfl)
            have hsz2 := HB2.out.size
            have HZR := Lib.hid hzr
            have HZZ := Lib.hid hzz
            have HZL := Lib.hid hzl
            have HD2 := Lib.hid hd2
            have hk1 : k + 1 ≤ k2 := by
              have := HLE.out
              rw [← hd2, List.length_drop, List.length_drop] at this
              omega
            clear hb2 hown2 hrr2 hzr hzz hzl hd2 c1' cf1 cl1 HB2
            go_upto_region 10 with fail
            generalize w2.alloc (.cells #[.string x.word, .string x.name, .slice ub x.keys.length uc, .int .i64 x.pos] 52) = w3 at *
            obtain ⟨x0, x1, x2, x3⟩ := Blk4 HXA.out
            go_wp2_with (at_builtin; refine wpList_append_own_at _ rfl _ _ 28 rfl (p + 1) 52 m0 (.agg #[.string ⟨#[]⟩, .string ⟨#[]⟩, .slice none 0 0, .int .i64 0]) 4 64 Tryz.underlying28 hm mt0 mt1 mt2 rfl (by decide) _ acc.length (ics acc zs) rfl (World.ownsRow.alloc HZR.out _) ⟨w3.heap.size, 0, none⟩ 1 1 [.string x.word, .string x.name, .slice ub x.keys.length uc, .int .i64 x.pos] rfl rfl (cells_news _ _ _) (fun u hu => by simp at hu; rcases hu with rfl | rfl | rfl | rfl <;> rfl) (by unfold maxLen; omega) (by omega) (by simp; omega) ?_)
            intro v9 w9 hown9 hg9 _ _
            have hb9 : Below (p + 1) w3 w9 := ((Below.refl (p + 1) w3).alloc (by omega) _).trans ((Below.refl (p + 1) _).grown hg9 (by simp; omega) (fun q hq => (World.ownsRow.lt HZR.out q hq).1))
            have HI9 := Lib.hid (show OwnIs 3 53 52 (p + 1) w9 v9 (acc ++ [x]) from
              OwnIs.snoc HZL.out (World.ownsRow.alloc HZR.out _) (fun i k z a b => (HZZ.out i k z a b).kept (sb_alloc (Below.refl _ _) _)) (HO2.out.kept (sb_alloc (Below.refl _ _) _)) (by decide) (by decide) hg9 hown9)
            have HBB := Lib.hid hb9
            clear hown9 hg9 hb9 x0 x1 x2 x3
            go_wp2_with fail
            have HRR9 := Lib.hid (HRR2.out.below (N := p + 1) (by omega) hgp HBB.out)
            go_roundw
            case rel => exact ⟨_, _, _, _, _, _, _, _, _, _, _, _, _, _, _, _, _, _, _, _, _, _, _, _, _, _, _, _, _, _, _, _, ⟨k2, acc ++ [x], hk2, by simp; omega, by rw [HD2.out]; exact HNK, HI9, HRR9, Lib.hid (HQ2.out.trans (HBB.out.mono (by omega)))⟩, rfl⟩
            case measure => rw [HRR9.out.pos, HPOS.out]; omega
      · have hke : k = ws.length := by omega
        have hki : ¬ (k : Int) < ws.length := by omega
        have hR2 := hR.out
        rw [hke, List.drop_length] at hR2
        have hV : R = .ok acc := hR2.symm
        subst hV
        clear hR2 hR
        go_wp2_with fail
        go_ret3
        exact ⟨_, rfl, hown.out.rd, hq.out⟩
end Go.Proofs.YtdikoeeoglfmaaaGreatDoor

namespace SS
open Go Go.RowKit PB SC
theorem rdi_shape {w : World} {v : Value} {l : List I} (h : RdI w v l) : ∃ (b : Option Addr) (c : Nat), v = .slice b l.length c := by
  obtain ⟨b, _, _, c, rfl, _⟩ := h
  exact ⟨b, c, rfl⟩
end SS
namespace Go.Proofs.YtdikoeeoglfmaaaGreatDoor
open Go.RowKit SC PB SS
set_option maxHeartbeats 8000000 in
set_option maxRecDepth 100000 in
theorem rformat_any (l : List I) (v : Value) (w : World) (hr : RdI w v l) (hok : ∀ x ∈ l, OkI x) (hn : l.length ≤ 1000000) :
    Calls Tryz.prog 7 #[v] w fun e w' => e = .returned (.tuple #[.string (strO (wrC l)), .bool (wrC l).isSome]) ∧ Below w.heap.size w w' := by
  have HR := Lib.hid hr
  have HW := Lib.hid (fun W (h : RdI W v l) => write_any l v W h hok hn)
  have hok2 : ∀ x ∈ l, x.keys.length ≤ 1000000 ∧ ∀ k ∈ x.keys, k.vals.length ≤ 1000000 := fun x hx => (hok x hx).same
  obtain ⟨vb, vc, rfl⟩ := rdi_shape hr
  unfold wrC
  generalize hT : wrL [] l = T at *
  obtain ⟨S, hS⟩ : ∃ S : ByteArray, S = ⟨T.toArray⟩ := ⟨_, rfl⟩
  have HST := Lib.hid (show S.data.toList = T by rw [hS])
  have HSS := Lib.hid hS
  rw [← hS] at HW
  have HP := Lib.hid (fun W (h : S.size ≤ 9223372036854775807) => rparse_any S W h)
  rw [HST.out] at HP
  have hsz : S.size = T.length := by rw [← ba_len, HST.out]
  cases hp : parse T with
  | bad er pe =>
    rw [hp] at HP
    have hne : (er != 0) = true := by simp [bne, parse_ne hp]
    unfold chkF
    clear hr hT hok hok2 hp hS
    go_enter Tryz.func7, Tryz.ntmps7
    go_wp2_with fail
    refine (HW.out _ HR.out).mono ?_
    rintro e w1 ⟨rfl, hl, q1⟩
    go_wp2_with fail
    refine (HP.out _ (by omega)).mono ?_
    rintro e w2 ⟨v2, rfl, r2, q2⟩
    obtain ⟨b2, c2, rfl⟩ := rdi_shape r2
    dsimp only [SR.err, SR.at, SR.list] at *
    go_wp2_with fail
    go_ret2
    exact ⟨rfl, next q1 q2⟩
  | ok m =>
    rw [hp] at HP
    have hm := (parse_ok hp).2
    have hmok : ∀ x ∈ m, x.keys.length ≤ 1000000 ∧ ∀ k ∈ x.keys, k.vals.length ≤ 1000000 := fun x hx => ((parse_ok hp).1 x hx).ok.same
    have HSM := Lib.hid (fun u W (h : RdI W u m) (h' : RdI W (.slice vb l.length vc) l) => rsame_all m l u (.slice vb l.length vc) W h h' (by omega) hn hmok hok2)
    have hz : ((0 : Int) != 0) = false := by decide
    clear hr hT hok hok2 hp hS hmok
    cases hs : allB sameIB m l with
    | true =>
      rw [hs] at HSM
      rw [show chkF l T (.ok m) = some T by unfold chkF; dsimp only; rw [hs]; rfl]
      dsimp only [strO, Option.isSome]
      rw [← HSS.out]
      clear hs
      go_enter Tryz.func7, Tryz.ntmps7
      go_wp2_with fail
      refine (HW.out _ HR.out).mono ?_
      rintro e w1 ⟨rfl, hl, q1⟩
      go_wp2_with fail
      refine (HP.out _ (by omega)).mono ?_
      rintro e w2 ⟨v2, rfl, r2, q2⟩
      obtain ⟨b2, c2, rfl⟩ := rdi_shape r2
      dsimp only [SR.err, SR.at, SR.list] at *
      have HR2 := Lib.hid ((HR.out.kept q1).kept q2)
      have HM2 := Lib.hid r2
      clear r2
      go_wp2_with fail
      refine (HSM.out _ _ HM2.out HR2.out).mono ?_
      rintro e w3 ⟨rfl, q3⟩
      go_wp2_with fail
      go_ret2
      exact ⟨rfl, next (next q1 q2) q3⟩
    | false =>
      rw [hs] at HSM
      rw [show chkF l T (.ok m) = none by unfold chkF; dsimp only; rw [hs]; rfl]
      dsimp only [strO, Option.isSome]
      clear hs
      go_enter Tryz.func7, Tryz.ntmps7
      go_wp2_with fail
      refine (HW.out _ HR.out).mono ?_
      rintro e w1 ⟨rfl, hl, q1⟩
      go_wp2_with fail
      refine (HP.out _ (by omega)).mono ?_
      rintro e w2 ⟨v2, rfl, r2, q2⟩
      obtain ⟨b2, c2, rfl⟩ := rdi_shape r2
      dsimp only [SR.err, SR.at, SR.list] at *
      have HR2 := Lib.hid ((HR.out.kept q1).kept q2)
      have HM2 := Lib.hid r2
      clear r2
      go_wp2_with fail
      refine (HSM.out _ _ HM2.out HR2.out).mono ?_
      rintro e w3 ⟨rfl, q3⟩
      go_wp2_with fail
      go_ret2
      exact ⟨rfl, next (next q1 q2) q3⟩
end Go.Proofs.YtdikoeeoglfmaaaGreatDoor

namespace SS
open SC
def exI : I := ⟨⟨#[112, 111, 115, 116]⟩, ⟨#[112]⟩, [⟨⟨#[99, 101, 110, 116, 101, 114]⟩, [3, 4], 7⟩, ⟨⟨#[115, 105, 122, 101]⟩, [2], 18⟩], 0⟩
theorem ex1 : parse [112, 111, 115, 116, 32, 112, 32, 99, 101, 110, 116, 101, 114, 32, 51, 32, 52, 32, 115, 105, 122, 101, 32, 50, 59] = .ok [exI] := by kernel_rfl
theorem ex2 : parse [119, 97, 108, 108, 32, 119, 32, 109, 105, 114, 114, 111, 114, 59] = .bad 4 7 := by kernel_rfl
theorem ex3 : parse [112, 111, 115, 116, 32, 112, 32, 99, 101, 110, 116, 101, 114, 32, 51, 32, 52, 32, 115, 105, 122, 101, 32, 50, 59, 10] = .ok [exI] := by kernel_rfl
theorem ex4 : fmtC [exI] = some [112, 111, 115, 116, 32, 112, 32, 99, 101, 110, 116, 101, 114, 32, 51, 32, 52, 32, 115, 105, 122, 101, 32, 50, 59, 10] := by
  have h2 : Go.Lib.itoa 2 = [50] := by unfold Go.Lib.itoa; rw [if_neg (by decide), Go.Lib.decDigits_one (by decide)]; rfl
  have h3 : Go.Lib.itoa 3 = [51] := by unfold Go.Lib.itoa; rw [if_neg (by decide), Go.Lib.decDigits_one (by decide)]; rfl
  have h4 : Go.Lib.itoa 4 = [52] := by unfold Go.Lib.itoa; rw [if_neg (by decide), Go.Lib.decDigits_one (by decide)]; rfl
  have hk1 : keyT ⟨⟨#[99, 101, 110, 116, 101, 114]⟩, [3, 4], 7⟩ = [32, 99, 101, 110, 116, 101, 114, 32, 51, 32, 52] := by unfold keyT; simp only [valsT]; rw [h3, h4]; rfl
  have hk2 : keyT ⟨⟨#[115, 105, 122, 101]⟩, [2], 18⟩ = [32, 115, 105, 122, 101, 32, 50] := by unfold keyT; simp only [valsT]; rw [h2]; rfl
  have ha : appI [] exI = [112, 111, 115, 116, 32, 112, 32, 99, 101, 110, 116, 101, 114, 32, 51, 32, 52, 32, 115, 105, 122, 101, 32, 50, 59, 10] := by
    unfold appI exI
    simp only [appKeys]
    rw [hk1, hk2]
    kernel_rfl
  have hf : fmtF [] [exI] = some [112, 111, 115, 116, 32, 112, 32, 99, 101, 110, 116, 101, 114, 32, 51, 32, 52, 32, 115, 105, 122, 101, 32, 50, 59, 10] := by
    unfold fmtF
    rw [ha, if_neg (by decide)]
    rfl
  unfold fmtC
  rw [hf]
  show chkF [exI] [112, 111, 115, 116, 32, 112, 32, 99, 101, 110, 116, 101, 114, 32, 51, 32, 52, 32, 115, 105, 122, 101, 32, 50, 59, 10] (parse [112, 111, 115, 116, 32, 112, 32, 99, 101, 110, 116, 101, 114, 32, 51, 32, 52, 32, 115, 105, 122, 101, 32, 50, 59, 10]) = some [112, 111, 115, 116, 32, 112, 32, 99, 101, 110, 116, 101, 114, 32, 51, 32, 52, 32, 115, 105, 122, 101, 32, 50, 59, 10]
  rw [ex3]
  unfold chkF
  dsimp only
  rw [if_pos (by kernel_rfl)]
theorem exOk : ∀ x ∈ [exI], OkI x := by
  intro x hx
  obtain rfl : x = exI := by simpa using hx
  refine ⟨by decide, by decide, by decide, fun k hk => ?_⟩
  unfold exI at hk
  simp at hk
  rcases hk with rfl | rfl
  · exact ⟨by decide, by decide, fun n hn => by simp at hn; omega⟩
  · exact ⟨by decide, by decide, fun n hn => by simp at hn; omega⟩
theorem ar1 : arity ⟨#[102, 108, 105, 112, 112, 101, 114]⟩ ⟨#[114, 97, 110, 103, 101]⟩ = 2 := by kernel_rfl
theorem ar2 : arity ⟨#[119, 97, 108, 108]⟩ ⟨#[109, 105, 114, 114, 111, 114]⟩ = -1 := by kernel_rfl
theorem gv1 : getV ⟨#[99, 101, 110, 116, 101, 114]⟩ exI.keys = some [3, 4] := by kernel_rfl
end SS
namespace Go.Proofs.YtdikoeeoglfmaaaGreatDoor
open Go.RowKit SC PB SS
set_option maxHeartbeats 8000000 in
set_option maxRecDepth 100000 in
theorem awake_any (w : World) (htab : Lib.TabBelow Tryz.prog w.heap.size w "internal/strconv.uint64pow10" .u64 Lib.pow10Tab) : Calls Tryz.prog 4 #[] w fun e w' => e = .returned (.bool true) ∧ Below w.heap.size w w' := by
  have HP1 := Lib.hid (fun W => parse_any ⟨#[112, 111, 115, 116, 32, 112, 32, 99, 101, 110, 116, 101, 114, 32, 51, 32, 52, 32, 115, 105, 122, 101, 32, 50, 59]⟩ W (by decide))
  have HP2 := Lib.hid (fun W => parse_any ⟨#[119, 97, 108, 108, 32, 119, 32, 109, 105, 114, 114, 111, 114, 59]⟩ W (by decide))
  rw [show parse (⟨#[112, 111, 115, 116, 32, 112, 32, 99, 101, 110, 116, 101, 114, 32, 51, 32, 52, 32, 115, 105, 122, 101, 32, 50, 59]⟩ : ByteArray).data.toList = .ok [exI] from ex1] at HP1
  rw [show parse (⟨#[119, 97, 108, 108, 32, 119, 32, 109, 105, 114, 114, 111, 114, 59]⟩ : ByteArray).data.toList = .bad 4 7 from ex2] at HP2
  have HF := Lib.hid (fun v W (h : RdI W v [exI]) (hb : Below w.heap.size w W) => format_any [exI] v W h exOk (by decide) (tab_mono htab hb hb.size))
  rw [ex4] at HF
  dsimp only [strO] at HF
  have HG := Lib.hid (fun z W (h : RdK W z exI.keys) => get_any exI z ⟨#[99, 101, 110, 116, 101, 114]⟩ W h (by decide) (fun k hk => (exOk exI List.mem_cons_self).same.2 k hk))
  rw [gv1] at HG
  have HA1 := Lib.hid (fun W => arity_any ⟨#[102, 108, 105, 112, 112, 101, 114]⟩ ⟨#[114, 97, 110, 103, 101]⟩ W)
  have HA2 := Lib.hid (fun W => arity_any ⟨#[119, 97, 108, 108]⟩ ⟨#[109, 105, 114, 114, 111, 114]⟩ W)
  rw [ar1] at HA1
  rw [ar2] at HA2
  clear htab
  go_enter Tryz.func4, Tryz.ntmps4
  go_wp2_with fail
  refine (HP1.out _).mono ?_
  rintro e w1 ⟨v1, rfl, r1, q1⟩
  have HR1 := Lib.hid (fun W (h : Below w1.heap.size w1 W) => r1.kept h)
  have HF1 := Lib.hid (fun W (h : Below w1.heap.size w1 W) => HF.out v1 W (r1.kept h) (next q1 h))
  obtain ⟨b1, g1, o1, c1, rfl, hb1, hl1, hk1⟩ := r1
  obtain rfl := hb1 (by decide)
  have hl1 := hl1 (by decide)
  obtain ⟨z1, hz1⟩ := hk1 0 exI rfl
  have HZ1 := Lib.hid (fun W (h : Below w1.heap.size w1 W) => hz1.kept h hl1)
  dsimp only [SR.err, SR.at, SR.list, List.length]
  clear hk1 hz1
  go_wp2_with fail
  refine (HP2.out _).mono ?_
  rintro e w2 ⟨v2, rfl, r2, q2⟩
  obtain ⟨b2, g2, o2, c2, rfl, -, -, -⟩ := r2
  dsimp only [SR.err, SR.at, SR.list, List.length]
  have qq := next q1 q2
  go_wp2_with fail
  refine (HF1.out _ q2).mono ?_
  rintro e w3 ⟨rfl, q3⟩
  have q13 := next q2 q3
  have qq3 := next qq q3
  obtain ⟨y0, y1, y2, y3, hk3⟩ := HZ1.out _ q13
  obtain ⟨zb, zn, zc, rfl⟩ := rdk_form hk3
  have HG3 := Lib.hid (HG.out _ _ hk3)
  have hl3 : g1 < w3.heap.size := Nat.lt_of_lt_of_le hl1 q13.size
  rw [Nat.zero_mul, Nat.add_zero] at y0 y1 y2 y3
  unfold iagg at HG3
  clear hk3
  go_wp2_with fail
  refine HG3.out.mono ?_
  rintro e w4 ⟨v4, rfl, r4, q4⟩
  obtain ⟨b4, g4, o4, c4, rfl, hb4, hl4, hk4⟩ := r4.form
  dsimp only [oV, List.length] at *
  obtain rfl := hb4 (by decide)
  have z4 := hk4 1 4 rfl
  have hl4 := hl4 (by decide)
  have qq4 := next qq3 q4
  clear r4 hk4
  go_wp2_with fail
  refine (HA1.out _).mono ?_
  rintro e w5 ⟨rfl, q5⟩
  go_wp2_with fail
  refine (HA2.out _).mono ?_
  rintro e w6 ⟨rfl, q6⟩
  go_wp2_with fail
  go_ret
  trace_state
  exact ⟨rfl, next (next qq4 q5) q6⟩
end Go.Proofs.YtdikoeeoglfmaaaGreatDoor

/-
  SourceMany: its walk.
  The table of powers of ten, as it is laid.
-/
import Derived.IntWalk
import Derived.Test.YtcjgfleaoibdbaaDoorCards
import Derived.LaidMore
import Derived.Lib.LaidTab
import Derived.Lib.AppendIntMem
import Derived.Test.YtcjgfleaoibdbaaDoorM20
namespace SS
open Go Go.RowKit PB SC
theorem drs_snoc : ∀ n, drs n ++ dr = drs (n + 1)
  | 0 => rfl
  | n + 1 => by
    show (dr ++ drs n) ++ dr = dr ++ drs (n + 1)
    rw [List.append_assoc, drs_snoc n]
end SS
namespace Go.Proofs.YtcjgfleaoibdbaaDoor
open Go.RowKit SC PB SS
set_option maxHeartbeats 4000000 in
set_option maxRecDepth 100000 in
theorem place_any (x m : Int) (hm : 0 < m) (hm2 : m ≤ 100) (w : World) : ∃ r : Nat, (r : Int) < m ∧ Calls Tryd.prog 19 #[.int .i64 x, .int .i64 m] w fun e w' => e = .returned (.int .i64 r) ∧ w' = w := by
  have h1 : x.tmod m < m := Int.tmod_lt_of_pos x hm
  have h2 : -m < x.tmod m := Int.lt_tmod_of_pos x hm
  by_cases h0 : x.tmod m < 0
  · refine ⟨(x.tmod m + m).toNat, by omega, ?_⟩
    have hw : IntKind.i64.wrap (x.tmod m) = x.tmod m := IntWalk.i64_in _ (by omega)
    have hw2 : IntKind.i64.wrap (x.tmod m + m) = x.tmod m + m := IntWalk.i64_in _ (by omega)
    have hr : ((x.tmod m + m).toNat : Int) = x.tmod m + m := Int.toNat_of_nonneg (by omega)
    have hm0 : ¬ m = 0 := by omega
    have HR := Lib.hid hr
    generalize ((x.tmod m + m).toNat : Int) = rr at *
    generalize hq : x.tmod m = q at *
    clear hr
    go_enter Tryd.func19, Tryd.ntmps19
    go_wp2_with fail
    go_ret
    exact ⟨by rw [HR.out]; rfl, rfl⟩
  · refine ⟨(x.tmod m).toNat, by omega, ?_⟩
    have hw : IntKind.i64.wrap (x.tmod m) = x.tmod m := IntWalk.i64_in _ (by omega)
    have hr : ((x.tmod m).toNat : Int) = x.tmod m := Int.toNat_of_nonneg (by omega)
    have hm0 : ¬ m = 0 := by omega
    have HR := Lib.hid hr
    generalize ((x.tmod m).toNat : Int) = rr at *
    generalize hq : x.tmod m = q at *
    clear hr
    go_enter Tryd.func19, Tryd.ntmps19
    go_wp2_with fail
    go_ret
    exact ⟨by rw [HR.out]; rfl, rfl⟩
set_option maxHeartbeats 8000000 in
set_option maxRecDepth 100000 in
theorem many_any (x y : Int) (w : World) (htab : Lib.TabBelow Tryd.prog w.heap.size w "internal/strconv.uint64pow10" .u64 Lib.pow10Tab) :
    Calls Tryd.prog 6 #[.int .i64 x, .int .i64 y] w fun e w' => e = .returned (.bool true) ∧ Below w.heap.size w w' := by
  have HA := Lib.hid (awake_any w htab)
  obtain ⟨i0, hi, hz0, hz1, hz2⟩ := info_parts info_u8
  have HP1 := Lib.hid (fun W => place_any x 5 (by decide) (by decide) W)
  have HP2 := Lib.hid (fun W => place_any y 25 (by decide) (by decide) W)
  have HPA := Lib.hid (fun (t : List UInt8) (W : World) (ht : t.length ≤ 20000) => (show Calls Tryd.prog 8 #[.string ⟨t.toArray⟩] W (RetS (parse t) W) from parse_any ⟨t.toArray⟩ W (by rw [size_mk]; omega)))
  clear htab
  go_enter Tryd.func6, Tryd.ntmps6
  go_wp2_with fail
  refine HA.out.mono ?_
  rintro e w1 ⟨rfl, q1⟩
  obtain ⟨r, hr, hp1⟩ := HP1.out w1
  have HP1' := Lib.hid hp1
  have hsum : IntKind.i64.wrap (398 + (r : Int)) = 398 + (r : Int) := IntWalk.i64_in _ (by omega)
  clear hp1 HP1
  go_wp2_with fail
  refine HP1'.out.mono ?_
  rintro e w2 ⟨rfl, rfl⟩
  go_wp2_with fail
  obtain ⟨K, hK⟩ : ∃ K : Nat, K = 398 + r := ⟨_, rfl⟩
  have hKi : 398 + (r : Int) = (K : Int) := by omega
  rw [hKi] at *
  have hK2 : K ≤ 402 := by omega
  have HQ1 := Lib.hid q1
  clear hK hKi q1 hr hsum HP1'
  go_loopw [6, 7] (fun tv i wr => ∃ (j : Nat) (t : List UInt8) (b : Option Addr) (c : Nat), j ≤ K ∧ i = .int .i64 j ∧ tv = .slice b t.length c ∧ Hid (t = drs j) ∧ t.length ≤ 8 * j ∧ Hid (OwnB 5 w.heap.size wr (.slice b t.length c) t) ∧ Hid (Below w.heap.size w wr)) (fun _ i _ => K - (intOf i).toNat)
  case atStart => exact ⟨0, [], none, 0, Nat.zero_le _, rfl, rfl, Lib.hid rfl, Nat.zero_le _, Lib.hid (OwnB.nil _ _ _), HQ1⟩
  case round =>
    clear HQ1
    obtain ⟨j, t, tb, tc, hj, rfl, rfl, ht, htl, hO, hwr⟩ := hrel
    by_cases hjn : j < K
    · have hjk : (j : Int) < K := by omega
      go_wp2_with (at_builtin; refine wpList_app_str _ rfl _ _ 49 9 rfl 5 i0 Tryd.underlying49 Tryd.underlying9 hi hz0 hz1 hz2 w.heap.size _ t rfl hO.out ⟨#[100, 114, 97, 105, 110, 32, 100, 59]⟩ rfl (by omega) (by decide) hwr.out.size ?_)
      intro b2 c2 T2 w2 e2 o2 q2 k2
      have HO2 := Lib.hid o2
      have HQ2 := Lib.hid (hwr.out.trans q2)
      have HT2 := Lib.hid (show T2 = drs (j + 1) by rw [e2.out, ht.out]; exact drs_snoc j)
      have hl2 : T2.length ≤ 8 * (j + 1) := by rw [HT2.out, drs_length]; exact Nat.le_refl _
      clear o2 q2 k2 e2 ht htl hO hwr
      go_wp2_with fail
      go_roundw
      case rel => exact ⟨j + 1, T2, b2, c2, by omega, by go_num, rfl, HT2, hl2, HO2, HQ2⟩
      case measure => simp [intOf]; omega
    · have hjK : j = K := by omega
      have hjk : ¬ (j : Int) < K := by omega
      subst hjK
      have hcv := conv_own (P := Tryd.prog) Tryd.underlying49 Tryd.underlying5 Tryd.underlying9 hO.out
      have hpd := parse_drs j (by omega)
      rw [← ht.out] at hpd
      have HPD := Lib.hid hpd
      have HP := Lib.hid (HPA.out t)
      clear hpd ht hO
      go_wp2_with fail
      refine (HP.out _ (by omega)).mono ?_
      rintro e w3 ⟨v3, rfl, r3, q3⟩
      obtain ⟨b3, _, _, c3, rfl, -, -, -⟩ := r3
      have HQ3 := Lib.hid (next hwr.out q3)
      clear hcv q3 hwr HP
      have hz : ((0 : Int) != 0) = false := by decide
      have h9 : ((9 : Int) != 9) = false := by decide
      have h32 : ((3200 : Int) != 3200) = false := by decide
      have HX : Hid (∀ (W : World), Below w.heap.size w W → True) := Lib.hid (fun _ _ => trivial)
      by_cases h4 : j ≤ 400
      · have h41 : ¬ (400 : Int) < j := by omega
        have h42 : (j : Int) ≤ 400 := by omega
        have he := HPD.out.1 h4
        rw [he]
        clear he HPD
        generalize (parse t).at = pat at *
        generalize (parse t).list.length = pln at *
        dsimp only
        go_wp2_with fail
        obtain ⟨c, hc, hp2⟩ := HP2.out w3
        have HP2' := Lib.hid hp2
        clear hp2 HP2
        refine HP2'.out.mono ?_
        rintro e w4 ⟨rfl, rfl⟩
        have hc0 : (0 : Int) ≤ c := by omega
        have hc25 : (c : Int) ≤ 25 := by omega
        have HCT := Lib.hid (cut_at (c := c) (by omega))
        have hex : (⟨#[112, 111, 115, 116, 32, 112, 32, 99, 101, 110, 116, 101, 114, 32, 51, 32, 52, 32, 115, 105, 122, 101, 32, 50, 59]⟩ : ByteArray).extract 0 c = ⟨(pst.take c).toArray⟩ := extract_take _ c
        have HP3 := Lib.hid (HPA.out (pst.take c))
        have hpl : (pst.take c).length ≤ 20000 := by rw [List.length_take]; have : pst.length = 25 := rfl; omega
        by_cases hc1 : c = 0
        · have e0 := HCT.out.1 hc1
          have hb : ((c : Int) == 0) = true := beq_iff_eq.2 (by omega)
          clear hc1 HCT
          go_wp2_with fail
          refine (HP3.out _ hpl).mono ?_
          rintro e w5 ⟨v5, rfl, r5, q5⟩
          rw [e0] at r5 ⊢
          obtain ⟨b5, _, _, c5, rfl, -, -, -⟩ := r5
          dsimp only [SR.err, SR.at, SR.list, List.length] at *
          go_wp2_with fail
          go_ret
          exact ⟨rfl, next HQ3.out q5⟩
        · obtain ⟨pp, e0, e1⟩ := HCT.out.2 hc1
          have hb : ((c : Int) == 0) = false := beq_eq_false_iff_ne.2 (by omega)
          clear hc1 HCT
          go_wp2_with fail
          refine (HP3.out _ hpl).mono ?_
          rintro e w5 ⟨v5, rfl, r5, q5⟩
          rw [e0] at r5 ⊢
          obtain ⟨b5, _, _, c5, rfl, -, -, -⟩ := r5
          dsimp only [SR.err, SR.at, SR.list, List.length] at *
          go_wp2_with fail
          go_ret
          exact ⟨rfl, next HQ3.out q5⟩
      · have h41 : (400 : Int) < j := by omega
        have h42 : ¬ (j : Int) ≤ 400 := by omega
        have he := HPD.out.2 (by omega)
        rw [he]
        clear he HPD
        dsimp only [SR.err, SR.at, SR.list, List.length]
        go_wp2_with fail
        obtain ⟨c, hc, hp2⟩ := HP2.out w3
        have HP2' := Lib.hid hp2
        clear hp2 HP2
        refine HP2'.out.mono ?_
        rintro e w4 ⟨rfl, rfl⟩
        have hc0 : (0 : Int) ≤ c := by omega
        have hc25 : (c : Int) ≤ 25 := by omega
        have HCT := Lib.hid (cut_at (c := c) (by omega))
        have hex : (⟨#[112, 111, 115, 116, 32, 112, 32, 99, 101, 110, 116, 101, 114, 32, 51, 32, 52, 32, 115, 105, 122, 101, 32, 50, 59]⟩ : ByteArray).extract 0 c = ⟨(pst.take c).toArray⟩ := extract_take _ c
        have HP3 := Lib.hid (HPA.out (pst.take c))
        have hpl : (pst.take c).length ≤ 20000 := by rw [List.length_take]; have : pst.length = 25 := rfl; omega
        by_cases hc1 : c = 0
        · have e0 := HCT.out.1 hc1
          have hb : ((c : Int) == 0) = true := beq_iff_eq.2 (by omega)
          clear hc1 HCT
          go_wp2_with fail
          refine (HP3.out _ hpl).mono ?_
          rintro e w5 ⟨v5, rfl, r5, q5⟩
          rw [e0] at r5 ⊢
          obtain ⟨b5, _, _, c5, rfl, -, -, -⟩ := r5
          dsimp only [SR.err, SR.at, SR.list, List.length] at *
          go_wp2_with fail
          go_ret
          exact ⟨rfl, next HQ3.out q5⟩
        · obtain ⟨pp, e0, e1⟩ := HCT.out.2 hc1
          have hb : ((c : Int) == 0) = false := beq_eq_false_iff_ne.2 (by omega)
          clear hc1 HCT
          go_wp2_with fail
          refine (HP3.out _ hpl).mono ?_
          rintro e w5 ⟨v5, rfl, r5, q5⟩
          rw [e0] at r5 ⊢
          obtain ⟨b5, _, _, c5, rfl, -, -, -⟩ := r5
          dsimp only [SR.err, SR.at, SR.list, List.length] at *
          go_wp2_with fail
          go_ret
          exact ⟨rfl, next HQ3.out q5⟩
end Go.Proofs.YtcjgfleaoibdbaaDoor

namespace Go.Proofs.YtcjgfleaoibdbaaDoor
open Go.RowKit SC PB SS
theorem tab_third {P : Program} {W : World} {name : String} {k : IntKind} {zs : List Int} {x y : String × DataW Unit} {rest : List (String × DataW Unit)} {g : Nat} {t e : TypeId} {n : Nat}
    (hg : P.globalNamed name = some g) (hty : (P.globals[g]?).map (·.type) = some t) (ht : P.underlying t = some (.array n e)) (he : P.underlying e = some (.int k)) (hce : P.cellsOf e = 1) (hct : P.cellsOf t = n)
    (h : laidMet P (x :: y :: (name, Lib.tabData k zs) :: rest) W) : Lib.TabIs P W name k zs := by
  obtain ⟨ps, ⟨_, _, _, _, _, q1, _, _, _, _, ⟨_, _, _, _, _, q2, _, _, _, _, ⟨g', t', cs, fuel, p, q, hg', ht', hvar, hd, _, _⟩, _⟩, _⟩, _⟩ := h
  obtain rfl := Option.some.inj (hg.symm.trans hg')
  obtain rfl := Option.some.inj (hty.symm.trans ht')
  unfold Lib.TabIs
  rw [hvar, ← Lib.cells_of_tab ht he hce hct hd]
set_option maxRecDepth 100000 in
theorem tab_laid (W : World) (h : laidMetH Tryd.prog Rows.sourceManyRow.laid W) : Lib.TabBelow Tryd.prog W.heap.size W "internal/strconv.uint64pow10" .u64 Lib.pow10Tab := by
  rw [MakeChecks.laidMetH_plain _ _ _ (by kernel_rfl)] at h
  have e : (Rows.laid_internal_strconv_uint64pow10 : DataW Unit) = Lib.tabData .u64 Lib.pow10Tab := by kernel_rfl
  unfold Rows.sourceManyRow at h
  dsimp only at h
  rw [e] at h
  refine Lib.tabBelow_of_tabIs (tab_third (g := (Tryd.prog.globalNamed "internal/strconv.uint64pow10").getD 0) (t := 132) (e := 111) (n := 20) (by kernel_rfl) (by kernel_rfl) (by kernel_rfl) (by kernel_rfl) (by kernel_rfl) (by kernel_rfl) h)
end Go.Proofs.YtcjgfleaoibdbaaDoor

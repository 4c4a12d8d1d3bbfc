/-
  SourceAgain: its walk.
  The table of powers of ten, as it is laid.
-/
import Derived.Test.YtcjgfleaoibdbaaDoorCards
import Derived.LaidMore
import Derived.Lib.LaidTab
import Derived.Lib.AppendIntMem
import Derived.Test.YtcjgfleaoibdbaaDoorM22
import Derived.Test.YtcjgfleaoibdbaaDoorM24
namespace SS
open Go Go.RowKit PB SC
theorem sameKB_symm (x y : K) (h : sameKB x y = true) : sameKB y x = true := by
  unfold sameKB at h ⊢
  simp only [Bool.and_eq_true, decide_eq_true_eq, beq_iff_eq] at h ⊢
  exact ⟨h.1.symm, h.2.symm⟩
theorem sameIB_symm (x y : I) (h : sameIB x y = true) : sameIB y x = true := by
  unfold sameIB at h ⊢
  simp only [Bool.and_eq_true, decide_eq_true_eq] at h ⊢
  exact ⟨h.1.symm, h.2.1.symm, allB_symm sameKB_symm h.2.2⟩
theorem RdI.shape {w : World} {v : Value} {l : List I} (h : RdI w v l) : ∃ (b : Option Addr) (c : Nat), v = .slice b l.length c := by
  obtain ⟨b, _, _, c, rfl, _⟩ := h
  exact ⟨b, c, rfl⟩
theorem okI_of {m : List I} (h : ∀ x ∈ m, IOk x) : (∀ x ∈ m, OkI x) ∧ ∀ x ∈ m, x.keys.length ≤ 1000000 ∧ ∀ k ∈ x.keys, k.vals.length ≤ 1000000 := ⟨fun x hx => (h x hx).ok, fun x hx => (h x hx).ok.same⟩
end SS
namespace Go.Proofs.YtcjgfleaoibdbaaDoor
open Go.RowKit SC PB SS
set_option maxHeartbeats 8000000 in
set_option maxRecDepth 100000 in
theorem again_any (s : ByteArray) (w : World) (hs : s.size ≤ 9223372036854775807) (htab : Lib.TabBelow Tryd.prog w.heap.size w "internal/strconv.uint64pow10" .u64 Lib.pow10Tab) :
    Calls Tryd.prog 5 #[.string s] w fun e w' => e = .returned (.bool true) ∧ Below w.heap.size w w' := by
  have HA := Lib.hid (fun W (hb : Below w.heap.size w W) => awake_any W (tab_mono htab hb hb.size))
  have HP := Lib.hid (fun W => parse_any s W hs)
  have hz : ((0 : Int) != 0) = false := by decide
  have hz2 : ((0 : Int) == 0) = true := by decide
  cases hp : parse s.data.toList with
  | bad er pos =>
    have hne := parse_ne hp
    have hnb : (er != 0) = true := by simp [bne, hne]
    rw [hp] at HP
    clear htab hp
    go_enter Tryd.func5, Tryd.ntmps5
    go_wp2_with fail
    refine (HA.out _ (Below.refl _ _)).mono ?_
    rintro e w1 ⟨rfl, q1⟩
    go_wp2_with fail
    refine (HP.out _).mono ?_
    rintro e w2 ⟨v2, rfl, r2, q2⟩
    obtain ⟨b2, c2, rfl⟩ := r2.shape
    have hq := next q1 q2
    clear r2
    dsimp only [SR.err, SR.at, SR.list, List.length]
    go_wp2_with fail
    go_ret
    exact ⟨rfl, hq⟩
  | ok l =>
    rw [hp] at HP
    obtain ⟨hokl, hsl⟩ := okI_of (parse_ok hp).1
    have hnl := (parse_ok hp).2
    have hsl2 : s.data.toList.length = s.size := by simp
    by_cases hsz : s.size ≤ 10000
    · obtain ⟨m, f1, p2, f2, hsm, ht⟩ := again_plain hp (by omega)
      obtain ⟨hokm, hsm2⟩ := okI_of (parse_ok p2).1
      have hnm := (parse_ok p2).2
      have HF1 := Lib.hid (fun v W (h : RdI W v l) (hb : Below w.heap.size w W) => format_any l v W h hokl (by omega) (tab_mono htab hb hb.size))
      have HF2 := Lib.hid (fun v W (h : RdI W v m) (hb : Below w.heap.size w W) => format_any m v W h hokm (by omega) (tab_mono htab hb hb.size))
      rw [f1] at HF1
      rw [f2] at HF2
      dsimp only [strO, Option.isSome] at HF1 HF2
      have HP2 := Lib.hid (fun (W : World) => (show Calls Tryd.prog 8 #[.string ⟨(fullL l).toArray⟩] W (RetS (parse (fullL l)) W) from parse_any ⟨(fullL l).toArray⟩ W (by rw [size_mk]; omega)))
      rw [p2] at HP2
      have HI1 := Lib.hid (fun v W (h : RdI W v l) => items_any l v W h (by omega) hsl)
      have HI2 := Lib.hid (fun v W (h : RdI W v m) => items_any m v W h (by omega) hsm2)
      have HS := Lib.hid (fun u v W (h : RdI W u l) (h' : RdI W v m) => rsame_any l m u v W h h' (allB_symm sameIB_symm hsm) (by omega) hsl)
      have hsz' : ¬ (10000 : Int) < s.size := by omega
      generalize (⟨(fullL l).toArray⟩ : ByteArray) = T at *
      have hTT := beq_str_dec T T
      rw [decide_eq_true rfl] at hTT
      clear htab hp f1 f2 p2 hsm ht hokl hsl hokm hsm2 hsz hsl2
      go_enter Tryd.func5, Tryd.ntmps5
      go_wp2_with fail
      refine (HA.out _ (Below.refl _ _)).mono ?_
      rintro e w1 ⟨rfl, q1⟩
      go_wp2_with fail
      refine (HP.out _).mono ?_
      rintro e w2 ⟨v2, rfl, r2, q2⟩
      obtain ⟨b2, c2, rfl⟩ := r2.shape
      have q12 := next q1 q2
      dsimp only [SR.err, SR.at, SR.list] at r2 ⊢
      have HR2 := Lib.hid r2
      clear r2
      go_wp2_with fail
      refine (HF1.out _ _ HR2.out q12).mono ?_
      rintro e w3 ⟨rfl, q3⟩
      have q13 := next q12 q3
      have HR3 := Lib.hid (HR2.out.kept q3)
      go_wp2_with fail
      refine (HP2.out _).mono ?_
      rintro e w4 ⟨v4, rfl, r4, q4⟩
      obtain ⟨b4, c4, rfl⟩ := r4.shape
      have q14 := next q13 q4
      dsimp only [SR.err, SR.at, SR.list] at r4 ⊢
      have HR4 := Lib.hid (HR3.out.kept q4)
      have HM4 := Lib.hid r4
      clear r4
      go_wp2_with fail
      refine (HF2.out _ _ HM4.out q14).mono ?_
      rintro e w5 ⟨rfl, q5⟩
      have q15 := next q14 q5
      have HR5 := Lib.hid (HR4.out.kept q5)
      have HM5 := Lib.hid (HM4.out.kept q5)
      clear HR2 HR3 HR4 HM4 q1 q2 q12 q3 q13 q4 q14 q5
      go_wp2_with fail
      refine (HI1.out _ _ HR5.out).mono ?_
      rintro e w6 ⟨v6, rfl, r6, q6⟩
      have q16 := next q15 q6
      have HM6 := Lib.hid (HM5.out.kept q6)
      go_wp2_with fail
      refine (HI2.out _ _ HM6.out).mono ?_
      rintro e w7 ⟨v7, rfl, r7, q7⟩
      have q17 := next q16 q7
      have HR7 := Lib.hid (r6.kept q7)
      have HM7 := Lib.hid r7
      obtain ⟨b6, c6, rfl⟩ := r6.shape
      obtain ⟨b7, c7, rfl⟩ := r7.shape
      clear r6 r7
      go_wp2_with fail
      refine (HS.out _ _ _ HR7.out HM7.out).mono ?_
      rintro e w8 ⟨rfl, q8⟩
      have q18 := next q17 q8
      go_wp2_with fail
      go_ret
      exact ⟨rfl, q18⟩
    · have hsz' : (10000 : Int) < s.size := by omega
      clear htab hp hokl hsl hnl hsl2
      go_enter Tryd.func5, Tryd.ntmps5
      go_wp2_with fail
      refine (HA.out _ (Below.refl _ _)).mono ?_
      rintro e w1 ⟨rfl, q1⟩
      go_wp2_with fail
      refine (HP.out _).mono ?_
      rintro e w2 ⟨v2, rfl, r2, q2⟩
      obtain ⟨b2, c2, rfl⟩ := r2.shape
      have q12 := next q1 q2
      clear r2
      dsimp only [SR.err, SR.at, SR.list]
      go_wp2_with fail
      refine (HA.out _ q12).mono ?_
      rintro e w3 ⟨rfl, q3⟩
      have q13 := next q12 q3
      go_wp2_with fail
      go_ret
      exact ⟨rfl, q13⟩
end Go.Proofs.YtcjgfleaoibdbaaDoor

namespace Go.Proofs.YtcjgfleaoibdbaaDoor
open Go.RowKit SC PB SS
theorem tab_third {P : Program} {W : World} {name : String} {k : IntKind} {zs : List Int} {x y : String × DataW Unit} {rest : List (String × DataW Unit)} {g : Nat} {t e : TypeId} {n : Nat}
    (hg : P.globalNamed name = some g) (hty : (P.globals[g]?).map (·.type) = some t) (ht : P.underlying t = some (.array n e)) (he : P.underlying e = some (.int k)) (hce : P.cellsOf e = 1) (hct : P.cellsOf t = n)
    (h : laidMet P (x :: y :: (name, Lib.tabData k zs) :: rest) W) : Lib.TabIs P W name k zs := by
  obtain ⟨ps, ⟨_, _, _, _, _, q1, _, _, _, _, ⟨_, _, _, _, _, q2, _, _, _, _, ⟨g', t', cs, fuel, p, q, hg', ht', hvar, hd, _, _⟩, _⟩, _⟩, _⟩ := h
  obtain rfl := Option.some.inj (hg.symm.trans hg')
  obtain rfl := Option.some.inj (hty.symm.trans ht')
  unfold Lib.TabIs
  rw [hvar, ← Lib.cells_of_tab ht he hce hct hd]
set_option maxRecDepth 100000 in
theorem tab_laid (W : World) (h : laidMetH Tryd.prog Rows.sourceManyRow.laid W) : Lib.TabBelow Tryd.prog W.heap.size W "internal/strconv.uint64pow10" .u64 Lib.pow10Tab := by
  rw [MakeChecks.laidMetH_plain _ _ _ (by kernel_rfl)] at h
  have e : (Rows.laid_internal_strconv_uint64pow10 : DataW Unit) = Lib.tabData .u64 Lib.pow10Tab := by kernel_rfl
  unfold Rows.sourceManyRow at h
  dsimp only at h
  rw [e] at h
  refine Lib.tabBelow_of_tabIs (tab_third (g := (Tryd.prog.globalNamed "internal/strconv.uint64pow10").getD 0) (t := 132) (e := 111) (n := 20) (by kernel_rfl) (by kernel_rfl) (by kernel_rfl) (by kernel_rfl) (by kernel_rfl) (by kernel_rfl) h)
end Go.Proofs.YtcjgfleaoibdbaaDoor

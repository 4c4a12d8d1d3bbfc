/-
  SourceParses: its walk.
  The table of powers of ten, as it is laid.
-/
import Derived.Test.YtdikoeeoglfmaaaDoorCards
import Derived.LaidMore
import Derived.Lib.LaidTab
import Derived.Lib.AppendIntMem
import Derived.Test.YtdikoeeoglfmaaaDoorM21
import Derived.Test.YtdikoeeoglfmaaaDoorM27
import Derived.Test.YtdikoeeoglfmaaaDoorM28
namespace SS
open Go Go.RowKit PB SC
theorem sameKB_refl (x : K) : sameKB x x = true := by unfold sameKB; simp
theorem allB_refl {α : Type} {f : α → α → Bool} (h : ∀ x, f x x = true) : ∀ l : List α, allB f l l = true
  | [] => rfl
  | x :: l => by unfold allB; rw [h x, allB_refl h l]; rfl
theorem sameIB_refl (x : I) : sameIB x x = true := by unfold sameIB; simp [allB_refl sameKB_refl]
theorem list_ok (s : List UInt8) : (parse s).list.length ≤ 1000000 ∧ ∀ x ∈ (parse s).list, x.keys.length ≤ 1000000 ∧ ∀ k ∈ x.keys, k.vals.length ≤ 1000000 := by
  cases hp : parse s with
  | bad e p => exact ⟨by simp [SR.list], fun x hx => by simp [SR.list] at hx⟩
  | ok m =>
    obtain ⟨_, h2⟩ := okI_of (parse_ok hp).1
    have h3 := (parse_ok hp).2
    exact ⟨by show m.length ≤ 1000000; omega, h2⟩
end SS
namespace Go.Proofs.YtdikoeeoglfmaaaDoor
open Go.RowKit SC PB SS
set_option maxHeartbeats 8000000 in
set_option maxRecDepth 100000 in
theorem parses_any (s : ByteArray) (w : World) (hs : s.size ≤ 9223372036854775807) (htab : Lib.TabBelow Tryd.prog w.heap.size w "internal/strconv.uint64pow10" .u64 Lib.pow10Tab) :
    Calls Tryd.prog 3 #[.string s] w fun e w' => e = .returned (.bool true) ∧ Below w.heap.size w w' := by
  have HA := Lib.hid (fun W (hb : Below w.heap.size w W) => awake_any W (tab_mono htab hb hb.size))
  have HP := Lib.hid (fun W => parse_any s W hs)
  have HQ := Lib.hid (fun W => rparse_any s W hs)
  obtain ⟨hn, hok⟩ := list_ok s.data.toList
  have HI := Lib.hid (fun v W (h : RdI W v (parse s.data.toList).list) => items_any _ v W h hn hok)
  have HS := Lib.hid (fun u v W (h : RdI W u (parse s.data.toList).list) (h' : RdI W v (parse s.data.toList).list) => rsame_any _ _ u v W h h' (allB_refl sameIB_refl _) hn hok)
  have HL := Lib.hid (fun u v W (h : RdI W u (parse s.data.toList).list) (h' : RdI W v (parse s.data.toList).list) => places_any _ u v W h h' hn (fun x hx => (hok x hx).1))
  unfold RetS at HP HQ
  generalize parse s.data.toList = R at *
  generalize R.err = er at *
  generalize R.at = pa at *
  generalize R.list = l at *
  have h1 : (er == er) = true := by simp
  have h2 : (pa == pa) = true := by simp
  clear htab hn hok hs
  go_enter Tryd.func3, Tryd.ntmps3
  go_wp2_with fail
  refine (HA.out _ (Below.refl _ _)).mono ?_
  rintro e w1 ⟨rfl, q1⟩
  go_wp2_with fail
  refine (HP.out _).mono ?_
  rintro e w2 ⟨v2, rfl, r2, q2⟩
  obtain ⟨b2, c2, rfl⟩ := r2.shape
  have q12 := next q1 q2
  have HR2 := Lib.hid r2
  clear r2
  go_wp2_with fail
  refine (HQ.out _).mono ?_
  rintro e w3 ⟨v3, rfl, r3, q3⟩
  obtain ⟨b3, c3, rfl⟩ := r3.shape
  have q13 := next q12 q3
  have HR3 := Lib.hid (HR2.out.kept q3)
  have HM3 := Lib.hid r3
  clear r3 HR2 q12 q1 q2
  go_wp2_with fail
  refine (HI.out _ _ HR3.out).mono ?_
  rintro e w4 ⟨v4, rfl, r4, q4⟩
  obtain ⟨b4, c4, rfl⟩ := r4.shape
  have q14 := next q13 q4
  have HR4 := Lib.hid r4
  have HM4 := Lib.hid (HM3.out.kept q4)
  clear r4 HR3 HM3 q13
  go_wp2_with fail
  refine (HS.out _ _ _ HR4.out HM4.out).mono ?_
  rintro e w5 ⟨rfl, q5⟩
  have q15 := next q14 q5
  have HR5 := Lib.hid (HR4.out.kept q5)
  have HM5 := Lib.hid (HM4.out.kept q5)
  go_wp2_with fail
  refine (HL.out _ _ _ HR5.out HM5.out).mono ?_
  rintro e w6 ⟨rfl, q6⟩
  have q16 := next q15 q6
  go_wp2_with fail
  go_ret
  exact ⟨rfl, q16⟩
end Go.Proofs.YtdikoeeoglfmaaaDoor

namespace Go.Proofs.YtdikoeeoglfmaaaDoor
open Go.RowKit SC PB SS
theorem tab_third {P : Program} {W : World} {name : String} {k : IntKind} {zs : List Int} {x y : String × DataW Unit} {rest : List (String × DataW Unit)} {g : Nat} {t e : TypeId} {n : Nat}
    (hg : P.globalNamed name = some g) (hty : (P.globals[g]?).map (·.type) = some t) (ht : P.underlying t = some (.array n e)) (he : P.underlying e = some (.int k)) (hce : P.cellsOf e = 1) (hct : P.cellsOf t = n)
    (h : laidMet P (x :: y :: (name, Lib.tabData k zs) :: rest) W) : Lib.TabIs P W name k zs := by
  obtain ⟨ps, ⟨_, _, _, _, _, q1, _, _, _, _, ⟨_, _, _, _, _, q2, _, _, _, _, ⟨g', t', cs, fuel, p, q, hg', ht', hvar, hd, _, _⟩, _⟩, _⟩, _⟩ := h
  obtain rfl := Option.some.inj (hg.symm.trans hg')
  obtain rfl := Option.some.inj (hty.symm.trans ht')
  unfold Lib.TabIs
  rw [hvar, ← Lib.cells_of_tab ht he hce hct hd]
set_option maxRecDepth 100000 in
theorem tab_laid (W : World) (h : laidMetH Tryd.prog Rows.sourceManyRow.laid W) : Lib.TabBelow Tryd.prog W.heap.size W "internal/strconv.uint64pow10" .u64 Lib.pow10Tab := by
  rw [MakeChecks.laidMetH_plain _ _ _ (by kernel_rfl)] at h
  have e : (Rows.laid_internal_strconv_uint64pow10 : DataW Unit) = Lib.tabData .u64 Lib.pow10Tab := by kernel_rfl
  unfold Rows.sourceManyRow at h
  dsimp only at h
  rw [e] at h
  refine Lib.tabBelow_of_tabIs (tab_third (g := (Tryd.prog.globalNamed "internal/strconv.uint64pow10").getD 0) (t := 132) (e := 111) (n := 20) (by kernel_rfl) (by kernel_rfl) (by kernel_rfl) (by kernel_rfl) (by kernel_rfl) (by kernel_rfl) h)
end Go.Proofs.YtdikoeeoglfmaaaDoor

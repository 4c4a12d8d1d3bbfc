/-
  Motions and vectors that came in as arguments.
-/
import Derived.Test.YtmfmbglacebeiaaRows
import Derived.Test.YtmfmbglacebeiaaFlM
import Derived.ProofKit
import Derived.OpenShut
import Derived.Lib.SmallJoins
import Derived.Deep.Strs
namespace FL
/-- An int of Go. -/
def I64 (n : Int) : Prop := -9223372036854775808 ≤ n ∧ n ≤ 9223372036854775807
end FL
namespace Go.Proofs.Ytmfmbglacebeiaa
open Go.ChangeShapes Go.WideShapes Go.ChangeAt Go.RowKit PB VB FL
set_option maxRecDepth 100000 in
theorem own0 : ownKnob Try.prog.godebug = none := by kernel_rfl
set_option maxRecDepth 100000 in
theorem laidOut0 : laidOutB Try.prog = true := by kernel_rfl
set_option maxRecDepth 100000 in
theorem wf_i64 {n : Int} (h : (Lit.int .i64 n).wf = true) : FL.I64 n := by
  unfold Lit.wf at h
  simp only [Bool.and_eq_true, decide_eq_true_eq] at h
  exact ⟨h.1, h.2⟩
set_option maxRecDepth 100000 in
theorem vec_cells {H : Type} {enc : TypeId × Value → H} {W : World} {fuel : Nat} {c0 c1 : Value} {x : DataW H × List MemPlace}
    (h : DataW.trod enc Try.prog W 0 (fun _ => true) true fuel 23 [c0, c1] = some x) :
    ∃ a b : Int, c0 = .int .i64 a ∧ c1 = .int .i64 b ∧ FL.I64 a ∧ FL.I64 b := by
  obtain ⟨y0, y1, n, _, _, h0, h1⟩ := trod_struct2 Try.underlying23 h
  have h0' : DataW.trod enc Try.prog W 0 (fun _ => true) true n 3 [c0] = some y0 := h0
  have h1' : DataW.trod enc Try.prog W 0 (fun _ => true) true n 3 [c1] = some y1 := h1
  obtain ⟨a, ha, _, wa⟩ := DataW.trod_int Try.underlying3 h0'
  obtain ⟨b, hb, _, wb⟩ := DataW.trod_int Try.underlying3 h1'
  exact ⟨a, b, by simpa using ha, by simpa using hb, wf_i64 wa, wf_i64 wb⟩
set_option maxRecDepth 100000 in
theorem open_mo {H : Type} {enc : TypeId × Value → H} {W : World} {base : Nat} {v : Value} {d : DataW H} {p : List MemPlace}
    (hv : Value.okWide Try.prog W .any base 25 v) (h : DataW.Trod enc Try.prog W 0 (fun _ => true) true 25 v d p) :
    ∃ px py vx vy hx hy : Int, v = mo px py vx vy hx hy ∧ FL.I64 px ∧ FL.I64 py ∧ FL.I64 vx ∧ FL.I64 vy ∧ FL.I64 hx ∧ FL.I64 hy := by
  obtain ⟨cs, rfl, hsz⟩ := okWide_struct Try.underlying25 hv
  have hsz' : cs.size = 6 := hsz.trans (by kernel_rfl)
  obtain ⟨l⟩ := cs
  match l, hsz' with
  | [c0, c1, c2, c3, c4, c5], _ =>
    obtain ⟨fuel, hf⟩ := h
    have hf' : DataW.trod enc Try.prog W 0 (fun _ => true) true fuel 25 [c0, c1, c2, c3, c4, c5] = _ := hf
    obtain ⟨y0, y1, y2, n, _, _, h0, h1, h2⟩ := Go.Deep.trod_struct3 Try.underlying25 hf'
    have h0' : DataW.trod enc Try.prog W 0 (fun _ => true) true n 23 [c0, c1] = some y0 := h0
    have h1' : DataW.trod enc Try.prog W 0 (fun _ => true) true n 23 [c2, c3] = some y1 := h1
    have h2' : DataW.trod enc Try.prog W 0 (fun _ => true) true n 23 [c4, c5] = some y2 := h2
    obtain ⟨a, b, rfl, rfl, wa, wb⟩ := vec_cells h0'
    obtain ⟨c, d, rfl, rfl, wc, wd⟩ := vec_cells h1'
    obtain ⟨e, f, rfl, rfl, we, wf⟩ := vec_cells h2'
    exact ⟨a, b, c, d, e, f, rfl, wa, wb, wc, wd, we, wf⟩
end Go.Proofs.Ytmfmbglacebeiaa

/-
  Vectors that came in as arguments.
-/
import Derived.Test.YtejodcpigfbnpaaRows
import Derived.Test.YtejodcpigfbnpaaVMul
import Derived.ProofKit
import Derived.OpenShut
import Derived.Lib.SmallJoins
namespace Go.Proofs.Ytejodcpigfbnpaa
open Go.ChangeShapes Go.WideShapes Go.ChangeAt Go.RowKit PB VB
set_option maxRecDepth 100000 in
theorem own0 : ownKnob Try.prog.godebug = none := by kernel_rfl
set_option maxRecDepth 100000 in
theorem laidOut0 : laidOutB Try.prog = true := by kernel_rfl
set_option maxRecDepth 100000 in
theorem wf_i64 {n : Int} (h : (Lit.int .i64 n).wf = true) : I64 n := by
  unfold Lit.wf at h
  simp only [Bool.and_eq_true, decide_eq_true_eq] at h
  exact ⟨h.1, h.2⟩
set_option maxRecDepth 100000 in
theorem open_vec {H : Type} {enc : TypeId × Value → H} {W : World} {base : Nat} {v : Value} {d : DataW H} {p : List MemPlace}
    (hv : Value.okWide Try.prog W .any base 23 v) (h : DataW.Trod enc Try.prog W 0 (fun _ => true) true 23 v d p) :
    ∃ x y : Int, v = vec x y ∧ I64 x ∧ I64 y := by
  obtain ⟨v0, v1, y0, y1, k, rfl, _, _, h0, h1⟩ := Go.Joins.open_agg2 Try.underlying23 (by kernel_rfl) (by kernel_rfl) hv h
  obtain ⟨x, hx, _, wx⟩ := DataW.trod_int Try.underlying3 h0
  obtain ⟨y, hy, _, wy⟩ := DataW.trod_int Try.underlying3 h1
  obtain rfl : v0 = .int .i64 x := by simpa using hx
  obtain rfl : v1 = .int .i64 y := by simpa using hy
  exact ⟨x, y, rfl, wf_i64 wx, wf_i64 wy⟩
end Go.Proofs.Ytejodcpigfbnpaa

/-
  Stage 1, P1.5: at any text and any integer the law IntegerText returns true and leaves its inputs as they were.
-/
import Derived.Test.YteggfjahjanabaaFrame
import Derived.Test.YteggfjahjanabaaTxtL
import Derived.ChangeMaps5
namespace Go.Proofs.Yteggfjahjanabaa
open Go.ChangeShapes Go.WideShapes Go.ChangeAt Go.RowKit PB

theorem own0 : ownKnob Try.prog.godebug = none := by kernel_rfl
theorem laidOut0 : laidOutB Try.prog = true := by kernel_rfl
theorem txt_any (s : ByteArray) (sa : Bool) (qa : Option Addr) (na ca : Nat) (w : World) (ha : na ≤ 40 → ∃ z, IsInt w (.agg #[.bool sa, .slice qa na ca]) z) :
    Calls Try.prog 4 #[.string s, .agg #[.bool sa, .slice qa na ca]] w fun e w' => e = .returned (.bool true) ∧ Below w.heap.size w w' := by
  by_cases ls : s.size ≤ 4000
  · by_cases la : na ≤ 40
    · obtain ⟨a, ia⟩ := ha la
      exact txt_main s sa qa na ca a w ia la ls
    · exact txt_b s sa qa na ca w ls la
  · exact txt_a s sa qa na ca w (by omega)

set_option maxRecDepth 100000 in
theorem txt_lifted (os : Os) (started : os.Started) (H : Type) (enc : TypeId × Value → H) :
    ReturnsInHanded {} Try.checked os 4 .any (Rows.integerTextSpec.pre6 enc Try.prog Try.f4 Rows.integerTextRow.domain false) (Rows.integerTextSpec.post enc Try.prog Try.f4 false true false false) := by
  refine returnsInHanded_of_change (C := Try.checked) own0 started (by kernel_rfl) Try.func4
    (ChangeSpec.witness6 (enc := enc) (C := Try.checked) false ⟨#[], #[.string ⟨#[]⟩, .agg #[.bool false, .slice none 0 0]], []⟩ 8 (by kernel_rfl) (by kernel_rfl) (by kernel_rfl) (by kernel_rfl)) ?_
  intro W base args ds gs before hval0 hW hcnd _
  have hval : ∀ (j : Nat) t v, Try.f4.params[j]? = some t → args[j]? = some v → Value.okWide Try.prog W .any base t v := hval0
  have hW' := hW
  obtain ⟨p, q, hA0, hV, rfl, hfz, hnd⟩ := hW
  have hA : DataW.TrodAll enc Try.prog W 0 (fun _ => true) true Try.f4.params.toList args.toList ds p := hA0
  rw [Try.params4] at hA hval
  obtain ⟨v1, vs1, d1, ds1, p1, q1, hargs, rfl, rfl, h1, r1⟩ := trodAll_cons hA
  obtain ⟨v2, vs2, d2, ds2, p2, q2, rfl, rfl, rfl, h2, r2⟩ := trodAll_cons r1
  obtain ⟨rfl, rfl, rfl⟩ := trodAll_nil r2
  obtain rfl : args = #[v1, v2] := by cases args; simp_all
  obtain ⟨rfl, rfl⟩ := trodVars_none hV
  have k1 := h1
  have k2 := h2
  have lt1 : ∀ x ∈ p1, x.block < W.heap.size := by obtain ⟨m, hm⟩ := k1; exact DataW.trod_lt m _ _ _ hm
  have lt2 : ∀ x ∈ p2, x.block < W.heap.size := by obtain ⟨m, hm⟩ := k2; exact DataW.trod_lt m _ _ _ hm
  obtain ⟨n1, rfl, _⟩ := Go.ChangeMaps.open_string Try.underlying9 (hval 0 _ v1 rfl rfl) h1
  obtain ⟨s2, a2, n2, c2, rfl, i2⟩ := open_arg (hval 1 _ v2 rfl rfl) h2
  clear hA0 hval0
  refine (txt_any n1 s2 a2 n2 c2 W i2).mono fun e W' ⟨he, bel⟩ => ?_
  subst he
  exact ⟨_, rfl, _, _, _, [], _, [], hW', trodAll_mk1 (shut_bool Try.underlying4 _), (trodAll_cons_mk (Below.trod laidOut0 (by kernel_rfl) (of_decide_eq_true (by kernel_rfl)) k1 bel lt1) (trodAll_cons_mk (Below.trod laidOut0 (by kernel_rfl) (of_decide_eq_true (by kernel_rfl)) k2 bel lt2) trodAll_mk0)), rfl, bel.frame _, fun h => by cases h⟩

theorem text_holds : Rows.IntegerTextSaid :=
  OpenClaim.holds_of_wide 4 Try.f4 rfl rfl rfl rfl rfl rfl rfl ⟨rfl, rfl, rfl, rfl, rfl⟩ rfl rfl rfl rfl rfl (by kernel_rfl) Try.func4 (by kernel_rfl)
    (of_decide_eq_true (by kernel_rfl)) (by unfold Func.isWrapper; first | (rw [if_pos (by decide +kernel)]; kernel_rfl) | (rw [if_neg (by decide +kernel)]; exact ⟨rfl, rfl⟩))
    (fun os started H enc _ => txt_lifted os started H enc)
end Go.Proofs.Yteggfjahjanabaa

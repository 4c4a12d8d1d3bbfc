/-
  Stage 1, P1.1 to P1.4: at any two integers and any word the law IntegerExact returns true and leaves its inputs as they were.
-/
import Derived.Test.YtmfimkndonlheaaM18
import Derived.Test.YtmfimkndonlheaaM52
import Derived.Test.YtmfimkndonlheaaM53
namespace Go.Proofs.Ytmfimkndonlheaa
open Go.ChangeShapes Go.WideShapes Go.ChangeAt Go.RowKit PB

theorem own0 : ownKnob Try.prog.godebug = none := by kernel_rfl
theorem laidOut0 : laidOutB Try.prog = true := by kernel_rfl

theorem ex_any (sa sb : Bool) (qa qb : Option Addr) (na nb ca cb : Nat) (k : Int) (w : World) (hk : (Lit.int .i64 k).wf = true)
    (ha : na ≤ 40 → ∃ z, IsInt w (.agg #[.bool sa, .slice qa na ca]) z) (hb : nb ≤ 40 → ∃ z, IsInt w (.agg #[.bool sb, .slice qb nb cb]) z) :
    Calls Try.prog 3 #[.agg #[.bool sa, .slice qa na ca], .agg #[.bool sb, .slice qb nb cb], .int .i64 k] w fun e w' => e = .returned (.bool true) ∧ Below w.heap.size w w' := by
  have lk2 : -9223372036854775808 ≤ k := by
    unfold Lit.wf at hk
    simp only [Bool.and_eq_true, decide_eq_true_eq] at hk
    exact hk.1
  by_cases la : na ≤ 40
  · by_cases lb : nb ≤ 40
    · by_cases lk : k ≤ 4000
      · obtain ⟨a, ia⟩ := ha la
        obtain ⟨b, ib⟩ := hb lb
        exact ex_small sa sb qa qb na nb ca cb a b k w ia ib la lb lk lk2
      · exact ex_c sa sb qa qb na nb ca cb k w la lb (by omega)
    · exact ex_b sa sb qa qb na nb ca cb k w la lb
  · exact ex_a sa sb qa qb na nb ca cb k w la

set_option maxRecDepth 100000 in
theorem ex_lifted (os : Os) (started : os.Started) (H : Type) (enc : TypeId × Value → H) :
    ReturnsInHanded {} Try.checked os 3 .any (Rows.integerExactSpec.pre6 enc Try.prog Try.f3 Rows.integerExactRow.domain false) (Rows.integerExactSpec.post enc Try.prog Try.f3 false true false false) := by
  refine returnsInHanded_of_change (C := Try.checked) own0 started (by kernel_rfl) Try.func3
    (ChangeSpec.witness6 (enc := enc) (C := Try.checked) false ⟨#[], #[.agg #[.bool false, .slice none 0 0], .agg #[.bool false, .slice none 0 0], .int .i64 0], []⟩ 8 (by kernel_rfl) (by kernel_rfl) (by kernel_rfl) (by kernel_rfl)) ?_
  intro W base args ds gs before hval0 hW hcnd _
  have hval : ∀ (j : Nat) t v, Try.f3.params[j]? = some t → args[j]? = some v → Value.okWide Try.prog W .any base t v := hval0
  have hW' := hW
  obtain ⟨p, q, hA0, hV, rfl, hfz, hnd⟩ := hW
  have hA : DataW.TrodAll enc Try.prog W 0 (fun _ => true) true Try.f3.params.toList args.toList ds p := hA0
  rw [Try.params3] at hA hval
  obtain ⟨v0, vs0, d0, ds0, p0, q0, hargs, rfl, rfl, h0, r0⟩ := trodAll_cons hA
  obtain ⟨v1, vs1, d1, ds1, p1, q1, rfl, rfl, rfl, h1, r1⟩ := trodAll_cons r0
  obtain ⟨v2, vs2, d2, ds2, p2, q2, rfl, rfl, rfl, h2, r2⟩ := trodAll_cons r1
  obtain ⟨rfl, rfl, rfl⟩ := trodAll_nil r2
  obtain rfl : args = #[v0, v1, v2] := by cases args; simp_all
  obtain ⟨rfl, rfl⟩ := trodVars_none hV
  have k0 := h0
  have k1 := h1
  have k2 := h2
  have lt0 : ∀ x ∈ p0, x.block < W.heap.size := by obtain ⟨m, hm⟩ := k0; exact DataW.trod_lt m _ _ _ hm
  have lt1 : ∀ x ∈ p1, x.block < W.heap.size := by obtain ⟨m, hm⟩ := k1; exact DataW.trod_lt m _ _ _ hm
  have lt2 : ∀ x ∈ p2, x.block < W.heap.size := by obtain ⟨m, hm⟩ := k2; exact DataW.trod_lt m _ _ _ hm
  obtain ⟨s0, a0, n0, c0, rfl, i0⟩ := open_arg (hval 0 _ v0 rfl rfl) h0
  obtain ⟨s1, a1, n1, c1, rfl, i1⟩ := open_arg (hval 1 _ v1 rfl rfl) h1
  obtain ⟨n2, rfl, _, _, hwf⟩ := open_int Try.underlying3 (hval 2 _ v2 rfl rfl) h2
  clear hA0 hval0
  refine (ex_any s0 s1 a0 a1 n0 n1 c0 c1 n2 W hwf i0 i1).mono fun e W' ⟨he, bel⟩ => ?_
  subst he
  exact ⟨_, rfl, _, _, _, [], _, [], hW', trodAll_mk1 (shut_bool Try.underlying4 _), (trodAll_cons_mk (Below.trod laidOut0 (by kernel_rfl) (of_decide_eq_true (by kernel_rfl)) k0 bel lt0) (trodAll_cons_mk (Below.trod laidOut0 (by kernel_rfl) (of_decide_eq_true (by kernel_rfl)) k1 bel lt1) (trodAll_cons_mk (Below.trod laidOut0 (by kernel_rfl) (of_decide_eq_true (by kernel_rfl)) k2 bel lt2) trodAll_mk0))), rfl, bel.frame _, fun h => by cases h⟩

theorem exact_holds : Rows.IntegerExactSaid :=
  OpenClaim.holds_of_wide 3 Try.f3 rfl rfl rfl rfl rfl rfl rfl ⟨rfl, rfl, rfl, rfl, rfl⟩ rfl rfl rfl rfl rfl (by kernel_rfl) Try.func3 (by kernel_rfl)
    (of_decide_eq_true (by kernel_rfl)) (by unfold Func.isWrapper; first | (rw [if_pos (by decide +kernel)]; kernel_rfl) | (rw [if_neg (by decide +kernel)]; exact ⟨rfl, rfl⟩))
    (fun os started H enc _ => ex_lifted os started H enc)
end Go.Proofs.Ytmfimkndonlheaa

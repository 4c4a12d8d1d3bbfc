/-
  Stage 1, P1.6: at any three integers the law IntegerRing returns true and leaves its inputs as they were.
-/
import Derived.Test.YteoafijokeoaoaaFrame
import Derived.Test.YteoafijokeoaoaaRing
import Derived.Test.YteoafijokeoaoaaRingO
namespace Go.Proofs.Yteoafijokeoaoaa
open Go.ChangeShapes Go.WideShapes Go.ChangeAt Go.RowKit PB

theorem own0 : ownKnob Try.prog.godebug = none := by kernel_rfl
theorem laidOut0 : laidOutB Try.prog = true := by kernel_rfl

theorem ring_any (sa sb sc : Bool) (qa qb qc : Option Addr) (na nb nc ca cb cc : Nat) (w : World)
    (ha : na ≤ 40 → ∃ z, IsInt w (.agg #[.bool sa, .slice qa na ca]) z) (hb : nb ≤ 40 → ∃ z, IsInt w (.agg #[.bool sb, .slice qb nb cb]) z) (hc : nc ≤ 40 → ∃ z, IsInt w (.agg #[.bool sc, .slice qc nc cc]) z) :
    Calls Try.prog 5 #[.agg #[.bool sa, .slice qa na ca], .agg #[.bool sb, .slice qb nb cb], .agg #[.bool sc, .slice qc nc cc]] w fun e w' => e = .returned (.bool true) ∧ Below w.heap.size w w' := by
  by_cases la : na ≤ 40
  · by_cases lb : nb ≤ 40
    · by_cases lc : nc ≤ 40
      · obtain ⟨a, ia⟩ := ha la
        obtain ⟨b, ib⟩ := hb lb
        obtain ⟨c, ic⟩ := hc lc
        exact ring_small sa sb sc qa qb qc na nb nc ca cb cc a b c w ia ib ic la lb lc
      · exact ring_c sa sb sc qa qb qc na nb nc ca cb cc w la lb lc
    · exact ring_b sa sb sc qa qb qc na nb nc ca cb cc w la lb
  · exact ring_a sa sb sc qa qb qc na nb nc ca cb cc w la

set_option maxRecDepth 100000 in
theorem ring_lifted (os : Os) (started : os.Started) (H : Type) (enc : TypeId × Value → H) :
    ReturnsInHanded {} Try.checked os 5 .any (Rows.integerRingSpec.pre6 enc Try.prog Try.f5 Rows.integerRingRow.domain false) (Rows.integerRingSpec.post enc Try.prog Try.f5 false true false false) := by
  refine returnsInHanded_of_change (C := Try.checked) own0 started (by kernel_rfl) Try.func5
    (ChangeSpec.witness6 (enc := enc) (C := Try.checked) false ⟨#[], #[.agg #[.bool false, .slice none 0 0], .agg #[.bool false, .slice none 0 0], .agg #[.bool false, .slice none 0 0]], []⟩ 8 (by kernel_rfl) (by kernel_rfl) (by kernel_rfl) (by kernel_rfl)) ?_
  intro W base args ds gs before hval0 hW hcnd _
  have hval : ∀ (j : Nat) t v, Try.f5.params[j]? = some t → args[j]? = some v → Value.okWide Try.prog W .any base t v := hval0
  have hW' := hW
  obtain ⟨p, q, hA0, hV, rfl, hfz, hnd⟩ := hW
  have hA : DataW.TrodAll enc Try.prog W 0 (fun _ => true) true Try.f5.params.toList args.toList ds p := hA0
  rw [Try.params5] at hA hval
  obtain ⟨v0, vs0, d0, ds0, p0, q0, hargs, rfl, rfl, h0, r0⟩ := trodAll_cons hA
  obtain ⟨v1, vs1, d1, ds1, p1, q1, rfl, rfl, rfl, h1, r1⟩ := trodAll_cons r0
  obtain ⟨v2, vs2, d2, ds2, p2, q2, rfl, rfl, rfl, h2, r2⟩ := trodAll_cons r1
  obtain ⟨rfl, rfl, rfl⟩ := trodAll_nil r2
  obtain rfl : args = #[v0, v1, v2] := by cases args; simp_all
  obtain ⟨rfl, rfl⟩ := trodVars_none hV
  have k0 := h0
  have k1 := h1
  have k2 := h2
  have lt0 : ∀ x ∈ p0, x.block < W.heap.size := by obtain ⟨m, hm⟩ := k0; exact DataW.trod_lt m _ _ _ hm
  have lt1 : ∀ x ∈ p1, x.block < W.heap.size := by obtain ⟨m, hm⟩ := k1; exact DataW.trod_lt m _ _ _ hm
  have lt2 : ∀ x ∈ p2, x.block < W.heap.size := by obtain ⟨m, hm⟩ := k2; exact DataW.trod_lt m _ _ _ hm
  obtain ⟨s0, a0, n0, c0, rfl, i0⟩ := open_arg (hval 0 _ v0 rfl rfl) h0
  obtain ⟨s1, a1, n1, c1, rfl, i1⟩ := open_arg (hval 1 _ v1 rfl rfl) h1
  obtain ⟨s2, a2, n2, c2, rfl, i2⟩ := open_arg (hval 2 _ v2 rfl rfl) h2
  clear hA0 hval0
  refine (ring_any s0 s1 s2 a0 a1 a2 n0 n1 n2 c0 c1 c2 W i0 i1 i2).mono fun e W' ⟨he, bel⟩ => ?_
  subst he
  exact ⟨_, rfl, _, _, _, [], _, [], hW', trodAll_mk1 (shut_bool Try.underlying4 _), (trodAll_cons_mk (Below.trod laidOut0 (by kernel_rfl) (of_decide_eq_true (by kernel_rfl)) k0 bel lt0) (trodAll_cons_mk (Below.trod laidOut0 (by kernel_rfl) (of_decide_eq_true (by kernel_rfl)) k1 bel lt1) (trodAll_cons_mk (Below.trod laidOut0 (by kernel_rfl) (of_decide_eq_true (by kernel_rfl)) k2 bel lt2) trodAll_mk0))), rfl, bel.frame _, fun h => by cases h⟩

theorem ring_holds : Rows.IntegerRingSaid :=
  OpenClaim.holds_of_wide 5 Try.f5 rfl rfl rfl rfl rfl rfl rfl ⟨rfl, rfl, rfl, rfl, rfl⟩ rfl rfl rfl rfl rfl (by kernel_rfl) Try.func5 (by kernel_rfl)
    (of_decide_eq_true (by kernel_rfl)) (by unfold Func.isWrapper; first | (rw [if_pos (by decide +kernel)]; kernel_rfl) | (rw [if_neg (by decide +kernel)]; exact ⟨rfl, rfl⟩))
    (fun os started H enc _ => ring_lifted os started H enc)
end Go.Proofs.Yteoafijokeoaoaa

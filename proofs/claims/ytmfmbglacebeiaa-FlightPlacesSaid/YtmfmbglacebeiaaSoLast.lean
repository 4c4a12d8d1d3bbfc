/-
  A region that draws its order, whose last operation waits for all others: the others first, then the last.
-/
import Derived.Deep.RegionHeld3
import Derived.Defers
namespace Go
section
variable {P : Program} {ops : Array Oper} {Q : Exit → Act → World → Prop} {md : Region.Mode}
/-- What is asked at the end of a region without its last operation. -/
def QLast (P : Program) (ops : Array Oper) (L : Nat) (Q : Exit → Act → World → Prop) : Exit → Act → World → Prop
  | .normal, a, w => wpOp P ops Q L (fun a' w' => Q .normal a' w') a w
  | .exit i, a, w => Q (.exit i) a w
  | .goto l, a, w => Q (.goto l) a w
  | .ret, a, w => Q .ret a w
  | .panic c, a, w => Q (.panic c) a w
  | .outgrown, a, w => Q .outgrown a w
theorem QLast.normal {L : Nat} {a : Act} {w : World} (h : wpOp P ops Q L (fun a' w' => Q .normal a' w') a w) : QLast P ops L Q .normal a w := h
theorem upon_last {L : Nat} {o : Oper} {a : Act} {next : Act → World → Prop} {r : Result Next} (h : o.upon P a next (QLast P ops L Q) r) : o.upon P a next Q r := by
  cases r with
  | ok n w' => cases n <;> exact h
  | halt x w' => cases x <;> exact h
theorem wpOp_last {L i : Nat} {K : Act → World → Prop} {a : Act} {w : World} (h : wpOp P ops (QLast P ops L Q) i K a w) : wpOp P ops Q i K a w := by
  unfold wpOp at *
  split
  · rename_i ho; simp only [ho] at h; exact h
  · rename_i o ho
    simp only [ho] at h
    split
    · rename_i hw
      simp only [hw, if_true] at h
      rcases h with h | h
      · exact .inl (upon_last h)
      · exact .inr h
    · rename_i hw
      simp only [hw] at h
      exact h
/-- Of the operations that have not come up the first is ready, if all wait only for earlier ones. -/
theorem ready_first (hdep : ∀ (j : Nat) (o : Oper), ops[j]? = some o → ∀ e ∈ o.after, e.on < j) {listed : Array Bool} (hs : listed.size = ops.size) : ∀ (n : Nat), (∃ j, j < n ∧ j < ops.size ∧ listed.getD j true = false) → ∃ i, i ∈ Region.ready md ops listed ∧ i < n
  | 0, ⟨j, h, _⟩ => by omega
  | n + 1, ⟨j, hj, hjs, hl⟩ => by
    by_cases he : ∃ k, k < j ∧ k < ops.size ∧ listed.getD k true = false
    · by_cases hjn : j < n + 1
      · obtain ⟨k, hk, hks, hkl⟩ := he
        obtain ⟨i, hi, hin⟩ := ready_first hdep hs n ⟨k, by omega, hks, hkl⟩
        exact ⟨i, hi, by omega⟩
      · omega
    · refine ⟨j, mem_ready.2 ⟨hl, ops[j], Array.getElem?_eq_getElem hjs, fun e heo _ => ?_⟩, hj⟩
      have h1 := hdep j _ (Array.getElem?_eq_getElem hjs) e heo
      have h2 : ¬ listed.getD e.on true = false := fun h => he ⟨e.on, h1, by omega, h⟩
      have h3 : e.on < listed.size := by omega
      simp [h3] at h2 ⊢
      exact h2
theorem wpAny_last {L : Nat} (hL : L < ops.size) (hdep : ∀ (j : Nat) (o : Oper), ops[j]? = some o → ∀ e ∈ o.after, e.on < j ∧ e.on ≠ L)
    (hall : ∀ (o : Oper), ops[L]? = some o → ∀ j, j < ops.size → j ≠ L → ∃ e ∈ o.after, Region.binds md e = true ∧ e.on = j) :
    ∀ (fuel : Nat) (listed : Array Bool) (a : Act) (w : World), listed.size = ops.size → listed.getD L true = false →
      wpAny P md ops (QLast P ops L Q) fuel (listed.setIfInBounds L true) a w → wpAny P md ops Q (fuel + 1) listed a w := by
  -- who is ready without the last
  have hback : ∀ (listed : Array Bool) (i : Nat), i ∈ Region.ready md ops (listed.setIfInBounds L true) → i ∈ Region.ready md ops listed := by
    intro listed i hi
    obtain ⟨h1, o, ho, h2⟩ := mem_ready.1 hi
    have hne : i ≠ L := by
      rintro rfl
      by_cases h : i < listed.size
      · simp [h] at h1
      · simp [h] at h1
    rw [getD_set_ne true (Ne.symm hne)] at h1
    refine mem_ready.2 ⟨h1, o, ho, fun e he hb => ?_⟩
    have := h2 e he hb
    rwa [getD_set_ne false (Ne.symm (hdep i o ho e he).2)] at this
  have hnil : ∀ (listed : Array Bool), listed.size = ops.size → listed.getD L true = false → L ∈ Region.ready md ops listed → Region.ready md ops (listed.setIfInBounds L true) = [] := by
    intro listed hs hl hr
    obtain ⟨_, o, ho, h2⟩ := mem_ready.1 hr
    refine List.eq_nil_iff_forall_not_mem.2 fun i hi => ?_
    obtain ⟨h1, oi, hoi, _⟩ := mem_ready.1 hi
    have his : i < ops.size := (Array.getElem?_eq_some_iff.1 hoi).1
    by_cases hne : i = L
    · subst hne
      simp [hs, his] at h1
    · obtain ⟨e, he, hb, rfl⟩ := hall o ho i his hne
      have h3 := h2 e he hb
      rw [getD_set_ne true (Ne.symm hne)] at h1
      have h4 : e.on < listed.size := by omega
      simp [h4] at h1 h3
      rw [h3] at h1
      cases h1
  have hsome : ∀ (listed : Array Bool), listed.size = ops.size → listed.getD L true = false → Region.ready md ops listed ≠ [] := by
    intro listed hs hl h0
    obtain ⟨i, hi, _⟩ := ready_first (md := md) (fun j o ho e he => (hdep j o ho e he).1) hs ops.size ⟨L, hL, hL, hl⟩
    rw [h0] at hi
    cases hi
  intro fuel
  induction fuel with
  | zero =>
    intro listed a w hs hl H
    refine ⟨fun h => absurd h (hsome listed hs hl), fun i hi => ?_⟩
    by_cases hne : i = L
    · subst hne
      exact wpOp_mono (fun a' w' h => ⟨hnil listed hs hl hi, h⟩) H.2
    · have := ready_mono (i := L) hi hne
      rw [H.1] at this
      cases this
  | succ fuel ih =>
    intro listed a w hs hl H
    refine ⟨fun h => absurd h (hsome listed hs hl), fun i hi => ?_⟩
    by_cases hne : i = L
    · subst hne
      have h0 := hnil listed hs hl hi
      refine wpOp_mono (fun a' w' h => ⟨fun _ => h, by rw [h0]; simp⟩) (H.1 h0)
    · have h1 := wpOp_last (H.2 i (ready_mono (i := L) hi hne))
      refine wpOp_mono (fun a' w' h => ih (listed.setIfInBounds i true) a' w' (by simpa using hs) (by rw [getD_set_ne true hne]; exact hl) ?_) h1
      rw [Array.setIfInBounds_comm _ _ hne]
      exact h
/-- All but the last wait for earlier ones alone, the last for all: as a Bool. -/
def lastB (md : Region.Mode) (ops : Array Oper) (L : Nat) : Bool :=
  decide (L < ops.size) && ((List.range ops.size).all fun j => match ops[j]? with
    | some o => o.after.all (fun e => decide (e.on < j) && decide (e.on ≠ L)) && (decide (j ≠ L) || (List.range ops.size).all fun k => decide (k = L) || o.after.any fun e => Region.binds md e && decide (e.on = k))
    | none => true)
theorem wp_region_last {id L n : Nat} {S : World → Prop} {a : Act} {w : World} (hm : P.follows .mixedOrders = true) (hl : lastB .any ops L = true) (hn : ops.size = n + 1) (hS : S w.drew)
    (h : S w.drew → wpAnyH P .any ops (QLast P ops L Q) S n ((Array.replicate ops.size false).setIfInBounds L true) a w.drew) : (Code.region id ops true).wp P Q a w := by
  unfold lastB at hl
  simp only [Bool.and_eq_true, decide_eq_true_eq, List.all_eq_true, List.mem_range] at hl
  obtain ⟨h1, h2⟩ := hl
  have hd : ∀ (j : Nat) (o : Oper), ops[j]? = some o → ∀ e ∈ o.after, e.on < j ∧ e.on ≠ L := fun j o ho e he => by
    have hj : j < ops.size := (Array.getElem?_eq_some_iff.1 ho).1
    have := h2 j hj
    rw [ho] at this
    simp only [Bool.and_eq_true, Array.all_eq_true'] at this
    have := this.1 e he
    simpa using this
  have ha : ∀ (o : Oper), ops[L]? = some o → ∀ j, j < ops.size → j ≠ L → ∃ e ∈ o.after, Region.binds .any e = true ∧ e.on = j := fun o ho j hj hne => by
    have := h2 L h1
    rw [ho] at this
    simp only [Bool.and_eq_true] at this
    have := this.2
    simp only [ne_eq, not_true_eq_false, decide_false, Bool.false_or, List.all_eq_true, List.mem_range] at this
    have := this j hj
    rw [decide_eq_false hne, Bool.false_or, Array.any_eq_true'] at this
    obtain ⟨e, he, hb⟩ := this
    simp at hb
    exact ⟨e, he, hb.1, hb.2⟩
  refine wp_region_any hm ?_
  rw [hn]
  refine wpAny_last h1 hd ha n _ a _ (by simp [hn]) (by rw [Array.getD_eq_getD_getElem?, Array.getElem?_replicate, if_pos (by omega)]; rfl) ?_
  have := wpAny_of_held _ _ _ _ (h hS)
  rw [hn] at this
  exact this
end
end Go

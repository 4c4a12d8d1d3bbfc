/-
  Variables that hold Ints; the verifier's few and plain.
-/
import Derived.Test.YteggfjahjanabaaSum
import Derived.Laws.ResultCell
import Derived.Laws.Rows
namespace PB
open Go Go.RowKit
/-- Block g is a variable that holds an Int for z. -/
def Var (w : World) (g : Nat) (z : Int) : Prop := ∃ (s : Bool) (base : Option Addr) (n c : Nat), Blk w g #[.bool s, .slice base n c] ∧ IsInt w (.agg #[.bool s, .slice base n c]) z
theorem Var.kept {w w' : World} {g : Nat} {z : Int} (h : Var w g z) (hb : Below w.heap.size w w') : Var w' g z := by
  obtain ⟨s, base, n, c, h1, h2⟩ := h
  exact ⟨s, base, n, c, h1.kept hb, h2.kept hb⟩
theorem Var.lt {w : World} {g : Nat} {z : Int} (h : Var w g z) : g < w.heap.size := by
  obtain ⟨s, base, n, c, h1, h2⟩ := h
  exact h1.lt
theorem Var.drew {w : World} {g : Nat} {z : Int} (h : Var w g z) : Var w.drew g z := h
theorem Var.undrew {w : World} {g : Nat} {z : Int} (h : Var w.drew g z) : Var w g z := h
theorem setCell_same {w : World} {g j : Nat} {v : Value} (h : w.cell? ⟨g, j, none⟩ = some v) : w.setCell ⟨g, j, none⟩ v = w := by
  have e : (w.setCell ⟨g, j, none⟩ v).heap = w.heap := by
    apply Array.ext_getElem?
    intro k
    unfold World.cell? at h
    simp only [World.setCell, Array.getElem?_modify]
    by_cases hk : g = k
    · subst hk
      rw [if_pos rfl]
      cases hb : w.heap[g]? with
      | none => rfl
      | some o =>
        rw [hb] at h
        cases o with
        | cells c t fr =>
          simp only [Option.map_some, Option.isSome_none, Bool.false_eq_true, if_false] at h ⊢
          have h2 : c.setIfInBounds j v = c := by
            apply Array.ext_getElem?
            intro i
            rw [Array.getElem?_setIfInBounds]
            by_cases hi : j = i
            · subst hi
              have hlt := (Array.getElem?_eq_some_iff.1 h).1
              simp [hlt]
              rw [Array.getElem?_eq_some_iff] at h
              exact h.2.symm
            · simp [hi]
          rw [h2]
        | _ => cases h
    · rw [if_neg hk]
  cases w
  simp only [World.setCell] at e ⊢
  simp only [e]
theorem results_row_tmp {P : Program} {fn : Func} {p u : Tmp} {ty : TypeId} (h : fn.results = #[.cell p ty, .tmp u]) (tmps : Array Value) (w : World) (g : Nat) (t : TypeId) (cs : Array Value) (fr : Nat × Nat) (d : TypeDesc)
    (hp : tmps.getD p undef = .pointer (some ⟨g, 0, none⟩)) (hg : w.heap[g]? = some (.cells cs t fr))
    (hu : P.underlying ty = some d) (hd : (match d with | .struct _ | .array _ _ => true | _ => false) = true) (hi : (P.info? ty).map (·.size) = some cs.size) :
    (results fn tmps).run P w = .ok (.tuple #[.agg cs, tmps.getD u undef]) w := by
  rw [results_cell_tmp h]
  have hp' : tmps[p]?.getD undef = .pointer (some ⟨g, 0, none⟩) := by simpa using hp
  simp [hp', asAddr, run_loadVar_row w g t ty cs fr d hg hu hd hi, Result.andThen]
end PB
namespace Go.Proofs.Yteggfjahjanabaa
open Go.RowKit PB
/-- The value of a variable, and its cells. -/
theorem var_out {w : World} {g : Nat} {z : Int} (h : Var w g z) : ∃ (s : Bool) (base : Option Addr) (n c : Nat), w.cell? ⟨g, 0, none⟩ = some (.bool s) ∧ w.cell? ⟨g, 1, none⟩ = some (.slice base n c) ∧ w.frozen? ⟨g, 0, none⟩ = false ∧ w.frozen? ⟨g, 1, none⟩ = false ∧ IsInt w (.agg #[.bool s, .slice base n c]) z := by
  obtain ⟨s, base, n, c, h1, h2⟩ := h
  exact ⟨s, base, n, c, (Blk2 h1).1, (Blk2 h1).2, (Blk2f h1).1, (Blk2f h1).2, h2⟩
theorem few_any (s : Bool) (base : Option Addr) (n c : Nat) (w : World) :
    Calls Try.prog 11 #[.agg #[.bool s, .slice base n c]] w fun e w' => e = .returned (.bool (decide (n ≤ 40))) ∧ Below w.heap.size w w' := by
  go_enter Try.func11, Try.ntmps11
  go_wp2
  go_ret
  exact ⟨by simp; omega, (Below.refl _ _).alloc (Nat.le_refl _) _⟩
theorem plain_any (s : Bool) (base : Option Addr) (n c : Nat) (w : World) :
    Calls Try.prog 42 #[.agg #[.bool s, .slice base n c], .int .i64 0, .bool true] w fun e w' => e = .returned (.tuple #[.agg #[.bool s, .slice base n c], .bool true]) ∧ Below w.heap.size w w' := by
  go_enter Try.func42, Try.ntmps42
  go_wp2_with fail
  have hg : ((w.alloc (Obj.cells #[.bool s, .slice base n c] 24)).alloc (Obj.cells #[.bool s, .slice base n c] 24)).heap[w.heap.size + 1]? = some (.cells #[.bool s, .slice base n c] 24 (0, 0)) := heap_alloc2_new _ _ _
  refine bodyPost_ret (results_row_tmp rfl _ _ (w.heap.size + 1) 24 #[.bool s, .slice base n c] (0, 0) _ rfl hg Try.underlying24 rfl (by rfl)) rfl ?_
  exact ⟨rfl, ((Below.refl _ _).alloc (Nat.le_refl _) _).alloc (by simp) _⟩
end Go.Proofs.Yteggfjahjanabaa

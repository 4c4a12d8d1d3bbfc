/-
  Blocks that are known whole.
-/
import Derived.Test.YtmfmbglacebeiaaMem
import Derived.Laws.ResultCell
import Derived.Laws.Rows
namespace PB
open Go Go.RowKit

theorem below_undrew {N : Nat} {w w' : World} (h : Below N w.drew w') : Below N w w' := ⟨h.os, h.tape, h.output, h.size, h.block⟩
theorem below_drewN {N : Nat} {w w' : World} (h : Below N w w') (n : Nat) : Below N w (w'.drewN n) := ⟨h.os, h.tape, h.output, h.size, h.block⟩
theorem below_undrewN {N n : Nat} {w w' : World} (h : Below N (w.drewN n) w') : Below N w w' := ⟨h.os, h.tape, h.output, h.size, h.block⟩
/-- Block g holds these cells, none of them frozen. -/
def Blk (w : World) (g : Nat) (cs : Array Value) : Prop := ∃ T, w.heap[g]? = some (.cells cs T (0, 0))
theorem Blk.lt {w : World} {g : Nat} {cs : Array Value} (h : Blk w g cs) : g < w.heap.size := by
  obtain ⟨T, h⟩ := h; exact (Array.getElem?_eq_some_iff.1 h).1
theorem blk_new {w : World} {g : Nat} {cs : Array Value} {T : TypeId} (hg : g = w.heap.size) : Blk (w.alloc (.cells cs T)) g cs := ⟨T, by subst hg; exact heap_made _ _⟩
theorem Blk.alloc {w : World} {g : Nat} {cs : Array Value} (h : Blk w g cs) (o : Obj) : Blk (w.alloc o) g cs := by
  have hl := h.lt
  obtain ⟨T, h⟩ := h
  exact ⟨T, by rw [Below.heap_alloc _ _ _ hl]; exact h⟩
theorem Blk.drew {w : World} {g : Nat} {cs : Array Value} (h : Blk w g cs) : Blk w.drew g cs := h
theorem Blk.drewN {w : World} {g n : Nat} {cs : Array Value} (h : Blk w g cs) : Blk (w.drewN n) g cs := h
theorem Blk.below {w w' : World} {g N : Nat} {cs : Array Value} (h : Blk w g cs) (hb : Below N w w') (hg : g < N) : Blk w' g cs := by
  obtain ⟨T, h⟩ := h
  exact ⟨T, by rw [hb.block g hg]; exact h⟩
theorem Blk.kept {w w' : World} {g : Nat} {cs : Array Value} (h : Blk w g cs) (hb : Below w.heap.size w w') : Blk w' g cs := h.below hb h.lt
theorem Blk.cell {w : World} {g : Nat} {cs : Array Value} (h : Blk w g cs) (j : Nat) (v : Value) (hv : cs[j]? = some v) : w.cell? ⟨g, j, none⟩ = some v := by
  obtain ⟨T, h⟩ := h
  unfold World.cell?
  rw [h]
  simp [hv]
theorem Blk.free {w : World} {g : Nat} {cs : Array Value} (h : Blk w g cs) (j : Nat) : w.frozen? ⟨g, j, none⟩ = false := by
  obtain ⟨T, h⟩ := h
  unfold World.frozen?
  rw [h]
  simp
theorem Blk.set {w : World} {g : Nat} {cs : Array Value} (h : Blk w g cs) (j : Nat) (v : Value) : Blk (w.setCell ⟨g, j, none⟩ v) g (cs.setIfInBounds j v) := by
  obtain ⟨T, h⟩ := h
  refine ⟨T, ?_⟩
  simp [World.setCell, Array.getElem?_modify, h]
theorem Blk.other {w : World} {g : Nat} {cs : Array Value} (h : Blk w g cs) {a : Addr} (v : Value) (hne : g ≠ a.block) : Blk (w.setCell a v) g cs := by
  obtain ⟨T, h⟩ := h
  exact ⟨T, by rw [Below.heap_setCell _ _ _ _ hne]; exact h⟩

theorem Blk2 {w : World} {g : Nat} {v0 v1 : Value} (h : Blk w g #[v0, v1]) : w.cell? ⟨g, 0, none⟩ = some v0 ∧ w.cell? ⟨g, 1, none⟩ = some v1 := ⟨h.cell 0 _ rfl, h.cell 1 _ rfl⟩
theorem Blk2f {w : World} {g : Nat} {v0 v1 : Value} (h : Blk w g #[v0, v1]) : w.frozen? ⟨g, 0, none⟩ = false ∧ w.frozen? ⟨g, 1, none⟩ = false := ⟨h.free 0, h.free 1⟩
theorem blk_set2 {w : World} {g : Nat} {x y a b : Value} (h : Blk w g #[x, y]) : Blk ((w.setCell ⟨g, 0, none⟩ a).setCell ⟨g, 1, none⟩ b) g #[a, b] := (h.set 0 a).set 1 b
theorem blk_oth2 {w : World} {g k : Nat} {cs : Array Value} {a b : Value} (h : Blk w g cs) (hne : g ≠ k) : Blk ((w.setCell ⟨k, 0, none⟩ a).setCell ⟨k, 1, none⟩ b) g cs := (h.other a hne).other b hne
theorem blk_last {w w' : World} {cs : Array Value} {T : TypeId} (h : Below (w.alloc (.cells cs T)).heap.size (w.alloc (.cells cs T)) w') : Blk w' w.heap.size cs := (blk_new rfl).kept h
theorem blk_prev {w w' : World} {cs : Array Value} {T : TypeId} {o : Obj} (h : Below ((w.alloc (.cells cs T)).alloc o).heap.size ((w.alloc (.cells cs T)).alloc o) w') : Blk w' w.heap.size cs := ((blk_new rfl).alloc _).kept h
theorem blk_last2 {w w' : World} {cs : Array Value} {T : TypeId} {o : Obj} (h : Below ((w.alloc o).alloc (.cells cs T)).heap.size ((w.alloc o).alloc (.cells cs T)) w') : Blk w' (w.heap.size + 1) cs := (blk_new (by simp)).kept h
theorem blk_lastd {w w' : World} {cs : Array Value} {T : TypeId} (h : Below (w.alloc (.cells cs T)).drew.heap.size (w.alloc (.cells cs T)).drew w') : Blk w' w.heap.size cs := blk_last (below_undrew h)
theorem blk_prevd {w w' : World} {cs : Array Value} {T : TypeId} {o : Obj} (h : Below ((w.alloc (.cells cs T)).alloc o).drew.heap.size ((w.alloc (.cells cs T)).alloc o).drew w') : Blk w' w.heap.size cs := blk_prev (below_undrew h)
theorem blk_last2d {w w' : World} {cs : Array Value} {T : TypeId} {o : Obj} (h : Below ((w.alloc o).alloc (.cells cs T)).drew.heap.size ((w.alloc o).alloc (.cells cs T)).drew w') : Blk w' (w.heap.size + 1) cs := blk_last2 (below_undrew h)
theorem setCell_same {w : World} {g j : Nat} {v : Value} (h : w.cell? ⟨g, j, none⟩ = some v) : w.setCell ⟨g, j, none⟩ v = w := by
  have e : (w.setCell ⟨g, j, none⟩ v).heap = w.heap := by
    apply Array.ext_getElem?
    intro k
    unfold World.cell? at h
    simp only [World.setCell, Array.getElem?_modify]
    by_cases hk : g = k
    · subst hk
      rw [if_pos rfl]
      cases hb : w.heap[g]? with
      | none => rfl
      | some o =>
        rw [hb] at h
        cases o with
        | cells c t fr =>
          simp only [Option.map_some, Option.isSome_none, Bool.false_eq_true, if_false] at h ⊢
          have h2 : c.setIfInBounds j v = c := by
            apply Array.ext_getElem?
            intro i
            rw [Array.getElem?_setIfInBounds]
            by_cases hi : j = i
            · subst hi
              have hlt := (Array.getElem?_eq_some_iff.1 h).1
              simp [hlt]
              rw [Array.getElem?_eq_some_iff] at h
              exact h.2.symm
            · simp [hi]
          rw [h2]
        | _ => cases h
    · rw [if_neg hk]
  cases w
  simp only [World.setCell] at e ⊢
  simp only [e]
theorem results_row_tmp {P : Program} {fn : Func} {p u : Tmp} {ty : TypeId} (h : fn.results = #[.cell p ty, .tmp u]) (tmps : Array Value) (w : World) (g : Nat) (t : TypeId) (cs : Array Value) (fr : Nat × Nat) (d : TypeDesc)
    (hp : tmps.getD p undef = .pointer (some ⟨g, 0, none⟩)) (hg : w.heap[g]? = some (.cells cs t fr))
    (hu : P.underlying ty = some d) (hd : (match d with | .struct _ | .array _ _ => true | _ => false) = true) (hi : (P.info? ty).map (·.size) = some cs.size) :
    (results fn tmps).run P w = .ok (.tuple #[.agg cs, tmps.getD u undef]) w := by
  rw [results_cell_tmp h]
  have hp' : tmps[p]?.getD undef = .pointer (some ⟨g, 0, none⟩) := by simpa using hp
  simp [hp', asAddr, run_loadVar_row w g t ty cs fr d hg hu hd hi, Result.andThen]
theorem blk_res_tmp {P : Program} {fn : Func} {p u : Tmp} {ty : TypeId} (h : fn.results = #[.cell p ty, .tmp u]) {tmps : Array Value} {w : World} {g : Nat} {cs : Array Value} (d : TypeDesc)
    (hp : tmps.getD p undef = .pointer (some ⟨g, 0, none⟩)) (hg : Blk w g cs)
    (hu : P.underlying ty = some d) (hd : (match d with | .struct _ | .array _ _ => true | _ => false) = true) (hi : (P.info? ty).map (·.size) = some cs.size) :
    (results fn tmps).run P w = .ok (.tuple #[.agg cs, tmps.getD u undef]) w := by
  obtain ⟨T, hg⟩ := hg
  exact results_row_tmp h _ _ g T cs (0, 0) d hp hg hu hd hi
theorem blk_res {P : Program} {fn : Func} {p : Tmp} {ty : TypeId} (h : fn.results = #[.cell p ty]) {tmps : Array Value} {w : World} {g : Nat} {cs : Array Value} (d : TypeDesc)
    (hp : tmps.getD p undef = .pointer (some ⟨g, 0, none⟩)) (hg : Blk w g cs)
    (hu : P.underlying ty = some d) (hd : (match d with | .struct _ | .array _ _ => true | _ => false) = true) (hi : (P.info? ty).map (·.size) = some cs.size) :
    (results fn tmps).run P w = .ok (.agg cs) w := by
  obtain ⟨T, hg⟩ := hg
  exact results_cell_row h _ _ g T cs (0, 0) d hp hg hu hd hi
end PB

/-
  'same': two rows of the same words.
-/
import Derived.Test.YtialbhllnhkkeaaDoorScRWords
import Derived.Deep.QuietTactic
import Derived.BigQuiet
import Derived.Deep.RegionWith
import Derived.BigRegion
namespace SC
open Go Go.RowKit PB
theorem next {w w1 w2 : World} (h : Below w.heap.size w w1) (h' : Below w1.heap.size w1 w2) : Below w.heap.size w w2 := h.trans (h'.mono h.size)
theorem sb_alloc {w w' : World} (h : Below w.heap.size w w') (o : Obj) : Below w.heap.size w (w'.alloc o) := h.alloc h.size o
theorem sb_drew {w w' : World} (h : Below w.heap.size w w') : Below w.heap.size w w'.drew := PB.below_drewN h 1
theorem sb_set {w w' : World} (h : Below w.heap.size w w') {p : Addr} (hp : w.heap.size ≤ p.block) (v : Value) : Below w.heap.size w (w'.setCell p v) := h.setCell hp v
/-- The n words from the beginning of block g. -/
def WRow (w : World) (g : Nat) (ws : List W) : Prop := ∀ i x, ws[i]? = some x → WAt w g i x
theorem WRow.kept {w w' : World} {g : Nat} {ws : List W} (h : WRow w g ws) (hb : Below w.heap.size w w') (hg : ws.length ≠ 0 → g < w.heap.size) : WRow w' g ws := fun i x hx =>
  (h i x hx).kept hb (hg (by have := (List.getElem?_eq_some_iff.1 hx).1; omega))
end SC
namespace Go.Proofs.YtialbhllnhkkeaaDoor
open Go.RowKit SC PB
set_option maxHeartbeats 8000000 in
set_option maxRecDepth 100000 in
theorem same_any (ws : List W) (b1 b2 : Option Addr) (g1 g2 c1 c2 : Nat) (w : World) (hn : ws.length ≤ 1000000) (h1 : ws.length ≠ 0 → b1 = some ⟨g1, 0, none⟩) (h2 : ws.length ≠ 0 → b2 = some ⟨g2, 0, none⟩) (hr1 : WRow w g1 ws) (hr2 : WRow w g2 ws) (hg1 : ws.length ≠ 0 → g1 < w.heap.size) (hg2 : ws.length ≠ 0 → g2 < w.heap.size) :
    Calls Tryd.prog 11 #[.slice b1 ws.length c1, .slice b2 ws.length c2] w fun e w' => e = .returned (.bool true) ∧ Below w.heap.size w w' := by
  have HB1 := Lib.hid h1
  have HB2 := Lib.hid h2
  have HR1 := Lib.hid hr1
  have HR2 := Lib.hid hr2
  have HG1 := Lib.hid hg1
  have HG2 := Lib.hid hg2
  have HX := Lib.hid (fun (k : Nat) (hk : k < ws.length) => (⟨ws[k], List.getElem?_eq_getElem hk⟩ : ∃ x, ws[k]? = some x))
  generalize hN : ws.length = n at *
  clear h1 h2 hr1 hr2 hg1 hg2 hN
  go_enter Tryd.func11, Tryd.ntmps11
  go_wp2_with fail
  go_loopw [5] (fun i wr => ∃ k : Nat, k ≤ n ∧ i = .int .i64 k ∧ Hid (Below w.heap.size w wr)) (fun i _ => n - (intOf i).toNat)
  case atStart => exact ⟨0, Nat.zero_le _, rfl, Lib.hid (Below.refl _ _)⟩
  case round =>
    obtain ⟨k, hk, rfl, hwr⟩ := hrel
    by_cases hp : k < n
    · obtain rfl := HB1.out (by omega)
      obtain rfl := HB2.out (by omega)
      obtain ⟨x, hx⟩ := HX.out k hp
      obtain ⟨x0, x1, x2, x3⟩ := (HR1.out k x hx).kept hwr.out (HG1.out (by omega))
      obtain ⟨y0, y1, y2, y3⟩ := (HR2.out k x hx).kept hwr.out (HG2.out (by omega))
      clear hx
      obtain ⟨kd, T, v, p⟩ := x
      dsimp only at x0 x1 x2 x3 y0 y1 y2 y3
      generalize (⟨T.toArray⟩ : ByteArray) = TB at *
      have hlt1 : g1 < wr.heap.size := Nat.lt_of_lt_of_le (HG1.out (by omega)) hwr.out.size
      have hlt2 : g2 < wr.heap.size := Nat.lt_of_lt_of_le (HG2.out (by omega)) hwr.out.size
      go_wp2_with fail
      go_region
      all_goals
        go_wp2_with fail
        go_roundw
        case rel => exact ⟨k + 1, by omega, by go_num, Lib.hid (sb_drew (sb_alloc (sb_alloc hwr.out _) _))⟩
        case measure => simp [intOf]; omega
    · go_wp2_with fail
      go_ret
      exact ⟨rfl, hwr.out⟩
end Go.Proofs.YtialbhllnhkkeaaDoor

/-
  Rows of words with any offsets.
-/
import Derived.Test.YtialbhllnhkkeaaDoorScSame
import Derived.Test.YtialbhllnhkkeaaDoorScFits
namespace SC
open Go Go.RowKit PB
def zc (z : W × Int) : List Value := [.int .i64 z.1.kind, .string ⟨z.1.text.toArray⟩, .int .i64 z.1.num, .int .i64 z.2]
def zlist : List (W × Int) → List Value
  | [] => []
  | x :: t => zc x ++ zlist t
theorem zlist_length : ∀ l, (zlist l).length = l.length * 4
  | [] => rfl
  | x :: t => by unfold zlist; rw [List.length_append, zlist_length t]; simp [zc]; omega
theorem zlist_append : ∀ l m, zlist (l ++ m) = zlist l ++ zlist m
  | [], _ => rfl
  | x :: t, m => by
    show zc x ++ zlist (t ++ m) = zc x ++ zlist t ++ zlist m
    rw [zlist_append t m, List.append_assoc]
theorem zlist_get : ∀ (l : List (W × Int)) (i : Nat) (x : W × Int), l[i]? = some x → (zlist l)[i * 4]? = some (.int .i64 x.1.kind) ∧ (zlist l)[i * 4 + 1]? = some (.string ⟨x.1.text.toArray⟩) ∧ (zlist l)[i * 4 + 2]? = some (.int .i64 x.1.num) ∧ (zlist l)[i * 4 + 3]? = some (.int .i64 x.2)
  | [], i, x, h => by simp at h
  | y :: t, 0, x, h => by
    obtain rfl : y = x := by simpa using h
    exact ⟨rfl, rfl, rfl, rfl⟩
  | y :: t, i + 1, x, h => by
    have ih := zlist_get t i x (by simpa using h)
    have e : ∀ j, (zlist (y :: t))[(i + 1) * 4 + j]? = (zlist t)[i * 4 + j]? := fun j => by
      show (zc y ++ zlist t)[(i + 1) * 4 + j]? = _
      rw [List.getElem?_append_right (by simp [zc]; omega)]
      congr 1
      simp [zc]; omega
    have e0 := e 0
    rw [Nat.add_zero, Nat.add_zero] at e0
    rw [e0, e 1, e 2, e 3]
    exact ih
/-- Word i of a row that begins at a place of block b. -/
def ZAt (w : World) (b off i : Nat) (x : W × Int) : Prop := w.cell? ⟨b, off + i * 4, none⟩ = some (.int .i64 x.1.kind) ∧ w.cell? ⟨b, off + i * 4 + 1, none⟩ = some (.string ⟨x.1.text.toArray⟩) ∧ w.cell? ⟨b, off + i * 4 + 2, none⟩ = some (.int .i64 x.1.num) ∧ w.cell? ⟨b, off + i * 4 + 3, none⟩ = some (.int .i64 x.2)
def ZRow (w : World) (b off : Nat) (l : List (W × Int)) : Prop := ∀ (i : Nat) (x : W × Int), l[i]? = some x → ZAt w b off i x
theorem ZAt.kept {w w' : World} {g off i : Nat} {x : W × Int} (h : ZAt w g off i x) (hb : Below w.heap.size w w') (hg : g < w.heap.size) : ZAt w' g off i x := by
  obtain ⟨h1, h2, h3, h4⟩ := h
  exact ⟨by rw [hb.cell (p := ⟨g, _, none⟩) hg]; exact h1, by rw [hb.cell (p := ⟨g, _, none⟩) hg]; exact h2, by rw [hb.cell (p := ⟨g, _, none⟩) hg]; exact h3, by rw [hb.cell (p := ⟨g, _, none⟩) hg]; exact h4⟩
theorem ZRow.kept {w w' : World} {g off : Nat} {ws : List (W × Int)} (h : ZRow w g off ws) (hb : Below w.heap.size w w') (hg : ws.length ≠ 0 → g < w.heap.size) : ZRow w' g off ws := fun i x hx =>
  (h i x hx).kept hb (hg (by have := (List.getElem?_eq_some_iff.1 hx).1; omega))
/-- Words with their own offsets. -/
def zOf (ws : List W) : List (W × Int) := ws.map fun x => (x, (x.pos : Int))
theorem zOf_row {w : World} {g : Nat} {ws : List W} (h : WRow w g ws) : ZRow w g 0 (zOf ws) := fun i z hz => by
  unfold zOf at hz
  rw [List.getElem?_map] at hz
  obtain ⟨x, hx, rfl⟩ := Option.map_eq_some_iff.1 hz
  obtain ⟨h1, h2, h3, h4⟩ := h i x hx
  unfold ZAt
  rw [Nat.zero_add]
  exact ⟨h1, h2, h3, h4⟩
theorem zOf_fst (ws : List W) : (zOf ws).map Prod.fst = ws := by unfold zOf; rw [List.map_map]; exact List.map_id ws
/-- The slice value v owns these words. -/
def OwnZ (E : TypeId) (N : Nat) (w : World) (v : Value) (ws : List (W × Int)) : Prop := w.ownsRow N E 4 v ws.length (zlist ws)
theorem OwnZ.nil (E : TypeId) (N : Nat) (w : World) : OwnZ E N w (.slice none 0 0) [] := World.ownsRow_nil w N E 4
theorem OwnZ.kept {E : TypeId} {N : Nat} {ws : List (W × Int)} {w w' : World} {v : Value} (h : OwnZ E N w v ws) (hb : Below w.heap.size w w') : OwnZ E N w' v ws := by
  obtain ⟨h1, h2⟩ := h
  refine ⟨h1, ?_⟩
  rcases h2 with h2 | ⟨g, cap, cur, rfl, hg, hh, r⟩
  · exact .inl h2
  · have hlt : g < w.heap.size := by
      rcases Nat.lt_or_ge g w.heap.size with h | h
      · exact h
      · rw [Array.getElem?_eq_none h] at hh; cases hh
    exact .inr ⟨g, cap, cur, rfl, hg, by rw [hb.block g hlt]; exact hh, r⟩
theorem ownz_slice {E : TypeId} {N : Nat} {ws : List (W × Int)} {w : World} {v : Value} (h : OwnZ E N w v ws) :
    ∃ (base : Option Addr) (g c : Nat), v = .slice base ws.length c ∧ (ws.length ≠ 0 → base = some ⟨g, 0, none⟩) ∧ ZRow w g 0 ws ∧ (ws.length ≠ 0 → g < w.heap.size) ∧ (ws.length ≠ 0 → N ≤ g) := by
  have hl := World.ownsRow.lt h
  rcases h.2 with ⟨rfl, h0⟩ | ⟨g, cap, cur, rfl, hg, hh, r⟩
  · refine ⟨none, 0, 0, by rw [h0], fun h => absurd h0 h, fun i x hx => ?_, fun h => absurd h0 h, fun h => absurd h0 h⟩
    have := (List.getElem?_eq_some_iff.1 hx).1
    omega
  · refine ⟨_, g, cap, rfl, fun _ => rfl, fun i x hx => ?_, fun _ => (hl g rfl).2, fun _ => hg⟩
    obtain ⟨e1, e2, e3, e4⟩ := zlist_get ws i x hx
    have k1 := World.ownsRow.cells h (g := g) rfl _ _ e1
    have k2 := World.ownsRow.cells h (g := g) rfl _ _ e2
    have k3 := World.ownsRow.cells h (g := g) rfl _ _ e3
    have k4 := World.ownsRow.cells h (g := g) rfl _ _ e4
    rw [waddr] at k1 k2 k3 k4
    unfold ZAt
    rw [Nat.zero_add]
    exact ⟨k1, k2, k3, k4⟩
theorem one_z (w : World) (x : W × Int) (E : TypeId) : ∀ j u, (zc x)[j]? = some u → (w.alloc (.cells #[.int .i64 x.1.kind, .string ⟨x.1.text.toArray⟩, .int .i64 x.1.num, .int .i64 x.2] E)).cell? ((⟨w.heap.size, 0, none⟩ : Addr).add j) = some u := by
  intro j u hj
  rw [waddr]
  refine cell_new _ _ _ _ _ _ rfl ?_
  simpa [zc] using hj
theorem wpList_append_z {P : Program} (w : World) {ops : Array Oper} {rest : List Oper} {o : Oper} {a : Act} {Q : Exit → Act → World → Prop} (hgd : o.guard = none) (s x : Operand) (t : TypeId)
    (ho : o.op = .call { callee := .builtin .append, args := #[s, x], argTypes := #[t, t] }) (E : TypeId) (i : TypeInfo) (ht : P.underlying t = some (.slice E)) (hi : P.info? E = some i) (hz : i.zero = some (wordV 0 ⟨#[]⟩ 0 0)) (hsize : i.size = 4) (hby : i.bytes = 40)
    (N : Nat) (v : Value) (ws : List (W × Int)) (y : W × Int) (hs : a.eval s = v) (hown : OwnZ E N w v ws) (b : Nat) (hx : a.eval x = .slice (some ⟨b, 0, none⟩) 1 1) (hb : ∀ j u, (zc y)[j]? = some u → w.cell? ((⟨b, 0, none⟩ : Addr).add j) = some u) (hn : ws.length ≤ 1000000) (hN : N ≤ w.heap.size)
    (h : ∀ v' w', OwnZ E N w' v' (ws ++ [y]) → Below N w w' → w.grownBy w' v.ownBlock → wpList P ops Q rest (a.put o.dst v') w') : wpList P ops Q (o :: rest) a w := by
  refine wpList_append_own_at w hgd s x t ho N E i (wordV 0 ⟨#[]⟩ 0 0) 4 40 ht hi hz hsize hby rfl (by decide) v ws.length (zlist ws) hs hown ⟨b, 0, none⟩ 1 1 (zc y) hx rfl hb ?_ (by unfold maxLen; omega) (by omega) hN ?_
  · intro u hu
    simp [zc] at hu
    rcases hu with rfl | rfl | rfl | rfl <;> rfl
  · intro v' w' h1 h2 _ _
    refine h v' w' ?_ ((Below.refl _ _).grown h2 hN (fun q hq => (World.ownsRow.lt hown q hq).1)) h2
    show w'.ownsRow N E 4 v' (ws ++ [y]).length (zlist (ws ++ [y]))
    rw [zlist_append, List.length_append]
    have e : zlist [y] = zc y := by simp [zlist]
    rw [e]
    exact h1
end SC

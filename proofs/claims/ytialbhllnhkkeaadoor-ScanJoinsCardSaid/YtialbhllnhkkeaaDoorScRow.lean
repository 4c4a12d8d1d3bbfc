/-
  Rows of words that are owned.
-/
import Derived.Test.YtialbhllnhkkeaaDoorScFirst
import Derived.Maps.AppendAt
namespace SC
open Go Go.RowKit PB
def wc (x : W) : List Value := [.int .i64 x.kind, .string ⟨x.text.toArray⟩, .int .i64 x.num, .int .i64 x.pos]
def wlist : List W → List Value
  | [] => []
  | x :: t => wc x ++ wlist t
theorem wlist_length : ∀ l, (wlist l).length = l.length * 4
  | [] => rfl
  | x :: t => by unfold wlist; rw [List.length_append, wlist_length t]; simp [wc]; omega
theorem wlist_append : ∀ l m, wlist (l ++ m) = wlist l ++ wlist m
  | [], _ => rfl
  | x :: t, m => by
    show wc x ++ wlist (t ++ m) = wc x ++ wlist t ++ wlist m
    rw [wlist_append t m, List.append_assoc]
theorem wlist_get : ∀ (l : List W) (i : Nat) (x : W), l[i]? = some x → (wlist l)[i * 4]? = some (.int .i64 x.kind) ∧ (wlist l)[i * 4 + 1]? = some (.string ⟨x.text.toArray⟩) ∧ (wlist l)[i * 4 + 2]? = some (.int .i64 x.num) ∧ (wlist l)[i * 4 + 3]? = some (.int .i64 x.pos)
  | [], i, x, h => by simp at h
  | y :: t, 0, x, h => by
    obtain rfl : y = x := by simpa using h
    exact ⟨rfl, rfl, rfl, rfl⟩
  | y :: t, i + 1, x, h => by
    have ih := wlist_get t i x (by simpa using h)
    have e : ∀ j, (wlist (y :: t))[(i + 1) * 4 + j]? = (wlist t)[i * 4 + j]? := fun j => by
      show (wc y ++ wlist t)[(i + 1) * 4 + j]? = _
      rw [List.getElem?_append_right (by simp [wc]; omega)]
      congr 1
      simp [wc]; omega
    have e0 := e 0
    rw [Nat.add_zero, Nat.add_zero] at e0
    rw [e0, e 1, e 2, e 3]
    exact ih
/-- The slice value v owns the words ws. -/
def OwnW (E : TypeId) (N : Nat) (w : World) (v : Value) (ws : List W) : Prop := w.ownsRow N E 4 v ws.length (wlist ws)
theorem OwnW.nil (E : TypeId) (N : Nat) (w : World) : OwnW E N w (.slice none 0 0) [] := World.ownsRow_nil w N E 4
theorem OwnW.kept {E : TypeId} {N : Nat} {ws : List W} {w w' : World} {v : Value} (h : OwnW E N w v ws) (hb : Below w.heap.size w w') : OwnW E N w' v ws := by
  obtain ⟨h1, h2⟩ := h
  refine ⟨h1, ?_⟩
  rcases h2 with h2 | ⟨g, cap, cur, rfl, hg, hh, r⟩
  · exact .inl h2
  · have hlt : g < w.heap.size := by
      rcases Nat.lt_or_ge g w.heap.size with h | h
      · exact h
      · rw [Array.getElem?_eq_none h] at hh; cases hh
    exact .inr ⟨g, cap, cur, rfl, hg, by rw [hb.block g hlt]; exact hh, r⟩
theorem OwnW.mono {E : TypeId} {N N' : Nat} {ws : List W} {w : World} {v : Value} (h : OwnW E N w v ws) (hN : N' ≤ N) : OwnW E N' w v ws := by
  obtain ⟨h1, h2⟩ := h
  refine ⟨h1, ?_⟩
  rcases h2 with h2 | ⟨g, cap, cur, rfl, hg, r⟩
  · exact .inl h2
  · exact .inr ⟨g, cap, cur, rfl, Nat.le_trans hN hg, r⟩
theorem waddr (g j : Nat) : (⟨g, 0, none⟩ : Addr).add j = ⟨g, j, none⟩ := by unfold Addr.add; split <;> simp_all
/-- Word i of a row in block g. -/
def WAt (w : World) (g i : Nat) (x : W) : Prop := w.cell? ⟨g, i * 4, none⟩ = some (.int .i64 x.kind) ∧ w.cell? ⟨g, i * 4 + 1, none⟩ = some (.string ⟨x.text.toArray⟩) ∧ w.cell? ⟨g, i * 4 + 2, none⟩ = some (.int .i64 x.num) ∧ w.cell? ⟨g, i * 4 + 3, none⟩ = some (.int .i64 x.pos)
theorem ownw_slice {E : TypeId} {N : Nat} {ws : List W} {w : World} {v : Value} (h : OwnW E N w v ws) :
    ∃ (base : Option Addr) (g c : Nat), v = .slice base ws.length c ∧ (ws.length ≠ 0 → base = some ⟨g, 0, none⟩) ∧ (∀ i x, ws[i]? = some x → WAt w g i x) ∧ (ws.length ≠ 0 → g < w.heap.size) ∧ (ws.length ≠ 0 → N ≤ g) := by
  have hl := World.ownsRow.lt h
  rcases h.2 with ⟨rfl, h0⟩ | ⟨g, cap, cur, rfl, hg, hh, r⟩
  · refine ⟨none, 0, 0, by rw [h0], fun h => absurd h0 h, fun i x hx => ?_, fun h => absurd h0 h, fun h => absurd h0 h⟩
    have := (List.getElem?_eq_some_iff.1 hx).1
    omega
  · refine ⟨_, g, cap, rfl, fun _ => rfl, fun i x hx => ?_, fun _ => (hl g rfl).2, fun _ => hg⟩
    obtain ⟨e1, e2, e3, e4⟩ := wlist_get ws i x hx
    have k1 := World.ownsRow.cells h (g := g) rfl _ _ e1
    have k2 := World.ownsRow.cells h (g := g) rfl _ _ e2
    have k3 := World.ownsRow.cells h (g := g) rfl _ _ e3
    have k4 := World.ownsRow.cells h (g := g) rfl _ _ e4
    rw [waddr] at k1 k2 k3 k4
    exact ⟨k1, k2, k3, k4⟩
theorem WAt.kept {w w' : World} {g i : Nat} {x : W} (h : WAt w g i x) (hb : Below w.heap.size w w') (hg : g < w.heap.size) : WAt w' g i x := by
  obtain ⟨h1, h2, h3, h4⟩ := h
  exact ⟨by rw [hb.cell (p := ⟨g, _, none⟩) hg]; exact h1, by rw [hb.cell (p := ⟨g, _, none⟩) hg]; exact h2, by rw [hb.cell (p := ⟨g, _, none⟩) hg]; exact h3, by rw [hb.cell (p := ⟨g, _, none⟩) hg]; exact h4⟩
theorem one_word (w : World) (x : W) (E : TypeId) : ∀ j u, (wc x)[j]? = some u → (w.alloc (.cells #[.int .i64 x.kind, .string ⟨x.text.toArray⟩, .int .i64 x.num, .int .i64 x.pos] E)).cell? ((⟨w.heap.size, 0, none⟩ : Addr).add j) = some u := by
  intro j u hj
  rw [waddr]
  refine cell_new _ _ _ _ _ _ rfl ?_
  simpa [wc] using hj
/-- A block that is no row of the slice's stays when the slice grows. -/
theorem Blk.grown {w w' : World} {row : Option Nat} {g : Nat} {cs : Array Value} (h : Blk w g cs) (hg : w.grownBy w' row) (hne : some g ≠ row) : Blk w' g cs := by
  obtain ⟨T, hT⟩ := h
  refine ⟨T, ?_⟩
  rw [hg.block g (Array.getElem?_eq_some_iff.1 hT).1 hne]
  exact hT
/-- 'append(own, x)'. -/
theorem wpList_append_w {P : Program} (w : World) {ops : Array Oper} {rest : List Oper} {o : Oper} {a : Act} {Q : Exit → Act → World → Prop} (hgd : o.guard = none) (s x : Operand) (t : TypeId)
    (ho : o.op = .call { callee := .builtin .append, args := #[s, x], argTypes := #[t, t] }) (E : TypeId) (i : TypeInfo) (ht : P.underlying t = some (.slice E)) (hi : P.info? E = some i) (hz : i.zero = some (wordV 0 ⟨#[]⟩ 0 0)) (hsize : i.size = 4) (hby : i.bytes = 40)
    (N : Nat) (v : Value) (ws : List W) (y : W) (hs : a.eval s = v) (hown : OwnW E N w v ws) (b : Nat) (hx : a.eval x = .slice (some ⟨b, 0, none⟩) 1 1) (hb : ∀ j u, (wc y)[j]? = some u → w.cell? ((⟨b, 0, none⟩ : Addr).add j) = some u) (hn : ws.length ≤ 1000000) (hN : N ≤ w.heap.size)
    (h : ∀ v' w', OwnW E N w' v' (ws ++ [y]) → Below N w w' → w.grownBy w' v.ownBlock → wpList P ops Q rest (a.put o.dst v') w') : wpList P ops Q (o :: rest) a w := by
  refine wpList_append_own_at w hgd s x t ho N E i (wordV 0 ⟨#[]⟩ 0 0) 4 40 ht hi hz hsize hby rfl (by decide) v ws.length (wlist ws) hs hown ⟨b, 0, none⟩ 1 1 (wc y) hx rfl hb ?_ (by unfold maxLen; omega) (by omega) hN ?_
  · intro u hu
    simp [wc] at hu
    rcases hu with rfl | rfl | rfl | rfl <;> rfl
  · intro v' w' h1 h2 _ _
    refine h v' w' ?_ ((Below.refl _ _).grown h2 hN (fun q hq => (World.ownsRow.lt hown q hq).1)) h2
    show w'.ownsRow N E 4 v' (ws ++ [y]).length (wlist (ws ++ [y]))
    rw [wlist_append, List.length_append]
    have e : wlist [y] = wc y := by simp [wlist]
    rw [e]
    exact h1
end SC
namespace Go.Proofs.YtialbhllnhkkeaaDoor
open Go.RowKit SC PB
set_option maxRecDepth 100000 in
theorem info_word : (Tryd.prog.info? 33).map (fun i => (i.zero, i.size, i.bytes)) = some (some (wordV 0 ⟨#[]⟩ 0 0), 4, 40) := by kernel_rfl
set_option maxRecDepth 100000 in
theorem info_rword : (Tryd.prog.info? 34).map (fun i => (i.zero, i.size, i.bytes)) = some (some (wordV 0 ⟨#[]⟩ 0 0), 4, 40) := by kernel_rfl
end Go.Proofs.YtialbhllnhkkeaaDoor

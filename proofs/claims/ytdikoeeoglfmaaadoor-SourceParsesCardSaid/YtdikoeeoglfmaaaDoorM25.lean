/-
  The reference's statement: what is said of words and of memory.
-/
import Derived.Test.YtdikoeeoglfmaaaDoorM17
import Derived.Test.YtdikoeeoglfmaaaDoorM23
import Derived.Test.YtdikoeeoglfmaaaDoorM24
namespace SS
open Go Go.RowKit PB SC
theorem kind_wd {x : W} (hx : Fit x) (h : Wd 1 (bs x.text).data.toList 0) : x.kind = 1 := by
  have h1 := h.1
  rw [show (bs x.text).data.toList = x.text by unfold bs; simp, hx.1] at h1
  injection h1
theorem kind_row {x : W} (hx : Fit x) (h : rowOf (bs x.text) ≠ []) : x.kind = 1 := kind_wd hx (row_wd h)
theorem kind_key {x : W} {w : ByteArray} {n : Nat} (hx : Fit x) (h : arityN w (bs x.text) = some n) : x.kind = 1 := kind_wd hx (key_wd h)
theorem kindAt_some {ws : List W} {k : Nat} {x : W} (h : ws[k]? = some x) : kindAt ws k = x.kind := by unfold kindAt; rw [h]
theorem kindAt_none {ws : List W} {k : Nat} (h : ws.length ≤ k) : kindAt ws k = 0 := by unfold kindAt; rw [List.getElem?_eq_none h]
theorem posAt_some {sz : Int} {ws : List W} {k : Nat} {x : W} (h : ws[k]? = some x) : posAt sz ws k = x.pos := by unfold posAt; rw [h]
theorem posAt_none {sz : Int} {ws : List W} {k : Nat} (h : ws.length ≤ k) : posAt sz ws k = sz := by unfold posAt; rw [List.getElem?_eq_none h]
theorem kindAt_lt {ws : List W} {k : Nat} (h : kindAt ws k ≠ 0) : k < ws.length := by
  by_cases hk : k < ws.length
  · exact hk
  · exact absurd (kindAt_none (by omega)) h
theorem drop_nil' {ws : List W} {k : Nat} (h : ¬ k < ws.length) : ws.drop k = [] := List.drop_eq_nil_of_le (by omega)
/-- One word: a number or not. -/
theorem nums_round {sz : Int} {n : Nat} {acc : List Int} {ws : List W} {k : Nat} {r : PR (List Int)} (h : numsP sz (n + 1) acc (ws.drop k) = r) : (kindAt ws k = 2 → ∃ x, ws[k]? = some x ∧ numsP sz n (acc ++ [x.num]) (ws.drop (k + 1)) = r) ∧ (¬ kindAt ws k = 2 → r = .bad 4 (posAt sz ws k)) := by
  by_cases hk : k < ws.length
  · have hx := List.getElem?_eq_getElem hk
    obtain ⟨h1, h2⟩ := numsP_step h (by omega) hx
    rw [kindAt_some hx, posAt_some hx]
    exact ⟨fun e => ⟨_, hx, h1 e⟩, h2⟩
  · rw [kindAt_none (by omega), posAt_none (by omega)]
    exact ⟨fun e => absurd e (by decide), fun _ => numsP_none h (by omega) (by omega)⟩
/-- One round of the keys, as the reference asks. -/
theorem keys_round {sz : Int} {x : I} {ws : List W} {k : Nat} {R : PR I} (hf : ∀ (i : Nat) (y : W), ws[i]? = some y → Fit y) (h : keysP sz x (ws.drop k) = R) :
    (kindAt ws k = 3 → ∃ y, ws[k]? = some y ∧ R = .ok x (ws.drop (k + 1))) ∧
    (¬ kindAt ws k = 3 → ¬ kindAt ws k = 1 → R = .bad 4 (posAt sz ws k)) ∧
    (kindAt ws k = 1 → ∃ y, ws[k]? = some y ∧ (arityN x.word (bs y.text) = none → R = .bad 4 (posAt sz ws k)) ∧
      (∀ n, arityN x.word (bs y.text) = some n → (hasKey x.keys (bs y.text) = true → R = .bad 7 (posAt sz ws k)) ∧
        (hasKey x.keys (bs y.text) = false → ∃ nr, numsP sz n [] (ws.drop (k + 1)) = nr ∧ (∀ e p, nr = .bad e p → R = .bad e p) ∧ (∀ vs r, nr = .ok vs r → keysP sz (x.with ⟨bs y.text, vs, y.pos⟩) r = R)))) := by
  by_cases hk : k < ws.length
  · have hx := List.getElem?_eq_getElem hk
    generalize ws[k] = y at hx
    rw [kindAt_some hx, posAt_some hx]
    rw [drop_at hx] at h
    obtain ⟨h3, hb, ho⟩ := keysP_round h
    refine ⟨fun e => ⟨y, hx, h3 e⟩, fun e e1 => ?_, fun e1 => ⟨y, hx, fun ha => ?_, fun n ha => ⟨fun hd => ?_, fun hd => ⟨_, rfl, fun e p hn => ?_, fun vs r hn => ?_⟩⟩⟩⟩
    · refine hb e 4 y.pos ?_
      unfold keyP
      cases ha : arityN x.word (bs y.text) with
      | none => rfl
      | some n => exact absurd (kind_key (hf _ _ hx) ha) e1
    · exact hb (by rw [e1]; decide) 4 y.pos (by unfold keyP; rw [ha])
    · exact hb (by rw [e1]; decide) 7 y.pos (by unfold keyP; rw [ha]; dsimp only; rw [if_pos hd])
    · exact hb (by rw [e1]; decide) e p (by unfold keyP; rw [ha]; dsimp only; rw [if_neg (by rw [hd]; decide), hn])
    · exact ho (by rw [e1]; decide) _ _ (by unfold keyP; rw [ha]; dsimp only; rw [if_neg (by rw [hd]; decide), hn])
  · rw [kindAt_none (by omega), posAt_none (by omega)]
    rw [drop_nil' hk, keysP_nil] at h
    exact ⟨fun e => absurd e (by decide), fun _ _ => h.symm, fun e => absurd e (by decide)⟩
theorem RR.seti {T : TypeId} {w : World} {p g : Nat} {sz : Int} {ws : List W} {k : Nat} (h : RR T w p g sz ws k) (hg : g < p) (k' : Nat) : RR T (w.setCell ⟨p, 1, none⟩ (.int .i64 k')) p g sz ws k' := by
  obtain ⟨⟨b, c, h1, h2⟩, hr, hl⟩ := h
  refine ⟨⟨b, c, ?_, h2⟩, fun i x hx => ?_, fun h0 => by rw [World.size_setCell]; exact hl h0⟩
  · unfold BT at h1 ⊢
    simp [World.setCell, Array.getElem?_modify, h1]
  · obtain ⟨a1, a2, a3, a4⟩ := hr i x hx
    have e : ∀ j, (w.setCell ⟨p, 1, none⟩ (.int .i64 k')).cell? ⟨g, j, none⟩ = w.cell? ⟨g, j, none⟩ := fun j => World.cell?_setCell_other w _ _ _ (by intro e; injection e; omega)
    exact ⟨by rw [e]; exact a1, by rw [e]; exact a2, by rw [e]; exact a3, by rw [e]; exact a4⟩
theorem RR.setn {T : TypeId} {w : World} {p g q o : Nat} {sz : Int} {ws : List W} {k : Nat} (h : RR T w p g sz ws k) (hq : p < q) (hg : g < p) (v : Value) : RR T (w.setCell ⟨q, o, none⟩ v) p g sz ws k := by
  obtain ⟨⟨b, c, h1, h2⟩, hr, hl⟩ := h
  refine ⟨⟨b, c, ?_, h2⟩, fun i x hx => ?_, fun h0 => by rw [World.size_setCell]; exact hl h0⟩
  · unfold BT at h1 ⊢
    rw [Below.heap_setCell _ _ _ _ (by dsimp only; omega)]
    exact h1
  · obtain ⟨a1, a2, a3, a4⟩ := hr i x hx
    have e : ∀ j, (w.setCell ⟨q, o, none⟩ v).cell? ⟨g, j, none⟩ = w.cell? ⟨g, j, none⟩ := fun j => World.cell?_setCell_other w _ _ _ (by intro e; injection e; omega)
    exact ⟨by rw [e]; exact a1, by rw [e]; exact a2, by rw [e]; exact a3, by rw [e]; exact a4⟩
theorem RR.below {T : TypeId} {w w' : World} {p g N : Nat} {sz : Int} {ws : List W} {k : Nat} (h : RR T w p g sz ws k) (hp : p < N) (hg : g < p) (hb : Below N w w') : RR T w' p g sz ws k := by
  obtain ⟨⟨b, c, h1, h2⟩, hr, hl⟩ := h
  refine ⟨⟨b, c, h1.keptN hb hp, h2⟩, fun i x hx => ?_, fun h0 => Nat.lt_of_lt_of_le (hl h0) hb.size⟩
  obtain ⟨a1, a2, a3, a4⟩ := hr i x hx
  have hgN : g < N := Nat.lt_trans hg hp
  exact ⟨by rw [hb.cell (p := ⟨g, _, none⟩) hgN]; exact a1, by rw [hb.cell (p := ⟨g, _, none⟩) hgN]; exact a2, by rw [hb.cell (p := ⟨g, _, none⟩) hgN]; exact a3, by rw [hb.cell (p := ⟨g, _, none⟩) hgN]; exact a4⟩
theorem RR.succ {T : TypeId} {w : World} {p g : Nat} {sz : Int} {ws : List W} {k : Nat} (h : RR T w p g sz ws k) (hg : g < p) : RR T (w.setCell ⟨p, 1, none⟩ (.int .i64 ((k : Int) + 1))) p g sz ws (k + 1) := by
  have := h.seti hg (k + 1)
  rwa [show (((k + 1 : Nat) : Int)) = (k : Int) + 1 by omega] at this
/-- The cells that the reader's next word is read from. -/
theorem RR.cells {T : TypeId} {w : World} {p g : Nat} {sz : Int} {ws : List W} {k : Nat} {y : W} (h : RR T w p g sz ws k) (hy : ws[k]? = some y) :
    ∃ c, p < w.heap.size ∧ g < w.heap.size ∧ ∀ W, Below w.heap.size w W → (W.cell? ⟨p, 0, none⟩ = some (.slice (some ⟨g, 0, none⟩) ws.length c) ∧ W.cell? ⟨p, 1, none⟩ = some (.int .i64 k) ∧ W.cell? ⟨p, 2, none⟩ = some (.int .i64 sz)) ∧ W.cell? ⟨g, k * 4 + 1, none⟩ = some (.string (bs y.text)) ∧ W.cell? ⟨g, k * 4 + 2, none⟩ = some (.int .i64 y.num) := by
  have hk := (List.getElem?_eq_some_iff.1 hy).1
  have hgl := h.lt (by omega)
  obtain ⟨⟨b, c, h1, h2⟩, hr, hl⟩ := h
  obtain rfl := h2 (by omega)
  obtain ⟨a1, a2, a3, a4⟩ := hr k y hy
  refine ⟨c, h1.blk.lt, hgl, fun W hW => ⟨Blk3 (h1.kept hW).blk, ?_, ?_⟩⟩
  · rw [hW.cell (p := ⟨g, _, none⟩) hgl]; exact a2
  · rw [hW.cell (p := ⟨g, _, none⟩) hgl]; exact a3
theorem RR.cellsN {T : TypeId} {w : World} {p g N : Nat} {sz : Int} {ws : List W} {k : Nat} {y : W} (h : RR T w p g sz ws k) (hy : ws[k]? = some y) (hp : p < N) (hg : g < p) :
    ∃ c, ∀ W, Below N w W → (W.cell? ⟨p, 0, none⟩ = some (.slice (some ⟨g, 0, none⟩) ws.length c) ∧ W.cell? ⟨p, 1, none⟩ = some (.int .i64 k) ∧ W.cell? ⟨p, 2, none⟩ = some (.int .i64 sz)) ∧ W.cell? ⟨g, k * 4 + 1, none⟩ = some (.string (bs y.text)) ∧ W.cell? ⟨g, k * 4 + 2, none⟩ = some (.int .i64 y.num) := by
  have hk := (List.getElem?_eq_some_iff.1 hy).1
  obtain ⟨⟨b, c, h1, h2⟩, hr, hl⟩ := h
  obtain rfl := h2 (by omega)
  obtain ⟨a1, a2, a3, a4⟩ := hr k y hy
  refine ⟨c, fun W hW => ⟨Blk3 (h1.keptN hW hp).blk, ?_, ?_⟩⟩
  · rw [hW.cell (p := ⟨g, _, none⟩) (Nat.lt_trans hg hp)]; exact a2
  · rw [hW.cell (p := ⟨g, _, none⟩) (Nat.lt_trans hg hp)]; exact a3
theorem RR.free {T : TypeId} {w : World} {p g : Nat} {sz : Int} {ws : List W} {k : Nat} (h : RR T w p g sz ws k) : ∀ W, Below w.heap.size w W → W.cell? ⟨p, 1, none⟩ = some (.int .i64 k) ∧ W.frozen? ⟨p, 1, none⟩ = false ∧ p < W.heap.size := by
  obtain ⟨⟨b, c, h1, h2⟩, hr, hl⟩ := h
  exact fun W hW => ⟨(Blk3 (h1.kept hW).blk).2.1, (Blk3f (h1.kept hW).blk).2.1, (h1.kept hW).blk.lt⟩
theorem item_first {sz : Int} {ws : List W} {k : Nat} {y : W} {R : PR I} (hf : ∀ (i : Nat) (y : W), ws[i]? = some y → Fit y) (hy : ws[k]? = some y) (h : itemP sz (ws.drop k) = R) :
    (kindAt ws k ≠ 1 → R = .bad 4 (posAt sz ws k)) ∧ (rowOf (bs y.text) = [] → R = .bad 4 (posAt sz ws k)) ∧
    (kindAt ws k = 1 → rowOf (bs y.text) ≠ [] → (bs y.text = bTable → keysP sz ⟨bs y.text, ⟨#[]⟩, [], y.pos⟩ (ws.drop (k + 1)) = R) ∧
      (¬ bs y.text = bTable → (¬ kindAt ws (k + 1) = 1 → R = .bad 4 (posAt sz ws (k + 1))) ∧ (kindAt ws (k + 1) = 1 → ∃ q, ws[k + 1]? = some q ∧ keysP sz ⟨bs y.text, bs q.text, [], y.pos⟩ (ws.drop (k + 2)) = R))) := by
  rw [drop_at hy] at h
  unfold itemP at h
  dsimp only at h
  rw [posAt_some hy, kindAt_some hy]
  have h2 : rowOf (bs y.text) = [] → R = .bad 4 y.pos := fun e => by rw [if_pos e] at h; exact h.symm
  refine ⟨fun e => h2 ?_, h2, fun e1 e2 => ⟨fun e3 => ?_, fun e3 => ?_⟩⟩
  · by_cases hr : rowOf (bs y.text) = []
    · exact hr
    · exact absurd (kind_row (hf _ _ hy) hr) e
  · rw [if_neg e2, if_pos e3] at h; exact h
  · rw [if_neg e2, if_neg e3] at h
    by_cases hk : k + 1 < ws.length
    · have hx := List.getElem?_eq_getElem hk
      generalize ws[k + 1] = q at hx
      rw [kindAt_some hx, posAt_some hx]
      rw [drop_at hx] at h
      dsimp only at h
      exact ⟨fun e => by rw [if_neg e] at h; exact h.symm, fun e => ⟨q, hx, by rw [if_pos e] at h; exact h⟩⟩
    · rw [kindAt_none (by omega), posAt_none (by omega)]
      rw [drop_nil' hk] at h
      exact ⟨fun _ => h.symm, fun e => absurd e (by decide)⟩
/-- Where the reader stands. -/
def rpos (w : World) (p : Nat) : Nat := match w.cell? ⟨p, 1, none⟩ with
  | some (.int _ n) => n.toNat
  | _ => 0
theorem RR.pos {T : TypeId} {w : World} {p g : Nat} {sz : Int} {ws : List W} {k : Nat} (h : RR T w p g sz ws k) : rpos w p = k := by
  unfold rpos
  rw [(h.free _ (Below.refl _ _)).1]
  simp
theorem getV_has (key : ByteArray) : ∀ ks : List K, (getV key ks).isSome = hasKey ks key
  | [] => rfl
  | k :: t => by
    unfold getV hasKey
    rw [List.any_cons]
    by_cases h : k.key = key
    · rw [if_pos h, decide_eq_true h]; rfl
    · rw [if_neg h, decide_eq_false h]
      have := getV_has key t
      unfold hasKey at this
      rw [this, Bool.false_or]
theorem arity_none {w k : ByteArray} (h : arityN w k = none) : arity w k = -1 := by unfold arity; rw [h]; rfl
theorem arity_some {w k : ByteArray} {n : Nat} (h : arityN w k = some n) : arity w k = n := by unfold arity; rw [h]; rfl
def zItem : Array Value := #[.string ⟨#[]⟩, .string ⟨#[]⟩, .slice none 0 0, .int .i64 0]
/-- The head of the loop of statement. -/
def SInv (EV EK T : TypeId) (w : World) (p g : Nat) (sz : Int) (ws : List W) (X : Nat) (R : PR I) (wr : World) : Prop :=
  ∃ (word nm : ByteArray) (ps : Int) (k : Nat) (ks : List K) (v : Value), k ≤ ws.length ∧ ks.length ≤ k ∧ keysP sz ⟨word, nm, ks, ps⟩ (ws.drop k) = R ∧ (∀ q ∈ ks, q.vals.length ≤ 2) ∧ Blk wr w.heap.size zItem ∧ Blk wr X #[.string word, .string nm, v, .int .i64 ps] ∧ OwnKs EV EK (X + 1) wr v ks ∧ RR T wr p g sz ws k ∧ But p w wr
/-- What the reference's statement leaves. -/
def RetI (EV EK T : TypeId) (r : PR I) (w : World) (p g : Nat) (sz : Int) (ws : List W) (e : Ending) (w' : World) : Prop :=
  match r with
  | .bad er q => ∃ (a b : ByteArray) (c : Option Addr) (c1 c2 : Nat) (d : Int) (k' : Nat), e = .returned (.tuple #[.agg #[.string a, .string b, .slice c c1 c2, .int .i64 d], .int .i64 er]) ∧ k' ≤ ws.length ∧ posAt sz ws k' = q ∧ RR T w' p g sz ws k' ∧ But p w w'
  | .ok x rest => ∃ u k', e = .returned (.tuple #[iagg x u, .int .i64 0]) ∧ ws.drop k' = rest ∧ k' ≤ ws.length ∧ OwnKs EV EK w.heap.size w' u x.keys ∧ RR T w' p g sz ws k' ∧ But p w w'
end SS

/-
  Polynomials that grow: append of one number to a row that is owned.
-/
import Derived.Test.YtmfmbglacebeiaaPoM
namespace PO
open Go Go.RowKit PB
/-- The cells of n elements. -/
def plist (S : Nat → Bool) (Q : Nat → Option Addr) (M C : Nat → Nat) : Nat → List Value
  | 0 => []
  | n + 1 => plist S Q M C n ++ [.bool (S n), .slice (Q n) (M n) (C n)]
theorem plist_succ (S : Nat → Bool) (Q : Nat → Option Addr) (M C : Nat → Nat) (n : Nat) : plist S Q M C (n + 1) = plist S Q M C n ++ [.bool (S n), .slice (Q n) (M n) (C n)] := rfl
theorem plist_length (S : Nat → Bool) (Q : Nat → Option Addr) (M C : Nat → Nat) : ∀ n, (plist S Q M C n).length = n * 2
  | 0 => rfl
  | n + 1 => by unfold plist; rw [List.length_append, plist_length S Q M C n]; simp; omega
theorem plist_get (S : Nat → Bool) (Q : Nat → Option Addr) (M C : Nat → Nat) : ∀ n i, i < n → (plist S Q M C n)[i * 2]? = some (.bool (S i)) ∧ (plist S Q M C n)[i * 2 + 1]? = some (.slice (Q i) (M i) (C i))
  | 0, i, h => by omega
  | n + 1, i, h => by
    have hl := plist_length S Q M C n
    unfold plist
    by_cases e : i = n
    · subst e
      rw [List.getElem?_append_right (by omega), List.getElem?_append_right (by omega), hl]
      simp
    · have := plist_get S Q M C n i (by omega)
      rw [List.getElem?_append_left (by omega), List.getElem?_append_left (by omega)]
      exact this
theorem plist_congr {S S' : Nat → Bool} {Q Q' : Nat → Option Addr} {M M' C C' : Nat → Nat} : ∀ n, (∀ i, i < n → S i = S' i ∧ Q i = Q' i ∧ M i = M' i ∧ C i = C' i) → plist S Q M C n = plist S' Q' M' C' n
  | 0, _ => rfl
  | n + 1, h => by
    unfold plist
    obtain ⟨h1, h2, h3, h4⟩ := h n (by omega)
    rw [plist_congr n (fun i hi => h i (by omega)), h1, h2, h3, h4]
/-- A row of numbers that is owned, each number's limbs elsewhere. -/
def OwnP (E : TypeId) (N : Nat) (w : World) (v : Value) (n : Nat) (f : Nat → Int) : Prop :=
  ∃ (S : Nat → Bool) (Q : Nat → Option Addr) (M C G : Nat → Nat), w.ownsRow N E 2 v n (plist S Q M C n) ∧ ∀ i, i < n → Elt w (S i) (Q i) (M i) (C i) (G i) (f i) ∧ (M i ≠ 0 → v.ownBlock ≠ some (G i) ∧ N ≤ G i)
theorem OwnP.nil (E : TypeId) (N : Nat) (w : World) (f : Nat → Int) : OwnP E N w (.slice none 0 0) 0 f :=
  ⟨fun _ => false, fun _ => none, fun _ => 0, fun _ => 0, fun _ => 0, World.ownsRow_nil w N E 2, fun i hi => by omega⟩
theorem row_kept {E : TypeId} {N n k : Nat} {xs : List Value} {w w' : World} {v : Value} (h : w.ownsRow N E k v n xs) (hb : Below w.heap.size w w') : w'.ownsRow N E k v n xs := by
  obtain ⟨h1, h2⟩ := h
  refine ⟨h1, ?_⟩
  rcases h2 with h2 | ⟨g, cap, cur, rfl, hg, hh, r⟩
  · exact .inl h2
  · have hlt : g < w.heap.size := by
      rcases Nat.lt_or_ge g w.heap.size with h | h
      · exact h
      · rw [Array.getElem?_eq_none h] at hh; cases hh
    exact .inr ⟨g, cap, cur, rfl, hg, by rw [hb.block g hlt]; exact hh, r⟩
theorem OwnP.kept {E : TypeId} {N n : Nat} {f : Nat → Int} {w w' : World} {v : Value} (h : OwnP E N w v n f) (hb : Below w.heap.size w w') : OwnP E N w' v n f := by
  obtain ⟨S, Q, M, C, G, h1, h2⟩ := h
  exact ⟨S, Q, M, C, G, row_kept h1 hb, fun i hi => ⟨(h2 i hi).1.kept hb, (h2 i hi).2⟩⟩
theorem OwnP.lt {E : TypeId} {N n : Nat} {f : Nat → Int} {w : World} {v : Value} (h : OwnP E N w v n f) {g : Nat} (hg : v.ownBlock = some g) : N ≤ g ∧ g < w.heap.size := by
  obtain ⟨S, Q, M, C, G, h1, h2⟩ := h
  exact World.ownsRow.lt h1 g hg
theorem paddr (b off j : Nat) : (⟨b, off, none⟩ : Addr).add j = ⟨b, off + j, none⟩ := by unfold Addr.add; split <;> simp_all
theorem OwnP.can {E : TypeId} {N n : Nat} {f : Nat → Int} {w : World} {v : Value} (h : OwnP E N w v n f) (l : List Int) (hl : l.length = n) (hf : ∀ i, i < n → l[i]? = some (f i)) : CanP N w v l := by
  obtain ⟨S, Q, M, C, G, h1, h2⟩ := h
  subst hl
  have hlt := World.ownsRow.lt h1
  have hcp : ∀ g : Nat, v.ownBlock = some g → True := fun _ _ => trivial
  rcases h1.2 with ⟨rfl, e⟩ | ⟨g, cap, cur, rfl, hg, hh, hnc, r⟩
  · obtain rfl : l = [] := List.eq_nil_of_length_eq_zero e
    exact canp_nil N w
  · refine ⟨_, g, 0, cap, rfl, fun _ => rfl, fun _ => (hlt g rfl).2, fun _ => hg, hnc, fun j z hz => ?_⟩
    have hj := (List.getElem?_eq_some_iff.1 hz).1
    obtain rfl : f j = z := by have := hf j hj; rw [hz] at this; exact (Option.some.inj this).symm
    obtain ⟨e1, e2⟩ := plist_get S Q M C l.length j hj
    have k1 := World.ownsRow.cells h1 (g := g) rfl _ _ e1
    have k2 := World.ownsRow.cells h1 (g := g) rfl _ _ e2
    rw [paddr] at k1 k2
    exact ⟨S j, Q j, M j, C j, k1, by rw [Nat.add_assoc]; exact k2, (h2 j hj).1.can (fun hm => ((h2 j hj).2 hm).2)⟩
/-- The elements after an append. -/
theorem ownp_grown {E : TypeId} {N n : Nat} {f : Nat → Int} {w w' : World} {v v' : Value} {s : Bool} {q : Option Addr} {m c N2 : Nat} {z : Int} {S : Nat → Bool} {Q : Nat → Option Addr} {M C G : Nat → Nat}
    (h1 : w.ownsRow N E 2 v n (plist S Q M C n)) (h2 : ∀ i, i < n → Elt w (S i) (Q i) (M i) (C i) (G i) (f i) ∧ (M i ≠ 0 → v.ownBlock ≠ some (G i) ∧ N ≤ G i))
    (hz : IsCan N2 w (.agg #[.bool s, .slice q m c]) z) (hN2 : N ≤ N2) (hv : ∀ g, v.ownBlock = some g → g < N2) (hf : f n = z)
    (k1 : w'.ownsRow N E 2 v' (n + 1) (plist S Q M C n ++ [.bool s, .slice q m c])) (k2 : w.grownBy w' v.ownBlock) (k4 : v'.ownBlock = v.ownBlock ∨ v'.ownBlock = some w.heap.size) : OwnP E N w' v' (n + 1) f := by
  obtain ⟨s', q', m', c', g', e, hel, hg'⟩ := can_elt hz
  simp only [Value.agg.injEq, Array.mk.injEq, List.cons.injEq, Value.bool.injEq, Value.slice.injEq, and_true] at e
  obtain ⟨rfl, rfl, rfl, rfl⟩ := e
  have hblk : ∀ g, g < w.heap.size → v.ownBlock ≠ some g → w'.heap[g]? = w.heap[g]? := fun g hg hne => k2.block g hg (fun e => hne e.symm)
  refine ⟨fun i => if i = n then s else S i, fun i => if i = n then q else Q i, fun i => if i = n then m else M i, fun i => if i = n then c else C i, fun i => if i = n then g' else G i, ?_, fun i hi => ?_⟩
  · have e : plist (fun i => if i = n then s else S i) (fun i => if i = n then q else Q i) (fun i => if i = n then m else M i) (fun i => if i = n then c else C i) (n + 1) = plist S Q M C n ++ [.bool s, .slice q m c] := by
      have hc : ∀ j, j < n → (if j = n then s else S j) = S j ∧ (if j = n then q else Q j) = Q j ∧ (if j = n then m else M j) = M j ∧ (if j = n then c else C j) = C j := fun j hj => by
        have hne : j ≠ n := by omega
        simp only [if_neg hne, and_self]
      rw [plist_succ, plist_congr n hc]
      simp only [if_true]
    rw [e]
    exact k1
  · have hown' : ∀ g, g < w.heap.size → v.ownBlock ≠ some g → v'.ownBlock ≠ some g := fun g hg hne e => by
      rcases k4 with k | k
      · rw [k] at e; exact hne e
      · rw [k] at e; have := Option.some.inj e; omega
    by_cases e : i = n
    · subst e
      simp only [if_true]
      rw [hf]
      have hne : m ≠ 0 → v.ownBlock ≠ some g' := fun hm e => by have := hv g' e; have := hg' hm; omega
      exact ⟨hel.same fun hm => hblk g' (hel.block_lt hm) (hne hm), fun hm => ⟨hown' g' (hel.block_lt hm) (hne hm), Nat.le_trans hN2 (hg' hm)⟩⟩
    · simp only [if_neg e]
      obtain ⟨a1, a2⟩ := h2 i (by omega)
      exact ⟨a1.same fun hm => hblk _ (a1.block_lt hm) (a2 hm).1, fun hm => ⟨hown' _ (a1.block_lt hm) (a2 hm).1, (a2 hm).2⟩⟩
/-- 'append(own, x)'. -/
theorem wpList_append_elt {P : Program} (w : World) {ops : Array Oper} {rest : List Oper} {o : Oper} {a : Act} {Q' : Exit → Act → World → Prop} (hgd : o.guard = none) (s x : Operand) (t : TypeId)
    (ho : o.op = .call { callee := .builtin .append, args := #[s, x], argTypes := #[t, t] }) (E : TypeId) (i : TypeInfo) (ht : P.underlying t = some (.slice E)) (hi : P.info? E = some i) (hz : i.zero = some (.agg #[.bool false, .slice none 0 0])) (hsize : i.size = 2) (hby : i.bytes = 32)
    (N : Nat) (v : Value) (n : Nat) (f : Nat → Int) (hs : a.eval s = v) (hown : OwnP E N w v n f) (b : Nat) (hx : a.eval x = .slice (some ⟨b, 0, none⟩) 1 1) (sb : Bool) (q : Option Addr) (m c N2 : Nat)
    (hb0 : w.cell? ⟨b, 0, none⟩ = some (.bool sb)) (hb1 : w.cell? ⟨b, 1, none⟩ = some (.slice q m c)) (hcan : IsCan N2 w (.agg #[.bool sb, .slice q m c]) (f n)) (hN2 : N ≤ N2) (hv : ∀ g, v.ownBlock = some g → g < N2) (hn : n ≤ 1000000) (hN : N ≤ w.heap.size)
    (h : ∀ v' w', OwnP E N w' v' (n + 1) f → Below N w w' → wpList P ops Q' rest (a.put o.dst v') w') : wpList P ops Q' (o :: rest) a w := by
  obtain ⟨S, Q, M, C, G, h1, h2⟩ := hown
  refine wpList_append_own_at w hgd s x t ho N E i (.agg #[.bool false, .slice none 0 0]) 2 32 ht hi hz hsize hby rfl (by decide) v n (plist S Q M C n) hs h1 ⟨b, 0, none⟩ 1 1 [.bool sb, .slice q m c] hx rfl ?_ ?_ (by unfold maxLen; omega) (by omega) hN ?_
  · intro j u hu
    have hj := (List.getElem?_eq_some_iff.1 hu).1
    rw [paddr, Nat.zero_add]
    match j, hj with
    | 0, _ => simp at hu; subst hu; exact hb0
    | 1, _ => simp at hu; subst hu; exact hb1
  · intro u hu
    simp at hu
    rcases hu with rfl | rfl <;> rfl
  · intro v' w' k1 k2 _ k4
    exact h v' w' (ownp_grown h1 h2 hcan hN2 hv rfl k1 k2 k4) ((Below.refl _ _).grown k2 hN (fun g hg => (World.ownsRow.lt h1 g hg).1))
end PO
namespace Go.Proofs.Ytmfmbglacebeiaa
open Go.RowKit PB PO
set_option maxRecDepth 100000 in
theorem info_elt : (Try.prog.info? 50).map (fun i => (i.zero, i.size, i.bytes)) = some (some (.agg #[.bool false, .slice none 0 0]), 2, 32) := by kernel_rfl
end Go.Proofs.Ytmfmbglacebeiaa

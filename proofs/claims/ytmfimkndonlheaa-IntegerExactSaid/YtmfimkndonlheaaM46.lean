/-
  What the verifier's Common speaks of: canonical numbers between two blocks; the state of its loop.
-/
import Derived.Test.YtmfimkndonlheaaM45
namespace PB
open Go Go.RowKit
/-- v is a canonical api.Int for z, its limbs in a block from lo to hi. -/
def CanR (lo hi : Nat) (w : World) (v : Value) (z : Int) : Prop :=
  ∃ (s : Bool) (base : Option Addr) (b off X c : Nat), v = .agg #[.bool s, .slice base (nl X) c] ∧ (nl X ≠ 0 → base = some ⟨b, off, none⟩) ∧ Num w b off (nl X) X ∧ nl X ≤ c ∧ nl X ≤ 1000000000 ∧ z = sg s X ∧ (X = 0 → s = false) ∧ (nl X ≠ 0 → lo ≤ b ∧ b < hi)
theorem canr_of {N : Nat} {w : World} {v : Value} {z : Int} (h : IsCan N w v z) : CanR N w.heap.size w v z := by
  obtain ⟨s, base, b, off, X, c, h1, h2, h3, h4, h5, h6, h7, h8⟩ := h
  exact ⟨s, base, b, off, X, c, h1, h2, h3, h4, h5, h6, h7, fun h => ⟨h8 h, h3.block_lt h⟩⟩
theorem CanR.can {N lo hi : Nat} {w : World} {v : Value} {z : Int} (h : CanR lo hi w v z) (hN : N ≤ lo) : IsCan N w v z := by
  obtain ⟨s, base, b, off, X, c, h1, h2, h3, h4, h5, h6, h7, h8⟩ := h
  exact ⟨s, base, b, off, X, c, h1, h2, h3, h4, h5, h6, h7, fun h => Nat.le_trans hN (h8 h).1⟩
theorem CanR.int {lo hi : Nat} {w : World} {v : Value} {z : Int} (h : CanR lo hi w v z) : IsInt w v z := (h.can (Nat.zero_le _)).int
theorem CanR.kept {lo hi : Nat} {w w' : World} {v : Value} {z : Int} (h : CanR lo hi w v z) (hb : Below w.heap.size w w') : CanR lo hi w' v z := by
  obtain ⟨s, base, b, off, X, c, h1, h2, h3, h4, h5, h6, h7⟩ := h
  exact ⟨s, base, b, off, X, c, h1, h2, h3.kept hb, h4, h5, h6, h7⟩
theorem CanR.alloc {lo hi : Nat} {w : World} {v : Value} {z : Int} (h : CanR lo hi w v z) (o : Obj) : CanR lo hi (w.alloc o) v z := h.kept (bs_alloc (Below.refl _ _) _)
theorem CanR.drew {lo hi : Nat} {w : World} {v : Value} {z : Int} (h : CanR lo hi w v z) : CanR lo hi w.drew v z := h
theorem CanR.set {lo hi g j : Nat} {w : World} {v : Value} {z : Int} (h : CanR lo hi w v z) (hp : g < lo ∨ hi ≤ g) (u : Value) : CanR lo hi (w.setCell ⟨g, j, none⟩ u) v z := by
  obtain ⟨s, base, b, off, X, c, h1, h2, h3, h4, h5, h6, h7, h8⟩ := h
  exact ⟨s, base, b, off, X, c, h1, h2, h3.other u (fun hn e => by have := h8 hn; simp only at e; omega), h4, h5, h6, h7, h8⟩
theorem CanR.form {lo hi : Nat} {w : World} {v : Value} {z : Int} (h : CanR lo hi w v z) : ∃ (s : Bool) (base : Option Addr) (n c : Nat), v = .agg #[.bool s, .slice base n c] ∧ CanR lo hi w (.agg #[.bool s, .slice base n c]) z := by
  have h' := h
  obtain ⟨s, base, b, off, X, c, rfl, _⟩ := h
  exact ⟨s, base, nl X, c, rfl, h'⟩
theorem blk_set2 {w : World} {g : Nat} {x y a b : Value} (h : Blk w g #[x, y]) : Blk ((w.setCell ⟨g, 0, none⟩ a).setCell ⟨g, 1, none⟩ b) g #[a, b] := (h.set 0 a).set 1 b
theorem blk_oth2 {w : World} {g k : Nat} {cs : Array Value} {a b : Value} (h : Blk w g cs) (hne : g ≠ k) : Blk ((w.setCell ⟨k, 0, none⟩ a).setCell ⟨k, 1, none⟩ b) g cs := (h.other a hne).other b hne
theorem blk_last {w w' : World} {cs : Array Value} {T : TypeId} (h : Below (w.alloc (.cells cs T)).heap.size (w.alloc (.cells cs T)) w') : Blk w' w.heap.size cs := (blk_new rfl).kept h
theorem blk_prev {w w' : World} {cs : Array Value} {T : TypeId} {o : Obj} (h : Below ((w.alloc (.cells cs T)).alloc o).heap.size ((w.alloc (.cells cs T)).alloc o) w') : Blk w' w.heap.size cs := ((blk_new rfl).alloc _).kept h
theorem blk_last2 {w w' : World} {cs : Array Value} {T : TypeId} {o : Obj} (h : Below ((w.alloc o).alloc (.cells cs T)).heap.size ((w.alloc o).alloc (.cells cs T)) w') : Blk w' (w.heap.size + 1) cs := (blk_new (by simp)).kept h
theorem blk_lastd {w w' : World} {cs : Array Value} {T : TypeId} (h : Below (w.alloc (.cells cs T)).drew.heap.size (w.alloc (.cells cs T)).drew w') : Blk w' w.heap.size cs := blk_last (below_undrew h)
theorem blk_prevd {w w' : World} {cs : Array Value} {T : TypeId} {o : Obj} (h : Below ((w.alloc (.cells cs T)).alloc o).drew.heap.size ((w.alloc (.cells cs T)).alloc o).drew w') : Blk w' w.heap.size cs := blk_prev (below_undrew h)
theorem blk_last2d {w w' : World} {cs : Array Value} {T : TypeId} {o : Obj} (h : Below ((w.alloc o).alloc (.cells cs T)).drew.heap.size ((w.alloc o).alloc (.cells cs T)).drew w') : Blk w' (w.heap.size + 1) cs := blk_last2 (below_undrew h)
/-- The state of Euclid's loop: two variables at P and Q. -/
def CSt (N P Q G : Nat) (w : World) (X Y : Nat) : Prop :=
  ∃ (s1 : Bool) (q1 : Option Addr) (n1 c1 l1 h1 : Nat) (s2 : Bool) (q2 : Option Addr) (n2 c2 l2 h2 : Nat),
    Blk w P #[.bool s1, .slice q1 n1 c1] ∧ CanR l1 h1 w (.agg #[.bool s1, .slice q1 n1 c1]) (sg false X) ∧ Blk w Q #[.bool s2, .slice q2 n2 c2] ∧ CanR l2 h2 w (.agg #[.bool s2, .slice q2 n2 c2]) (sg false Y) ∧
    (P < l1 ∨ h1 ≤ P) ∧ (Q < l1 ∨ h1 ≤ Q) ∧ (P < l2 ∨ h2 ≤ P) ∧ (Q < l2 ∨ h2 ≤ Q) ∧ N + 3 ≤ l1 ∧ N + 3 ≤ l2 ∧ nl X ≤ 90000 ∧ nl Y ≤ 90000 ∧ Nat.gcd X Y = G ∧
    Blk w (N + 1 + 1) #[.bool false, .slice none 0 0] ∧ N + 3 ≤ P ∧ N + 3 ≤ Q ∧ P ≠ Q
theorem cst_mk {N P Q G : Nat} {w : World} {X Y : Nat} {s1 : Bool} {q1 : Option Addr} {n1 c1 l1 e1 : Nat} {s2 : Bool} {q2 : Option Addr} {n2 c2 l2 e2 : Nat}
    (h1 : Blk w P #[.bool s1, .slice q1 n1 c1]) (h2 : CanR l1 e1 w (.agg #[.bool s1, .slice q1 n1 c1]) (sg false X)) (h3 : Blk w Q #[.bool s2, .slice q2 n2 c2]) (h4 : CanR l2 e2 w (.agg #[.bool s2, .slice q2 n2 c2]) (sg false Y))
    (h5 : (P < l1 ∨ e1 ≤ P) ∧ (Q < l1 ∨ e1 ≤ Q) ∧ (P < l2 ∨ e2 ≤ P) ∧ (Q < l2 ∨ e2 ≤ Q) ∧ N + 3 ≤ l1 ∧ N + 3 ≤ l2 ∧ N + 3 ≤ P ∧ N + 3 ≤ Q ∧ P ≠ Q) (h6 : nl X ≤ 90000 ∧ nl Y ≤ 90000 ∧ Nat.gcd X Y = G)
    (h7 : Blk w (N + 1 + 1) #[.bool false, .slice none 0 0]) : CSt N P Q G w X Y := by
  obtain ⟨a1, a2, a3, a4, a5, a6, a7, a8, a9⟩ := h5
  exact ⟨s1, q1, n1, c1, l1, _, s2, q2, n2, c2, l2, _, h1, h2, h3, h4, a1, a2, a3, a4, a5, a6, h6.1, h6.2.1, h6.2.2, h7, a7, a8, a9⟩
end PB

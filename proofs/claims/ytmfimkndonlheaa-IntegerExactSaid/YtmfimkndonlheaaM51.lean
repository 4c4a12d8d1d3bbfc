/-
  What IntegerExact's calls return, for the program and for the verifier (written by wip/genex.py).
-/
import Derived.Test.YtmfimkndonlheaaM18
import Derived.Test.YtmfimkndonlheaaM34
import Derived.Test.YtmfimkndonlheaaM39
import Derived.Test.YtmfimkndonlheaaM45
import Derived.Test.YtmfimkndonlheaaM48
import Derived.Test.YtmfimkndonlheaaM50
namespace PB
open Go Go.RowKit
def qv (a b : Int) : Int := if b = 0 then 0 else a.tdiv b
def rv (a b : Int) : Int := if b = 0 then 0 else a.tmod b
def qe (b : Int) : Int := if b = 0 then 3 else 0
/-- Block g is a variable that holds a canonical Int for z. -/
def CVar (w : World) (g : Nat) (z : Int) : Prop := ∃ (s : Bool) (base : Option Addr) (n c N : Nat), Blk w g #[.bool s, .slice base n c] ∧ IsCan N w (.agg #[.bool s, .slice base n c]) z
theorem CVar.kept {w w' : World} {g : Nat} {z : Int} (h : CVar w g z) (hb : Below w.heap.size w w') : CVar w' g z := by
  obtain ⟨s, base, n, c, N, h1, h2⟩ := h
  exact ⟨s, base, n, c, N, h1.kept hb, h2.kept hb⟩
def CVars (w : World) (L : List (Nat × Int)) : Prop := ∀ q ∈ L, CVar w q.1 q.2
theorem CVars.kept {w w' : World} {L : List (Nat × Int)} (h : CVars w L) (hb : Below w.heap.size w w') : CVars w' L := fun q hq => (h q hq).kept hb
theorem CVars.cons {w : World} {L : List (Nat × Int)} {p : Nat} {z : Int} (h : CVars w L) (hv : CVar w p z) : CVars w ((p, z) :: L) := by
  intro q hq
  rcases List.mem_cons.1 hq with rfl | h2
  · exact hv
  · exact h q h2
theorem cvars_nil (w : World) : CVars w [] := fun q hq => by cases hq
theorem can_form3 {N : Nat} {w : World} {v : Value} {z : Int} (h : IsCan N w v z) : ∃ (s : Bool) (base : Option Addr) (n c : Nat), v = .agg #[.bool s, .slice base n c] ∧ IsCan N w (.agg #[.bool s, .slice base n c]) z := by
  obtain ⟨s, q, c, rfl⟩ := can_agg h
  exact ⟨s, q, _, c, rfl, h⟩
end PB
namespace Go.Proofs.Ytmfimkndonlheaa
open Go.RowKit PB
theorem cvar_out {w : World} {g : Nat} {z : Int} (h : CVar w g z) : ∃ (s : Bool) (base : Option Addr) (n c N : Nat), w.cell? ⟨g, 0, none⟩ = some (.bool s) ∧ w.cell? ⟨g, 1, none⟩ = some (.slice base n c) ∧ IsCan N w (.agg #[.bool s, .slice base n c]) z := by
  obtain ⟨s, base, n, c, N, h1, h2⟩ := h
  exact ⟨s, base, n, c, N, (Blk2 h1).1, (Blk2 h1).2, h2⟩
theorem add_rf {v1 v2 : Value} {z1 z2 : Int} (w : World) (h1 : IsInt w v1 z1) (h2 : IsInt w v2 z2) (k1 : sm 40 z1) (k2 : sm 40 z2) :
    Calls Try.prog 18 #[v1, v2] w (RetIntE w (z1 + z2) 0) := by
  have h := add_ref v1 v2 z1 z2 w h1 h2 (Nat.le_trans (nl_le k1) (by decide)) (Nat.le_trans (nl_le k2) (by decide))
  have hn : ¬ (big z1 ∨ big z2 ∨ big (z1 + z2)) := by
    have a := not_big k1 (by decide)
    have b := not_big k2 (by decide)
    have c := not_big (sm_add k1 k2) (by decide)
    exact fun h => h.elim a fun h => h.elim b c
  rwa [if_neg hn, if_neg hn] at h
theorem sub_rf {v1 v2 : Value} {z1 z2 : Int} (w : World) (h1 : IsInt w v1 z1) (h2 : IsInt w v2 z2) (k1 : sm 40 z1) (k2 : sm 40 z2) :
    Calls Try.prog 19 #[v1, v2] w (RetIntE w (z1 - z2) 0) := by
  have h := sub_ref v1 v2 z1 z2 w h1 h2 (Nat.le_trans (nl_le k1) (by decide)) (Nat.le_trans (nl_le k2) (by decide))
  have hn : ¬ (big z1 ∨ big z2 ∨ big (z1 - z2)) := by
    have a := not_big k1 (by decide)
    have b := not_big k2 (by decide)
    have c := not_big (sm_sub k1 k2) (by decide)
    exact fun h => h.elim a fun h => h.elim b c
  rwa [if_neg hn, if_neg hn] at h
theorem mul_rf {v1 v2 : Value} {z1 z2 : Int} (w : World) (h1 : IsInt w v1 z1) (h2 : IsInt w v2 z2) (k1 : sm 40 z1) (k2 : sm 40 z2) :
    Calls Try.prog 20 #[v1, v2] w (RetIntE w (z1 * z2) 0) := by
  have h := mul_ref v1 v2 z1 z2 w h1 h2
  have hn : ¬ (big z1 ∨ big z2 ∨ big (z1 * z2)) := by
    have a := not_big k1 (by decide)
    have b := not_big k2 (by decide)
    have c := not_big (sm_mul k1 k2) (by decide)
    exact fun h => h.elim a fun h => h.elim b c
  rwa [if_neg hn, if_neg hn] at h
theorem quo_int {v1 v2 : Value} {z1 z2 : Int} (w : World) (h1 : IsInt w v1 z1) (h2 : IsInt w v2 z2) (k1 : sm 40 z1) (k2 : sm 40 z2) :
    Calls Try.prog 15 #[v1, v2] w (RetIntIntE w (qv z1 z2) (rv z1 z2) (qe z2)) := by
  unfold qv rv qe
  by_cases h : z2 = 0
  · rw [if_pos h, if_pos h, if_pos h]
    subst h
    exact quo_zero v1 v2 z1 w h1 h2 (not_big k1 (by decide))
  · rw [if_neg h, if_neg h, if_neg h]
    exact quo_fine v1 v2 z1 z2 w h1 h2 (not_big k1 (by decide)) (not_big k2 (by decide)) h
theorem quo_rf {v1 v2 : Value} {z1 z2 : Int} (w : World) (h1 : IsInt w v1 z1) (h2 : IsInt w v2 z2) (k1 : sm 40 z1) (k2 : sm 40 z2) :
    Calls Try.prog 21 #[v1, v2] w (RetIntIntE w (qv z1 z2) (rv z1 z2) (qe z2)) := by
  unfold qv rv qe
  by_cases h : z2 = 0
  · rw [if_pos h, if_pos h, if_pos h]
    exact quor_zero v1 v2 z1 z2 w h1 h2 (not_big k1 (by decide)) (not_big k2 (by decide)) h
  · rw [if_neg h, if_neg h, if_neg h]
    exact quor_fine v1 v2 z1 z2 w h1 h2 (not_big k1 (by decide)) (not_big k2 (by decide)) h
end Go.Proofs.Ytmfimkndonlheaa

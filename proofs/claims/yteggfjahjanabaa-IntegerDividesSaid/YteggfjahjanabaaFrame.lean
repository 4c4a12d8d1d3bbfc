/-
  An api.Int that came in as an argument: what it stands for.
-/
import Derived.Test.YteggfjahjanabaaRows
import Derived.Test.YteggfjahjanabaaLawA
import Derived.ProofKit
import Derived.OpenShut
import Derived.Lib.SmallJoins
namespace PB
open Go Go.RowKit
/-- Limbs make a number. -/
theorem limbs_num (f : Nat → Nat) (hf : ∀ i, f i < B) : ∀ n, ∃ X, X < B^n ∧ ∀ i, i < n → dg X i = f i
  | 0 => ⟨0, Bp 0, fun i hi => by omega⟩
  | n + 1 => by
    obtain ⟨X, hX, hd⟩ := limbs_num f hf n
    refine ⟨X + f n * B^n, add_lt_pow hX (hf n), fun i hi => ?_⟩
    by_cases h : i = n
    · subst h; exact dg_add_eq hX (hf i)
    · rw [dg_add_lo (by omega)]; exact hd i (by omega)
end PB
namespace Go.Proofs.Yteggfjahjanabaa
open Go.ChangeShapes Go.WideShapes Go.ChangeAt Go.RowKit PB
theorem wf_u32 {n : Int} (h : (Lit.int .u32 n).wf = true) : 0 ≤ n ∧ n < 4294967296 := by
  simp [Lit.wf] at h
  have h1 : IntKind.u32.min = 0 := rfl
  have h2 : IntKind.u32.max = 4294967295 := rfl
  omega

theorem open_arg {H : Type} {enc : TypeId × Value → H} {W : World} {base : Nat} {v : Value} {d : DataW H} {p : List MemPlace}
    (hv : Value.okWide Try.prog W .any base 24 v) (h : DataW.Trod enc Try.prog W 0 (fun _ => true) true 24 v d p) :
    ∃ (s : Bool) (q : Option Addr) (n c : Nat), v = .agg #[.bool s, .slice q n c] ∧ (n ≤ 40 → ∃ z, IsInt W (.agg #[.bool s, .slice q n c]) z) := by
  obtain ⟨v0, v1, y0, y1, k, rfl, _, _, h0, h1⟩ := Go.Joins.open_agg2 Try.underlying24 (by kernel_rfl) (by kernel_rfl) hv h
  obtain ⟨s, hs, _⟩ := DataW.trod_bool Try.underlying4 h0
  obtain rfl : v0 = .bool s := by simpa using hs
  refine ⟨s, ?_⟩
  rcases open_ints Try.underlying22 Try.underlying51 (by kernel_rfl) h1 with ⟨hcs, _⟩ | ⟨x, l, c, zs, hcs, _, hl, hm, hz, _, hcell, hwz⟩
  · obtain rfl : v1 = .slice none 0 0 := by simpa using hcs
    exact ⟨none, 0, 0, rfl, fun _ => ⟨sg s 0, s, none, 0, 0, 0, 0, 0, rfl, fun h => absurd rfl h, ⟨Bp 0, fun i hi => by omega⟩, Nat.le_refl _, by omega, rfl⟩⟩
  · obtain rfl : v1 = .slice (some x) l c := by simpa using hcs
    refine ⟨some x, l, c, rfl, fun hn => ?_⟩
    have hz2 : zs.length = c := by simpa using hz
    obtain ⟨X, hX, hd⟩ := limbs_num (fun i => if i < zs.length then (zs.getD i 0).toNat else 0) (by
      intro i
      by_cases hi : i < zs.length
      · simp only [hi, if_true]
        have := wf_u32 (hwz (zs.getD i 0) (by simp [List.getD, List.getElem?_eq_getElem hi]))
        unfold B; omega
      · simp only [hi, if_false]; decide) l
    obtain ⟨b, off, spot⟩ := x
    refine ⟨sg s X, s, some ⟨b, off, spot⟩, b, off, l, c, X, rfl, fun h => ?_, ⟨hX, fun i hi => ?_⟩, hl, by omega, rfl⟩
    · have hc := hcell 0 (by omega)
      have hspot : spot = none := by simpa [Addr.add] using World.cell?_spot hc
      rw [hspot]
    · have hc0 := hcell 0 (by omega)
      have hspot : spot = none := by simpa [Addr.add] using World.cell?_spot hc0
      subst hspot
      have hc2 : W.cell? ⟨b, off + i, none⟩ = some (.int .u32 (zs.getD i 0)) := by
        have hc := hcell i (by omega)
        by_cases h0 : i = 0
        · subst h0; simpa [Addr.add] using hc
        · simpa [Addr.add, h0] using hc
      rw [hc2, hd i hi, if_pos (by omega)]
      have := wf_u32 (hwz (zs.getD i 0) (by simp [List.getD, List.getElem?_eq_getElem (show i < zs.length by omega)]))
      rw [Int.toNat_of_nonneg this.1]
end Go.Proofs.Yteggfjahjanabaa

/-
  A list of vectors that came in as an argument.
-/
import Derived.Test.YtejodcpigfbnpaaVOpen
import Derived.Test.YtejodcpigfbnpaaVSides
import Derived.Deep.SlicePairs
namespace Go.Proofs.Ytejodcpigfbnpaa
open Go.ChangeShapes Go.WideShapes Go.ChangeAt Go.RowKit PB VB
set_option maxRecDepth 100000 in
theorem open_vecs {H : Type} {enc : TypeId × Value → H} {W : World} {base : Nat} {v : Value} {d : DataW H} {p : List MemPlace}
    (hv : Value.okWide Try.prog W .any base 35 v) (h : DataW.Trod enc Try.prog W 0 (fun _ => true) true 35 v d p) :
    ∃ (q : Option Addr) (b off n c : Nat) (f : Nat → Int × Int), v = .slice q n c ∧ (n ≠ 0 → q = some ⟨b, off, none⟩) ∧ (n ≠ 0 → b < W.heap.size) ∧ VSl W b off n f := by
  obtain ⟨a0, len, cap, rfl⟩ := okWide_slice Try.underlying35 hv
  obtain ⟨fuel, hf⟩ := h
  rcases Go.Deep.open_slice_pairs Try.underlying35 Try.underlying23 (by kernel_rfl) rfl rfl (by kernel_rfl) (by kernel_rfl) hf with ⟨hcs, _⟩ | ⟨a, l, c, m, n, V0, V1, D0, D1, P0, P1, hcs, hb, hl, hcm, hm, _, hx⟩
  · have e : Value.slice a0 len cap = .slice none 0 0 := by simpa [Value.cells] using hcs
    cases e
    exact ⟨none, 0, 0, 0, 0, fun _ => (0, 0), rfl, fun h => absurd rfl h, fun h => absurd rfl h, fun i hi => by omega⟩
  · have e : Value.slice a0 len cap = .slice (some a) l c := by simpa [Value.cells] using hcs
    cases e
    have hlm : len ≤ m := by rw [hm]; simpa using hl
    obtain ⟨b, off, spot⟩ := a
    have hval : ∀ i, i < len → W.cell? ((⟨b, off, spot⟩ : Addr).add (i * 2)) = some (.int .i64 (intOf (V0 i))) ∧ W.cell? ((⟨b, off, spot⟩ : Addr).add (i * 2 + 1)) = some (.int .i64 (intOf (V1 i))) := by
      intro i hi
      obtain ⟨e0, e1, t0, t1⟩ := hx i (by omega)
      obtain ⟨x, h0, _⟩ := DataW.trod_int Try.underlying3 t0
      obtain ⟨y, h1, _⟩ := DataW.trod_int Try.underlying3 t1
      have k0 : V0 i = .int .i64 x := by simpa using h0
      have k1 : V1 i = .int .i64 y := by simpa using h1
      rw [e0, e1, k0, k1]
      exact ⟨rfl, rfl⟩
    have hspot : len ≠ 0 → spot = none := fun h0 => by
      have := (hval 0 (by omega)).1
      simpa [Addr.add] using World.cell?_spot this
    refine ⟨some ⟨b, off, spot⟩, b, off, len, cap, fun i => (intOf (V0 i), intOf (V1 i)), rfl, fun h0 => by rw [hspot h0], fun h0 => ?_, fun i hi => ?_⟩
    · have := World.block_lt_of_cell? W _ (hval 0 (by omega)).1
      simpa [Addr.add] using this
    · obtain rfl := hspot (by omega)
      obtain ⟨e0, e1⟩ := hval i hi
      constructor
      · by_cases h0 : i = 0
        · subst h0; simpa [Addr.add] using e0
        · have h2 : ¬ i * 2 = 0 := by omega
          unfold Addr.add at e0
          rw [if_neg h2] at e0
          exact e0
      · simpa [Addr.add, Nat.add_assoc] using e1
end Go.Proofs.Ytejodcpigfbnpaa

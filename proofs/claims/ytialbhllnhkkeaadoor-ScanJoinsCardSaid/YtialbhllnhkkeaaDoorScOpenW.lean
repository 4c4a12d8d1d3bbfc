/-
  A list of words that came in as an argument.
-/
import Derived.Test.YtialbhllnhkkeaaDoorScZ
import Derived.Deep.SlicePairs
import Derived.ChangeMaps5
import Derived.ProofKit
import Derived.OpenShut
namespace Go.Proofs.YtialbhllnhkkeaaDoor
open Go.ChangeShapes Go.WideShapes Go.ChangeAt Go.RowKit PB SC
theorem wf_i64 {n : Int} (h : (Lit.int .i64 n).wf = true) : -9223372036854775808 ≤ n ∧ n ≤ 9223372036854775807 := by
  simp [Lit.wf] at h
  have h1 : IntKind.i64.min = -9223372036854775808 := rfl
  have h2 : IntKind.i64.max = 9223372036854775807 := rfl
  omega
theorem mk_toList (s : ByteArray) : (⟨s.data.toList.toArray⟩ : ByteArray) = s := by cases s; simp
set_option maxRecDepth 100000 in
theorem open_words {H : Type} {enc : TypeId × Value → H} {W : World} {base : Nat} {v : Value} {d : DataW H} {p : List MemPlace}
    (hv : Value.okWide Tryd.prog W .any base 23 v) (h : DataW.Trod enc Tryd.prog W 0 (fun _ => true) true 23 v d p) :
    ∃ (q : Option Addr) (b off n c : Nat) (l : List (SC.W × Int)), v = .slice q n c ∧ l.length = n ∧ (n ≠ 0 → q = some ⟨b, off, none⟩) ∧ (n ≠ 0 → b < W.heap.size) ∧ ZRow W b off l := by
  obtain ⟨a0, len, cap, rfl⟩ := okWide_slice Tryd.underlying23 hv
  obtain ⟨fuel, hf⟩ := h
  have ce : Tryd.prog.cellsOf 33 = 4 := by kernel_rfl
  rcases Go.Deep.open_slice Tryd.underlying23 hf with ⟨hcs, _⟩ | ⟨a, l, c, m, n, D, Pl, hcs, hb, hl, hm, hmm, _, hx⟩
  · have e : Value.slice a0 len cap = .slice none 0 0 := by simpa [Value.cells] using hcs
    cases e
    exact ⟨none, 0, 0, 0, 0, [], rfl, rfl, fun h => absurd rfl h, fun h => absurd rfl h, fun i x hx => by simp at hx⟩
  · have e : Value.slice a0 len cap = .slice (some a) l c := by simpa [Value.cells] using hcs
    cases e
    have hlm : len ≤ m := by rw [hmm]; simpa using hl
    obtain ⟨b, off, spot⟩ := a
    have each : ∀ i, i < len → ∃ z : SC.W × Int, W.cell? ((⟨b, off, spot⟩ : Addr).add (i * 4)) = some (.int .i64 z.1.kind) ∧ W.cell? ((⟨b, off, spot⟩ : Addr).add (i * 4 + 1)) = some (.string ⟨z.1.text.toArray⟩) ∧ W.cell? ((⟨b, off, spot⟩ : Addr).add (i * 4 + 2)) = some (.int .i64 z.1.num) ∧ W.cell? ((⟨b, off, spot⟩ : Addr).add (i * 4 + 3)) = some (.int .i64 z.2) := by
      intro i hi
      obtain ⟨cs', h1, h2⟩ := hx i (by omega)
      rw [ce] at h1
      obtain ⟨_, hlen, hcell⟩ := World.cells?_some h1
      obtain ⟨xs, k, hk, hxy, _, hxl, hfs⟩ := DataW.trod_struct Tryd.underlying33 h2
      match xs, hxl, cs', hlen with
      | [y0, y1, y2, y3], _, [v0, v1, v2, v3], _ =>
        have g0 := hfs 0 _ rfl
        have g1 := hfs 1 _ rfl
        have g2 := hfs 2 _ rfl
        have g3 := hfs 3 _ rfl
        have c3 : Tryd.prog.cellsOf 3 = 1 := by kernel_rfl
        have c9 : Tryd.prog.cellsOf 9 = 1 := by kernel_rfl
        simp [c3, c9] at g0 g1 g2 g3
        obtain ⟨n0, f0, _⟩ := DataW.trod_int Tryd.underlying3 g0
        obtain ⟨s1, f1, _⟩ := DataW.trod_string Tryd.underlying9 g1
        obtain ⟨n2, f2, _⟩ := DataW.trod_int Tryd.underlying3 g2
        obtain ⟨n3, f3, _⟩ := DataW.trod_int Tryd.underlying3 g3
        have e0 := hcell 0 (by omega)
        have e1 := hcell 1 (by omega)
        have e2 := hcell 2 (by omega)
        have e3 := hcell 3 (by omega)
        rw [Go.Deep.add_add] at e0 e1 e2 e3
        have k0 : v0 = .int .i64 n0 := by simpa using f0
        have k1 : v1 = .string s1 := by simpa using f1
        have k2 : v2 = .int .i64 n2 := by simpa using f2
        have k3 : v3 = .int .i64 n3 := by simpa using f3
        subst k0 k1 k2 k3
        refine ⟨(⟨n0, s1.data.toList, n2, 0⟩, n3), by simpa using e0, ?_, by simpa using e2, by simpa using e3⟩
        show _ = some (Value.string ⟨s1.data.toList.toArray⟩)
        rw [mk_toList]
        simpa using e1
    have : Inhabited (SC.W × Int) := ⟨(⟨0, [], 0, 0⟩, 0)⟩
    obtain ⟨f, hfz⟩ := Go.Deep.choose_lt each
    have hspot : len ≠ 0 → spot = none := fun h0 => by
      have := (hfz 0 (by omega)).1
      simpa [Addr.add] using World.cell?_spot this
    refine ⟨some ⟨b, off, spot⟩, b, off, len, cap, (List.range len).map f, rfl, by simp, fun h0 => by rw [hspot h0], fun h0 => ?_, fun i z hz => ?_⟩
    · have := World.block_lt_of_cell? W _ (hfz 0 (by omega)).1
      simpa [Addr.add] using this
    · have hi : i < len := by have := (List.getElem?_eq_some_iff.1 hz).1; simpa using this
      obtain rfl := hspot (by omega)
      have hz2 : f i = z := by
        rw [List.getElem?_map, List.getElem?_range hi] at hz
        simpa using hz
      obtain ⟨e0, e1, e2, e3⟩ := hfz i hi
      rw [hz2] at e0 e1 e2 e3
      have key : ∀ j, (⟨b, off, none⟩ : Addr).add j = ⟨b, off + j, none⟩ := fun j => by unfold Addr.add; split <;> simp_all
      rw [key] at e0 e1 e2 e3
      exact ⟨e0, by rw [Nat.add_assoc]; exact e1, by rw [Nat.add_assoc]; exact e2, by rw [Nat.add_assoc]; exact e3⟩
end Go.Proofs.YtialbhllnhkkeaaDoor

/-
  The law's few.
  A statement that came in as an argument.
  A list of statements that came in as an argument; its numbers are ints.
  SourceFormats: its walk.
  The table of powers of ten, as it is laid.
-/
import Derived.Deep.SlicePairs
import Derived.ChangeMaps5
import Derived.ProofKit
import Derived.OpenShut
import Derived.Test.YtdikoeeoglfmaaaGreatDoorCards
import Derived.LaidMore
import Derived.Lib.LaidTab
import Derived.Lib.AppendIntMem
import Derived.Test.YtdikoeeoglfmaaaGreatDoorM12
import Derived.Test.YtdikoeeoglfmaaaGreatDoorM20
import Derived.Test.YtdikoeeoglfmaaaGreatDoorM25
import Derived.Test.YtdikoeeoglfmaaaGreatDoorM32
namespace SS
open Go Go.RowKit PB SC
def FewK (k : K) : Prop := k.vals.length ≤ 30 ∧ k.key.size ≤ 100
def FewI (x : I) : Prop := x.keys.length ≤ 30 ∧ x.word.size ≤ 100 ∧ x.name.size ≤ 100 ∧ ∀ (j : Nat) (y : K), x.keys[j]? = some y → FewK y
def FewL (l : List I) : Prop := l.length ≤ 60 ∧ ∀ (j : Nat) (x : I), l[j]? = some x → FewI x
def RetF (l : List I) (w : World) (e : Ending) (w' : World) : Prop := ∃ r, e = .returned (.bool r) ∧ (r = true → FewL l) ∧ Below w.heap.size w w'
end SS
namespace Go.Proofs.YtdikoeeoglfmaaaGreatDoor
open Go.RowKit SC PB SS
set_option maxHeartbeats 8000000 in
set_option maxRecDepth 100000 in
theorem few_any (l : List I) (u : Value) (w : World) (hu : RdI w u l) :
    Calls Tryz.prog 5 #[u] w (RetF l w) := by
  obtain ⟨base, b, off, cp, rfl, h1, h2, h4⟩ := hu
  have HI := Lib.hid (irow_of h2 h4)
  have HB := Lib.hid h1
  have HX := Lib.hid (fun (k : Nat) (hk : k < l.length) => (⟨l[k], List.getElem?_eq_getElem hk⟩ : ∃ x, l[k]? = some x))
  have HLT := Lib.hid (fun (j : Nat) (x : I) (h : l[j]? = some x) => (List.getElem?_eq_some_iff.1 h).1)
  have HFL := Lib.hid (fun (h1 : l.length ≤ 60) (h2 : ∀ (j : Nat) (x : I), j < l.length → l[j]? = some x → FewI x) => (show FewL l from ⟨h1, fun j x h => h2 j x (List.getElem?_eq_some_iff.1 h).1 h⟩))
  have HIN := Lib.hid (fun (i : Nat) (x : I) (hx : l[i]? = some x) (h : ∀ (j : Nat) (y : I), j < i → l[j]? = some y → FewI y) (hf : FewI x) => (show ∀ (j : Nat) (y : I), j < i + 1 → l[j]? = some y → FewI y by
    intro j y hj hy
    by_cases hji : j = i
    · subst hji
      rw [hx] at hy
      obtain rfl : x = y := by simpa using hy
      exact hf
    · exact h j y (by omega) hy))
  clear h1 h2 h4
  generalize hnl : l.length = n at *
  clear hnl
  by_cases hn : n ≤ 60
  · have hn' : ¬ (60 : Int) < n := by omega
    go_enter Tryz.func5, Tryz.ntmps5
    go_wp2_with fail
    go_loopw [3] (fun iv wr => ∃ (i : Nat), i ≤ n ∧ iv = .int .i64 i ∧ Hid (∀ (j : Nat) (x : I), j < i → l[j]? = some x → FewI x) ∧ Hid (Below w.heap.size w wr)) (fun iv _ => n - (intOf iv).toNat)
    case atStart => exact ⟨0, Nat.zero_le _, rfl, Lib.hid (fun j x h => by omega), Lib.hid (Below.refl _ _)⟩
    case round =>
      obtain ⟨i, hi, rfl, hF, hwr⟩ := hrel
      by_cases hin : i < n
      · obtain rfl := HB.out (by omega)
        obtain ⟨x, hx⟩ := HX.out i hin
        obtain ⟨hlt, zb, kb, ko, zc, a1, a2, a3, a4⟩ := HI.out i x hx
        obtain ⟨c0, c1, c2, c3⟩ := a3 _ hwr.out
        have hl : b < wr.heap.size := Nat.lt_of_lt_of_le hlt hwr.out.size
        have hii : (i : Int) < n := by omega
        have HA1 := Lib.hid a1
        have HA2 := Lib.hid a2
        have HA3 := Lib.hid a3
        have HA4 := Lib.hid a4
        have HXK := Lib.hid (fun (k : Nat) (hk : k < x.keys.length) => (⟨x.keys[k], List.getElem?_eq_getElem hk⟩ : ∃ y, x.keys[k]? = some y))
        have HFI := Lib.hid (fun (f1 : x.keys.length ≤ 30) (f2 : x.word.size ≤ 100) (f3 : x.name.size ≤ 100) (f4 : ∀ (j : Nat) (y : K), j < x.keys.length → x.keys[j]? = some y → FewK y) => HIN.out i x hx hF.out ⟨f1, f2, f3, fun j y h => f4 j y (List.getElem?_eq_some_iff.1 h).1 h⟩)
        have HKN := Lib.hid (fun (k : Nat) (y : K) (hy : x.keys[k]? = some y) (h : ∀ (j : Nat) (z : K), j < k → x.keys[j]? = some z → FewK z) (hf : FewK y) => (show ∀ (j : Nat) (z : K), j < k + 1 → x.keys[j]? = some z → FewK z by
          intro j z hj hz
          by_cases hji : j = k
          · subst hji
            rw [hy] at hz
            obtain rfl : y = z := by simpa using hz
            exact hf
          · exact h j z (by omega) hz))
        have HLB := Lib.hid hlt
        clear a1 a2 a3 a4 hx hlt hF
        generalize x.word = sw at *
        generalize x.name = sn at *
        generalize x.pos = xp at *
        generalize hkn2 : x.keys.length = kn at *
        clear hkn2
        by_cases f1 : kn ≤ 30
        · have f1' : ¬ (30 : Int) < kn := by omega
          by_cases f2 : sw.size ≤ 100
          · have f2' : ¬ (100 : Int) < sw.size := by omega
            by_cases f3 : sn.size ≤ 100
            · have f3' : ¬ (100 : Int) < sn.size := by omega
              have HFI2 := Lib.hid (HFI.out f1 f2 f3)
              go_wp2_with fail
              clear c0 c1 c2 c3 hl
              go_loopw [4] (fun kv wq => ∃ (k : Nat), k ≤ kn ∧ kv = .int .i64 k ∧ Hid (∀ (j : Nat) (y : K), j < k → x.keys[j]? = some y → FewK y) ∧ Hid (Below w.heap.size w wq)) (fun kv _ => kn - (intOf kv).toNat)
              case atStart => exact ⟨0, Nat.zero_le _, rfl, Lib.hid (fun j x h => by omega), hwr⟩
              case round =>
                clear hwr
                obtain ⟨k, hk, rfl, hG, hwq⟩ := hrel
                obtain ⟨c0, c1, c2, c3⟩ := HA3.out _ hwq.out
                have hl : b < wr.heap.size := Nat.lt_of_lt_of_le HLB.out hwq.out.size
                by_cases hkm : k < kn
                · obtain rfl := HA1.out (by omega)
                  obtain ⟨y, hy⟩ := HXK.out k hkm
                  obtain ⟨ub, ug, uo, uc, _, _, u4⟩ := HA4.out k y hy
                  obtain ⟨d0, d1, _⟩ := u4 _ hwq.out
                  have hkl : kb < wr.heap.size := Nat.lt_of_lt_of_le (HA2.out (by omega)) hwq.out.size
                  have hki : (k : Int) < kn := by omega
                  have HKN2 := Lib.hid (fun (g1 : y.vals.length ≤ 30) (g2 : y.key.size ≤ 100) => HKN.out k y hy hG.out ⟨g1, g2⟩)
                  clear hy u4 hG
                  generalize y.key = sk at *
                  generalize y.vals.length = vn at *
                  by_cases g1 : vn ≤ 30
                  · have g1' : ¬ (30 : Int) < vn := by omega
                    by_cases g2 : sk.size ≤ 100
                    · have g2' : ¬ (100 : Int) < sk.size := by omega
                      have HK3 := Lib.hid (HKN2.out g1 g2)
                      go_wp2_with fail
                      go_roundw
                      case rel => exact ⟨k + 1, by omega, by go_num, HK3, hwq⟩
                      case measure => simp [intOf]; omega
                    · have g2' : (100 : Int) < sk.size := by omega
                      go_wp2_with fail
                      go_ret
                      exact ⟨false, rfl, fun h => Bool.noConfusion h, hwq.out⟩
                  · have g1' : (30 : Int) < vn := by omega
                    go_wp2_with fail
                    go_ret
                    exact ⟨false, rfl, fun h => Bool.noConfusion h, hwq.out⟩
                · have hke : k = kn := by omega
                  subst hke
                  have hki : ¬ (k : Int) < k := by omega
                  have HF3 := Lib.hid (HFI2.out hG.out)
                  go_wp2_with fail
                  go_roundw
                  case rel => exact ⟨i + 1, by omega, by go_num, HF3, hwq⟩
                  case measure => simp [intOf]; omega
            · have f3' : (100 : Int) < sn.size := by omega
              go_wp2_with fail
              go_ret
              exact ⟨false, rfl, fun h => Bool.noConfusion h, hwr.out⟩
          · have f2' : (100 : Int) < sw.size := by omega
            go_wp2_with fail
            go_ret
            exact ⟨false, rfl, fun h => Bool.noConfusion h, hwr.out⟩
        · have f1' : (30 : Int) < kn := by omega
          go_wp2_with fail
          go_ret
          exact ⟨false, rfl, fun h => Bool.noConfusion h, hwr.out⟩
      · have hie : i = n := by omega
        subst hie
        have hii : ¬ (i : Int) < i := by omega
        go_wp2_with fail
        go_ret
        exact ⟨true, rfl, fun _ => HFL.out hn hF.out, hwr.out⟩
  · have hn' : (60 : Int) < n := by omega
    go_enter Tryz.func5, Tryz.ntmps5
    go_wp2_with fail
    go_ret
    exact ⟨false, rfl, fun h => Bool.noConfusion h, Below.refl _ _⟩
end Go.Proofs.YtdikoeeoglfmaaaGreatDoor

namespace SS
open Go Go.ChangeShapes Go.WideShapes Go.ChangeAt Go.RowKit PB SC
/-- A slice, opened at every index, as a list. -/
theorem rows_open {α : Type} [Inhabited α] {H : Type} {enc : TypeId × Value → H} {P : Program} {W : World} {t e : TypeId} {size fuel : Nat} {cs : List Value} {x : DataW H × List MemPlace} (ht : P.underlying t = some (.slice e)) (ce : P.cellsOf e = size) (hs : 0 < size) (A : Nat → Nat → α → Prop)
    (hel : ∀ fuel (y : DataW H × List MemPlace) (cs' : List Value) (b o : Nat), cs'.length = size → (∀ j, j < size → W.cell? ⟨b, o + j, none⟩ = cs'[j]?) → DataW.trod enc P W 0 (fun _ => true) true fuel e cs' = some y → ∃ x, A b o x)
    (h : DataW.trod enc P W 0 (fun _ => true) true fuel t cs = some x) :
    ∃ (l : List α) (base : Option Addr) (b off c : Nat), cs = [.slice base l.length c] ∧ (l.length ≠ 0 → base = some ⟨b, off, none⟩) ∧ (l.length ≠ 0 → b < W.heap.size) ∧ ∀ j x, l[j]? = some x → A b (off + j * size) x := by
  rcases Go.Deep.open_slice ht h with ⟨rfl, _⟩ | ⟨a, len, c, m, n, D, Pl, rfl, hb, hl, hm, hmm, _, hx⟩
  · exact ⟨[], none, 0, 0, 0, rfl, fun h => absurd rfl h, fun h => absurd rfl h, fun j x hj => by simp at hj⟩
  · have hlm : len ≤ m := by rw [hmm]; simpa using hl
    obtain ⟨b, off, spot⟩ := a
    have first : len ≠ 0 → spot = none ∧ b < W.heap.size := by
      intro h0
      obtain ⟨cs', h1, _⟩ := hx 0 (by omega)
      rw [ce] at h1
      obtain ⟨_, hlen, hcell⟩ := World.cells?_some h1
      have e0 := hcell 0 hs
      rw [Go.Deep.add_add] at e0
      rw [List.getElem?_eq_getElem (by omega)] at e0
      exact ⟨by simpa [Addr.add] using World.cell?_spot e0, by simpa [Addr.add] using World.block_lt_of_cell? W _ e0⟩
    have each : ∀ i, i < len → ∃ x, A b (off + i * size) x := by
      intro i hi
      obtain ⟨rfl, _⟩ := first (by omega)
      obtain ⟨cs', h1, h2⟩ := hx i (by omega)
      rw [ce] at h1
      obtain ⟨_, hlen, hcell⟩ := World.cells?_some h1
      refine hel _ _ cs' b (off + i * size) hlen (fun j hj => ?_) h2
      have e0 := hcell j hj
      rw [Go.Deep.add_add, oaddr, ← Nat.add_assoc] at e0
      exact e0
    obtain ⟨f, hf⟩ := Go.Deep.choose_lt each
    refine ⟨(List.range len).map f, some ⟨b, off, spot⟩, b, off, c, by simp, fun h0 => ?_, fun h0 => ?_, fun i z hz => ?_⟩
    · rw [(first (by simpa using h0)).1]
    · exact (first (by simpa using h0)).2
    · have hi : i < len := by have := (List.getElem?_eq_some_iff.1 hz).1; simpa using this
      have hz2 : f i = z := by
        rw [List.getElem?_map, List.getElem?_range hi] at hz
        simpa using hz
      rw [← hz2]
      exact hf i hi
instance : Inhabited K := ⟨⟨⟨#[]⟩, [], 0⟩⟩
end SS
namespace Go.Proofs.YtdikoeeoglfmaaaGreatDoor
open Go.ChangeShapes Go.WideShapes Go.ChangeAt Go.RowKit PB SC SS
set_option maxRecDepth 100000 in
theorem rdv_open {H : Type} {enc : TypeId × Value → H} {W : World} {fuel : Nat} {cs : List Value} {x : DataW H × List MemPlace} (h : DataW.trod enc Tryz.prog W 0 (fun _ => true) true fuel 33 cs = some x) : ∃ v vals, cs = [v] ∧ RdV W v vals := by
  obtain ⟨l, base, b, off, c, rfl, h1, h2, h3⟩ := rows_open (α := Int) (size := 1) Tryz.underlying33 (by kernel_rfl) (by decide) (fun b o n => W.cell? ⟨b, o, none⟩ = some (.int .i64 n)) (fun fuel y cs' b o hl hc ht => by
    obtain ⟨n, rfl, _⟩ := DataW.trod_int Tryz.underlying3 ht
    exact ⟨n, hc 0 (by decide)⟩) h
  refine ⟨_, l, rfl, base, b, off, c, rfl, h1, h2, fun h0 => ?_, fun j u hu => ?_⟩
  · rw [List.eq_nil_of_length_eq_zero h0]; rfl
  · unfold vcs at hu
    rw [List.getElem?_map] at hu
    cases hj : l[j]? with
    | none => rw [hj] at hu; cases hu
    | some n =>
      rw [hj] at hu
      cases hu
      have := h3 j n hj
      rw [Nat.mul_one] at this
      exact this
set_option maxRecDepth 100000 in
theorem rdk_open {H : Type} {enc : TypeId × Value → H} {W : World} {fuel : Nat} {cs : List Value} {x : DataW H × List MemPlace} (h : DataW.trod enc Tryz.prog W 0 (fun _ => true) true fuel 36 cs = some x) : ∃ v ks, cs = [v] ∧ RdK W v ks := by
  obtain ⟨l, base, b, off, c, rfl, h1, h2, h3⟩ := rows_open (α := K) (size := 3) Tryz.underlying36 (by kernel_rfl) (by decide) (fun b o k => ∃ z, KAt W b o k z) (fun fuel y cs' b o hl hc ht => by
    obtain ⟨xs, k, hk, hxy, _, hxl, hfs⟩ := DataW.trod_struct Tryz.underlying41 ht
    match xs, hxl, cs', hl with
    | [y0, y1, y2], _, [v0, v1, v2], _ =>
      have g0 := hfs 0 _ rfl
      have g1 := hfs 1 _ rfl
      have g2 := hfs 2 _ rfl
      have c3 : Tryz.prog.cellsOf 3 = 1 := by kernel_rfl
      have c9 : Tryz.prog.cellsOf 9 = 1 := by kernel_rfl
      have cs1 : Tryz.prog.cellsOf 33 = 1 := by kernel_rfl
      simp [c3, c9, cs1] at g0 g1 g2
      obtain ⟨s0, f0, _⟩ := DataW.trod_string Tryz.underlying9 g0
      obtain ⟨u1, vals, f1, hr⟩ := rdv_open g1
      obtain ⟨n2, f2, _⟩ := DataW.trod_int Tryz.underlying3 g2
      have e0 := hc 0 (by decide)
      have e1 := hc 1 (by decide)
      have e2 := hc 2 (by decide)
      have k0 : v0 = .string s0 := by simpa using f0
      have k1 : v1 = u1 := by simpa using f1
      have k2 : v2 = .int .i64 n2 := by simpa using f2
      subst k0 k1 k2
      exact ⟨⟨s0, vals, n2⟩, v1, e0, e1, e2, hr⟩) h
  exact ⟨_, l, rfl, base, b, off, c, rfl, h1, h2, h3⟩
set_option maxRecDepth 100000 in
theorem open_item {H : Type} {enc : TypeId × Value → H} {W : World} {base : Nat} {v : Value} {d : DataW H} {p : List MemPlace}
    (hv : Value.okWide Tryz.prog W .any base 38 v) (h : DataW.Trod enc Tryz.prog W 0 (fun _ => true) true 38 v d p) :
    ∃ (x : I) (z : Value), v = iagg x z ∧ RdK W z x.keys := by
  obtain ⟨cs, rfl, hsz⟩ := okWide_struct Tryz.underlying38 hv
  have hC : Tryz.prog.cellsOf 38 = 4 := by kernel_rfl
  rw [hC] at hsz
  obtain ⟨fuel, hf⟩ := h
  have hl : cs.toList.length = 4 := by simpa using hsz
  obtain ⟨xs, k, hk, hxy, _, hxl, hfs⟩ := DataW.trod_struct Tryz.underlying38 hf
  have hcs : (Value.cells (.agg cs)).toList = cs.toList := rfl
  rw [hcs] at hfs
  obtain ⟨l⟩ := cs
  match xs, hxl, l, hl with
  | [y0, y1, y2, y3], _, [v0, v1, v2, v3], _ =>
    have g0 := hfs 0 _ rfl
    have g1 := hfs 1 _ rfl
    have g2 := hfs 2 _ rfl
    have g3 := hfs 3 _ rfl
    have c3 : Tryz.prog.cellsOf 3 = 1 := by kernel_rfl
    have c9 : Tryz.prog.cellsOf 9 = 1 := by kernel_rfl
    have cs1 : Tryz.prog.cellsOf 36 = 1 := by kernel_rfl
    simp [c3, c9, cs1] at g0 g1 g2 g3
    obtain ⟨s0, f0, _⟩ := DataW.trod_string Tryz.underlying9 g0
    obtain ⟨s1, f1, _⟩ := DataW.trod_string Tryz.underlying9 g1
    obtain ⟨u2, ks, f2, hr⟩ := rdk_open g2
    obtain ⟨n3, f3, _⟩ := DataW.trod_int Tryz.underlying3 g3
    have k0 : v0 = .string s0 := by simpa using f0
    have k1 : v1 = .string s1 := by simpa using f1
    have k2 : v2 = u2 := by simpa using f2
    have k3 : v3 = .int .i64 n3 := by simpa using f3
    subst k0 k1 k2 k3
    exact ⟨⟨s0, s1, ks, n3⟩, v2, rfl, hr⟩
end Go.Proofs.YtdikoeeoglfmaaaGreatDoor

namespace SS
open Go Go.RowKit PB SC
def I64 (n : Int) : Prop := -9223372036854775808 ≤ n ∧ n ≤ 9223372036854775807
theorem swf_i64 {n : Int} (h : (Lit.int .i64 n).wf = true) : I64 n := by
  simp [Lit.wf] at h
  have h1 : IntKind.i64.min = -9223372036854775808 := rfl
  have h2 : IntKind.i64.max = 9223372036854775807 := rfl
  unfold I64
  omega
instance : Inhabited I := ⟨⟨⟨#[]⟩, ⟨#[]⟩, [], 0⟩⟩
end SS
namespace Go.Proofs.YtdikoeeoglfmaaaGreatDoor
open Go.ChangeShapes Go.WideShapes Go.ChangeAt Go.RowKit PB SC SS
set_option maxRecDepth 100000 in
theorem rdv_openr {H : Type} {enc : TypeId × Value → H} {W : World} {fuel : Nat} {cs : List Value} {x : DataW H × List MemPlace} (h : DataW.trod enc Tryz.prog W 0 (fun _ => true) true fuel 33 cs = some x) : ∃ v vals, cs = [v] ∧ RdV W v vals ∧ ∀ n ∈ vals, I64 n := by
  obtain ⟨l, base, b, off, c, rfl, h1, h2, h3⟩ := rows_open (α := Int) (size := 1) Tryz.underlying33 (by kernel_rfl) (by decide) (fun b o n => W.cell? ⟨b, o, none⟩ = some (.int .i64 n) ∧ I64 n) (fun fuel y cs' b o hl hc ht => by
    obtain ⟨n, rfl, _, hw⟩ := DataW.trod_int Tryz.underlying3 ht
    exact ⟨n, hc 0 (by decide), swf_i64 hw⟩) h
  refine ⟨_, l, rfl, ⟨base, b, off, c, rfl, h1, h2, fun h0 => ?_, fun j u hu => ?_⟩, fun n hn => ?_⟩
  · rw [List.eq_nil_of_length_eq_zero h0]; rfl
  · unfold vcs at hu
    rw [List.getElem?_map] at hu
    cases hj : l[j]? with
    | none => rw [hj] at hu; cases hu
    | some n =>
      rw [hj] at hu
      cases hu
      have := (h3 j n hj).1
      rw [Nat.mul_one] at this
      exact this
  · obtain ⟨j, hj⟩ := List.getElem?_of_mem hn
    exact (h3 j n hj).2
set_option maxRecDepth 100000 in
theorem rdk_openr {H : Type} {enc : TypeId × Value → H} {W : World} {fuel : Nat} {cs : List Value} {x : DataW H × List MemPlace} (h : DataW.trod enc Tryz.prog W 0 (fun _ => true) true fuel 36 cs = some x) : ∃ v ks, cs = [v] ∧ RdK W v ks ∧ ∀ k ∈ ks, ∀ n ∈ k.vals, I64 n := by
  obtain ⟨l, base, b, off, c, rfl, h1, h2, h3⟩ := rows_open (α := K) (size := 3) Tryz.underlying36 (by kernel_rfl) (by decide) (fun b o k => (∃ z, KAt W b o k z) ∧ ∀ n ∈ k.vals, I64 n) (fun fuel y cs' b o hl hc ht => by
    obtain ⟨xs, k, hk, hxy, _, hxl, hfs⟩ := DataW.trod_struct Tryz.underlying41 ht
    match xs, hxl, cs', hl with
    | [y0, y1, y2], _, [v0, v1, v2], _ =>
      have g0 := hfs 0 _ rfl
      have g1 := hfs 1 _ rfl
      have g2 := hfs 2 _ rfl
      have c3 : Tryz.prog.cellsOf 3 = 1 := by kernel_rfl
      have c9 : Tryz.prog.cellsOf 9 = 1 := by kernel_rfl
      have cs1 : Tryz.prog.cellsOf 33 = 1 := by kernel_rfl
      simp [c3, c9, cs1] at g0 g1 g2
      obtain ⟨s0, f0, _⟩ := DataW.trod_string Tryz.underlying9 g0
      obtain ⟨u1, vals, f1, hr, hw⟩ := rdv_openr g1
      obtain ⟨n2, f2, _⟩ := DataW.trod_int Tryz.underlying3 g2
      have e0 := hc 0 (by decide)
      have e1 := hc 1 (by decide)
      have e2 := hc 2 (by decide)
      have k0 : v0 = .string s0 := by simpa using f0
      have k1 : v1 = u1 := by simpa using f1
      have k2 : v2 = .int .i64 n2 := by simpa using f2
      subst k0 k1 k2
      exact ⟨⟨s0, vals, n2⟩, ⟨v1, e0, e1, e2, hr⟩, hw⟩) h
  exact ⟨_, l, rfl, ⟨base, b, off, c, rfl, h1, h2, fun j k hk => (h3 j k hk).1⟩, fun k hk => by
    obtain ⟨j, hj⟩ := List.getElem?_of_mem hk
    exact (h3 j k hj).2⟩
set_option maxRecDepth 100000 in
theorem open_items {H : Type} {enc : TypeId × Value → H} {W : World} {base : Nat} {v : Value} {d : DataW H} {p : List MemPlace}
    (hv : Value.okWide Tryz.prog W .any base 22 v) (h : DataW.Trod enc Tryz.prog W 0 (fun _ => true) true 22 v d p) :
    ∃ (l : List I), RdI W v l ∧ ∀ x ∈ l, ∀ k ∈ x.keys, ∀ n ∈ k.vals, I64 n := by
  obtain ⟨a0, len, cap, rfl⟩ := okWide_slice Tryz.underlying22 hv
  obtain ⟨fuel, hf⟩ := h
  obtain ⟨l, bs0, b, off, c, hcs, h1, h2, h3⟩ := rows_open (α := I) (size := 4) Tryz.underlying22 (by kernel_rfl) (by decide) (fun b o x => (∃ z, IAt W b o x z) ∧ ∀ k ∈ x.keys, ∀ n ∈ k.vals, I64 n) (fun fuel y cs' b o hl hc ht => by
    obtain ⟨xs, k, hk, hxy, _, hxl, hfs⟩ := DataW.trod_struct Tryz.underlying38 ht
    match xs, hxl, cs', hl with
    | [y0, y1, y2, y3], _, [v0, v1, v2, v3], _ =>
      have g0 := hfs 0 _ rfl
      have g1 := hfs 1 _ rfl
      have g2 := hfs 2 _ rfl
      have g3 := hfs 3 _ rfl
      have c3 : Tryz.prog.cellsOf 3 = 1 := by kernel_rfl
      have c9 : Tryz.prog.cellsOf 9 = 1 := by kernel_rfl
      have cs1 : Tryz.prog.cellsOf 36 = 1 := by kernel_rfl
      simp [c3, c9, cs1] at g0 g1 g2 g3
      obtain ⟨s0, f0, _⟩ := DataW.trod_string Tryz.underlying9 g0
      obtain ⟨s1, f1, _⟩ := DataW.trod_string Tryz.underlying9 g1
      obtain ⟨u2, ks, f2, hr, hw⟩ := rdk_openr g2
      obtain ⟨n3, f3, _⟩ := DataW.trod_int Tryz.underlying3 g3
      have e0 := hc 0 (by decide)
      have e1 := hc 1 (by decide)
      have e2 := hc 2 (by decide)
      have e3 := hc 3 (by decide)
      have k0 : v0 = .string s0 := by simpa using f0
      have k1 : v1 = .string s1 := by simpa using f1
      have k2 : v2 = u2 := by simpa using f2
      have k3 : v3 = .int .i64 n3 := by simpa using f3
      subst k0 k1 k2 k3
      exact ⟨⟨s0, s1, ks, n3⟩, ⟨v2, e0, e1, e2, e3, hr⟩, hw⟩) hf
  have e : Value.slice a0 len cap = .slice bs0 l.length c := by simpa [Value.cells] using hcs
  rw [e]
  exact ⟨l, ⟨bs0, b, off, c, rfl, h1, h2, fun j k hk => (h3 j k hk).1⟩, fun k hk => by
    obtain ⟨j, hj⟩ := List.getElem?_of_mem hk
    exact (h3 j k hj).2⟩
end Go.Proofs.YtdikoeeoglfmaaaGreatDoor

namespace SS
open Go Go.RowKit PB SC
theorem ok_few {l : List I} (h : FewL l) (hv : ∀ x ∈ l, ∀ k ∈ x.keys, ∀ n ∈ k.vals, I64 n) : ∀ x ∈ l, OkI x := fun x hx => by
  obtain ⟨j, hj⟩ := List.getElem?_of_mem hx
  obtain ⟨h1, h2, h3, h4⟩ := h.2 j x hj
  refine ⟨by omega, by omega, by omega, fun k hk => ?_⟩
  obtain ⟨i, hi⟩ := List.getElem?_of_mem hk
  obtain ⟨k1, k2⟩ := h4 i k hi
  exact ⟨by omega, by omega, hv x hx k hk⟩
end SS
namespace Go.Proofs.YtdikoeeoglfmaaaGreatDoor
open Go.RowKit SC PB SS
set_option maxHeartbeats 8000000 in
set_option maxRecDepth 100000 in
theorem formats_any (l : List I) (v : Value) (w : World) (hr : RdI w v l) (hv : ∀ x ∈ l, ∀ k ∈ x.keys, ∀ n ∈ k.vals, I64 n) (htab : Lib.TabBelow Tryz.prog w.heap.size w "internal/strconv.uint64pow10" .u64 Lib.pow10Tab) :
    Calls Tryz.prog 3 #[v] w fun e w' => e = .returned (.bool true) ∧ Below w.heap.size w w' := by
  have HA := Lib.hid (fun W (hb : Below w.heap.size w W) => awake_any W (tab_mono htab hb hb.size))
  have HR := Lib.hid hr
  have HFW := Lib.hid (fun W (h : RdI W v l) => few_any l v W h)
  have HF := Lib.hid (fun W (h : RdI W v l) (hb : Below w.heap.size w W) (hf : FewL l) => format_any l v W h (ok_few hf hv) (by have := hf.1; omega) (tab_mono htab hb hb.size))
  have HI := Lib.hid (fun W (h : RdI W v l) (hf : FewL l) => items_any l v W h (by have := hf.1; omega) (fun x hx => (ok_few hf hv x hx).same))
  have HG := Lib.hid (fun u W (h : RdI W u l) (hf : FewL l) => rformat_any l u W h (ok_few hf hv) (by have := hf.1; omega))
  rw [wrC_eq] at HG
  obtain ⟨vb, vc, rfl⟩ := rdi_shape hr
  generalize fmtC l = R at *
  generalize strO R = S at *
  generalize R.isSome = ok at *
  have hSS := beq_str_dec S S
  rw [decide_eq_true rfl] at hSS
  have hoo : (ok == ok) = true := by cases ok <;> rfl
  clear htab hr hv
  go_enter Tryz.func3, Tryz.ntmps3
  go_wp2_with fail
  refine (HA.out _ (Below.refl _ _)).mono ?_
  rintro e w1 ⟨rfl, q1⟩
  have HR1 := Lib.hid (HR.out.kept q1)
  go_wp2_with fail
  refine (HFW.out _ HR1.out).mono ?_
  rintro e w2 ⟨r, rfl, hf, q2⟩
  have HR2 := Lib.hid (HR1.out.kept q2)
  have q12 := next q1 q2
  cases r with
  | false =>
    clear hf
    go_wp2_with fail
    refine (HA.out _ q12).mono ?_
    rintro e w3 ⟨rfl, q3⟩
    go_wp2_with fail
    go_ret
    exact ⟨rfl, next q12 q3⟩
  | true =>
    have HFL := Lib.hid (hf rfl)
    clear hf
    go_wp2_with fail
    refine (HF.out _ HR2.out q12 HFL.out).mono ?_
    rintro e w3 ⟨rfl, q3⟩
    have HR3 := Lib.hid (HR2.out.kept q3)
    have q13 := next q12 q3
    go_wp2_with fail
    refine (HI.out _ HR3.out HFL.out).mono ?_
    rintro e w4 ⟨v4, rfl, r4, q4⟩
    have q14 := next q13 q4
    have HR4 := Lib.hid r4
    obtain ⟨b4, c4, rfl⟩ := rdi_shape r4
    clear r4
    go_wp2_with fail
    refine (HG.out _ _ HR4.out HFL.out).mono ?_
    rintro e w5 ⟨rfl, q5⟩
    go_wp2_with fail
    go_ret
    exact ⟨rfl, next q14 q5⟩
end Go.Proofs.YtdikoeeoglfmaaaGreatDoor

namespace Go.Proofs.YtdikoeeoglfmaaaGreatDoor
open Go.RowKit SC PB SS
theorem tab_third {P : Program} {W : World} {name : String} {k : IntKind} {zs : List Int} {x y : String × DataW Unit} {rest : List (String × DataW Unit)} {g : Nat} {t e : TypeId} {n : Nat}
    (hg : P.globalNamed name = some g) (hty : (P.globals[g]?).map (·.type) = some t) (ht : P.underlying t = some (.array n e)) (he : P.underlying e = some (.int k)) (hce : P.cellsOf e = 1) (hct : P.cellsOf t = n)
    (h : laidMet P (x :: y :: (name, Lib.tabData k zs) :: rest) W) : Lib.TabIs P W name k zs := by
  obtain ⟨ps, ⟨_, _, _, _, _, q1, _, _, _, _, ⟨_, _, _, _, _, q2, _, _, _, _, ⟨g', t', cs, fuel, p, q, hg', ht', hvar, hd, _, _⟩, _⟩, _⟩, _⟩ := h
  obtain rfl := Option.some.inj (hg.symm.trans hg')
  obtain rfl := Option.some.inj (hty.symm.trans ht')
  unfold Lib.TabIs
  rw [hvar, ← Lib.cells_of_tab ht he hce hct hd]
set_option maxRecDepth 100000 in
theorem tab_laid (W : World) (h : laidMetH Tryz.prog Rows.sourceFormatsRow.laid W) : Lib.TabBelow Tryz.prog W.heap.size W "internal/strconv.uint64pow10" .u64 Lib.pow10Tab := by
  rw [MakeChecks.laidMetH_plain _ _ _ (by kernel_rfl)] at h
  have e : (Rows.laid_internal_strconv_uint64pow10 : DataW Unit) = Lib.tabData .u64 Lib.pow10Tab := by kernel_rfl
  unfold Rows.sourceFormatsRow at h
  dsimp only at h
  rw [e] at h
  refine Lib.tabBelow_of_tabIs (tab_third (g := (Tryz.prog.globalNamed "internal/strconv.uint64pow10").getD 0) (t := 143) (e := 112) (n := 20) (by kernel_rfl) (by kernel_rfl) (by kernel_rfl) (by kernel_rfl) (by kernel_rfl) (by kernel_rfl) h)
end Go.Proofs.YtdikoeeoglfmaaaGreatDoor

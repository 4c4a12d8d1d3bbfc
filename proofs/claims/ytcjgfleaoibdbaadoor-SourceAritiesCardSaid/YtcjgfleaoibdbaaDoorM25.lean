/-
  SourceArities: its walk.
  The table of powers of ten, as it is laid.
  A statement that came in as an argument.
-/
import Derived.Test.YtcjgfleaoibdbaaDoorCards
import Derived.LaidMore
import Derived.Lib.LaidTab
import Derived.Lib.AppendIntMem
import Derived.Deep.SlicePairs
import Derived.ChangeMaps5
import Derived.ProofKit
import Derived.OpenShut
import Derived.Test.YtcjgfleaoibdbaaDoorM12
import Derived.Test.YtcjgfleaoibdbaaDoorM19
import Derived.Test.YtcjgfleaoibdbaaDoorM22
import Derived.Test.YtcjgfleaoibdbaaDoorM23
import Derived.Test.YtcjgfleaoibdbaaDoorM24
namespace SS
open Go Go.RowKit PB SC
theorem rdi_one {w : World} {g : Nat} {x : I} {z : Value} (hb : Blk w g #[.string x.word, .string x.name, z, .int .i64 x.pos]) (hz : RdK w z x.keys) : RdI w (.slice (some ⟨g, 0, none⟩) 1 1) [x] := by
  obtain ⟨c0, c1, c2, c3⟩ := Blk4 hb
  refine ⟨_, g, 0, 1, rfl, fun _ => rfl, fun _ => hb.lt, fun j y hy => ?_⟩
  cases j with
  | zero =>
    obtain rfl : x = y := by simpa using hy
    exact ⟨z, c0, c1, c2, c3, hz⟩
  | succ j => simp at hy
theorem few_one {x : I} (h : FewL [x]) : x.keys.length ≤ 1000000 ∧ ∀ k ∈ x.keys, k.vals.length ≤ 1000000 := by
  obtain ⟨f1, _, _, f4⟩ := h.2 0 x rfl
  refine ⟨by omega, fun k hk => ?_⟩
  obtain ⟨i, hi⟩ := List.getElem?_of_mem hk
  have := (f4 i k hi).1
  omega
theorem few_all {x : I} (h : FewL [x]) : ∀ y ∈ [x], y.keys.length ≤ 1000000 ∧ ∀ k ∈ y.keys, k.vals.length ≤ 1000000 := by
  intro y hy
  have e : y = x := by simpa using hy
  rw [e]
  exact few_one h
theorem rdi_at0 {w : World} {v : Value} {x : I} (h : RdI w v [x]) : ∃ g o c z, v = .slice (some ⟨g, o, none⟩) 1 c ∧ g < w.heap.size ∧ IAt w g o x z := by
  obtain ⟨b, g, o, c, rfl, h1, h2, h4⟩ := h
  obtain rfl := h1 (by simp)
  obtain ⟨z, hz⟩ := h4 0 x rfl
  rw [Nat.zero_mul, Nat.add_zero] at hz
  exact ⟨g, o, c, z, rfl, h2 (by simp), hz⟩
theorem oV_few {x : I} {key : ByteArray} (h : ∀ k ∈ x.keys, k.vals.length ≤ 1000000) : (oV (getV key x.keys)).length ≤ 1000000 := by
  rcases fidx_spec key x.keys 0 with ⟨j, k, _, h2, h3, _⟩ | ⟨_, h2, _⟩
  · rw [h3]; exact h k (List.mem_of_getElem? h2)
  · rw [h2]; exact Nat.zero_le _
end SS
namespace Go.Proofs.YtcjgfleaoibdbaaDoor
open Go.RowKit SC PB SS
set_option maxHeartbeats 8000000 in
set_option maxRecDepth 100000 in
theorem arities_any (word key : ByteArray) (x : I) (z : Value) (w : World) (hr : RdK w z x.keys) (htab : Lib.TabBelow Tryd.prog w.heap.size w "internal/strconv.uint64pow10" .u64 Lib.pow10Tab) :
    Calls Tryd.prog 4 #[.string word, .string key, iagg x z] w fun e w' => e = .returned (.bool true) ∧ Below w.heap.size w w' := by
  have HA := Lib.hid (fun W (hb : Below w.heap.size w W) => awake_any W (tab_mono htab hb hb.size))
  have HF := Lib.hid (fun v W (h : RdI W v [x]) => few_any [x] v W h)
  have HG := Lib.hid (fun W (hb : Below w.heap.size w W) (f : FewL [x]) => get_any x z key W (hr.kept hb) (few_one f).1 (few_one f).2)
  have HI := Lib.hid (fun v W (h : RdI W v [x]) (f : FewL [x]) => items_any [x] v W h (by simp) (few_all f))
  have HRG := Lib.hid (fun z' W (h : RdK W z' x.keys) (f : FewL [x]) => rget_any x z' key W h (few_one f).1 (few_one f).2)
  have HAr := Lib.hid (fun W => arity_any word key W)
  have HRA := Lib.hid (fun W => rarity_any word key W)
  have HZ := Lib.hid (fun W (hb : Below w.heap.size w W) => hr.kept hb)
  have HVF := Lib.hid (fun (f : FewL [x]) => oV_few (key := key) (few_one f).2)
  obtain ⟨zb, zn, zc, rfl⟩ := rdk_form hr
  clear htab hr
  have BX : BT (w.alloc (.cells #[.string x.word, .string x.name, .slice zb zn zc, .int .i64 x.pos] 35)) w.heap.size 35 #[.string x.word, .string x.name, .slice zb zn zc, .int .i64 x.pos] := bt_new rfl
  have HB0 := Lib.hid (sb_alloc (Below.refl w.heap.size w) (.cells #[.string x.word, .string x.name, .slice zb zn zc, .int .i64 x.pos] 35))
  have HBX := Lib.hid BX
  clear BX
  unfold iagg at HG HRG ⊢
  go_enter Tryd.func4, Tryd.ntmps4
  go_wp2_with fail
  refine (HA.out _ HB0.out).mono ?_
  rintro e w1 ⟨rfl, q1⟩
  have Q1 := Lib.hid (next HB0.out q1)
  have B1 := Lib.hid (HBX.out.kept q1)
  obtain ⟨c0, c1, c2, c3⟩ := Blk4 B1.out.blk
  have hlt1 := B1.out.blk.lt
  have R1 := Lib.hid (rdi_one (w := w1.alloc (.cells #[.string x.word, .string x.name, .slice zb zn zc, .int .i64 x.pos] 35)) (bt_new rfl).blk (HZ.out _ (sb_alloc Q1.out _)))
  go_wp2_with fail
  refine (HF.out _ _ R1.out).mono ?_
  rintro e w2 ⟨r, rfl, hf, q2⟩
  have Q2 := Lib.hid (next (sb_alloc Q1.out _) q2)
  cases r with
  | false =>
    clear hf
    go_wp2_with fail
    refine (HA.out _ Q2.out).mono ?_
    rintro e w3 ⟨rfl, q3⟩
    go_wp2_with fail
    go_ret
    exact ⟨rfl, next Q2.out q3⟩
  | true =>
    have hfew := hf rfl
    have HF1 := Lib.hid hfew
    have B2 := Lib.hid ((B1.out.kept (sb_alloc (Below.refl _ _) _)).kept q2)
    clear hf hfew c0 c1 c2 c3 hlt1
    obtain ⟨c0, c1, c2, c3⟩ := Blk4 B2.out.blk
    have hlt2 := B2.out.blk.lt
    go_wp2_with fail
    refine (HG.out _ Q2.out HF1.out).mono ?_
    rintro e w3 ⟨v3, rfl, r3, q3⟩
    obtain ⟨b3, g3, o3, cp3, rfl, n1, n2, n4⟩ := r3.form
    have R3 := Lib.hid r3
    have Q3 := Lib.hid (next Q2.out q3)
    have B3 := Lib.hid (B2.out.kept q3)
    clear c0 c1 c2 c3 hlt2 r3 n1 n2 n4
    obtain ⟨c0, c1, c2, c3⟩ := Blk4 B3.out.blk
    have hlt3 := B3.out.blk.lt
    have R4 := Lib.hid (rdi_one (w := w3.alloc (.cells #[.string x.word, .string x.name, .slice zb zn zc, .int .i64 x.pos] 35)) (bt_new rfl).blk (HZ.out _ (sb_alloc Q3.out _)))
    go_wp2_with fail
    refine (HI.out _ _ R4.out HF1.out).mono ?_
    rintro e w4 ⟨v4, rfl, r4, q4⟩
    obtain ⟨g4, o4, cp4, z4, rfl, hlt4, y0, y1, y2, y3, yk⟩ := rdi_at0 r4
    obtain ⟨zb4, zn4, zc4, rfl⟩ := rdk_form yk
    have RG := Lib.hid (HRG.out _ _ yk HF1.out)
    have Q4 := Lib.hid (next (sb_alloc Q3.out _) q4)
    have R34 := Lib.hid (R3.out.kept (next (sb_alloc (Below.refl _ _) _) q4))
    clear c0 c1 c2 c3 hlt3 yk r4
    go_wp2_with fail
    refine RG.out.mono ?_
    rintro e w5 ⟨v5, rfl, r5, q5⟩
    obtain ⟨b5, g5, o5, cp5, rfl, _, _, _⟩ := r5.form
    have Q5 := Lib.hid (next Q4.out q5)
    have R35 := Lib.hid (R34.out.kept q5)
    have R5 := Lib.hid r5
    clear r5 y0 y1 y2 y3
    go_wp2_with fail
    refine (HAr.out _).mono ?_
    rintro e w6 ⟨rfl, q6⟩
    have Q6 := Lib.hid (next Q5.out q6)
    have R36 := Lib.hid (R35.out.kept q6)
    have R56 := Lib.hid (R5.out.kept q6)
    go_wp2_with fail
    refine (HRA.out _).mono ?_
    rintro e w7 ⟨rfl, q7⟩
    have Q7 := Lib.hid (next Q6.out q7)
    have R37 := Lib.hid (R36.out.kept q7)
    have R57 := Lib.hid (R56.out.kept q7)
    have HX := Lib.hid (fun (k : Nat) (hk : k < (oV (getV key x.keys)).length) => (⟨_, List.getElem?_eq_getElem hk⟩ : ∃ n, (oV (getV key x.keys))[k]? = some n))
    have HVL := HVF.out HF1.out
    clear R3 R34 R35 R36 R5 R56 Q1 Q2 Q3 Q4 Q5 Q6 q1 q2 q3 q4 q5 q6 q7 RG HF HG HI HRG HAr HRA HVF HZ
    generalize oV (getV key x.keys) = vals at *
    generalize (getV key x.keys).isSome = sm at *
    generalize arity word key = ar at *
    have har : (ar != ar) = false := by simp [bne]
    have hsm : (sm != sm) = false := by simp [bne]
    obtain ⟨b7, g7, o7, cp7, e7, m1, m2, m4⟩ := R37.out.form
    obtain ⟨b8, g8, o8, cp8, e8, k1, k2, k4⟩ := R57.out.form
    injection e7 with e71 e72 e73
    injection e8 with e81 e82 e83
    subst e71 e73 e81 e83
    have HM1 := Lib.hid m1
    have HM2 := Lib.hid m2
    have HM4 := Lib.hid (fun W (h : Below w7.heap.size w7 W) (j : Nat) (n : Int) (hn : vals[j]? = some n) => (show W.cell? ⟨g7, o7 + j, none⟩ = some (.int .i64 n) by rw [h.cell (p := ⟨g7, _, none⟩) (m2 (by have := (List.getElem?_eq_some_iff.1 hn).1; omega))]; exact m4 j n hn))
    have HK1 := Lib.hid k1
    have HK2 := Lib.hid k2
    have HK4 := Lib.hid (fun W (h : Below w7.heap.size w7 W) (j : Nat) (n : Int) (hn : vals[j]? = some n) => (show W.cell? ⟨g8, o8 + j, none⟩ = some (.int .i64 n) by rw [h.cell (p := ⟨g8, _, none⟩) (k2 (by have := (List.getElem?_eq_some_iff.1 hn).1; omega))]; exact k4 j n hn))
    clear m1 m2 m4 k1 k2 k4 e72 e82 R37 R57
    generalize vals.length = n at *
    have hnn : ((n : Int) != n) = false := by simp [bne]
    go_wp2_with fail
    go_loopw [11] (fun iv wr => ∃ i : Nat, i ≤ n ∧ iv = .int .i64 i ∧ Hid (Below w7.heap.size w7 wr)) (fun iv _ => n - (intOf iv).toNat)
    case atStart => exact ⟨0, Nat.zero_le _, rfl, Lib.hid (Below.refl _ _)⟩
    case round =>
      obtain ⟨i, hi, rfl, hwr⟩ := hrel
      by_cases hin : i < n
      · obtain rfl := HM1.out (by omega)
        obtain rfl := HK1.out (by omega)
        obtain ⟨m, hm⟩ := HX.out i hin
        have c0 := HM4.out _ hwr.out i m hm
        have c1 := HK4.out _ hwr.out i m hm
        have hl1 : g7 < wr.heap.size := Nat.lt_of_lt_of_le (HM2.out (by omega)) hwr.out.size
        have hl2 : g8 < wr.heap.size := Nat.lt_of_lt_of_le (HK2.out (by omega)) hwr.out.size
        have hmm : (m != m) = false := by simp [bne]
        have hii : (i : Int) < n := by omega
        clear hm
        go_wp2_with fail
        go_quiet (fail)
        go_wp2_with fail
        go_roundw
        case rel => exact ⟨i + 1, by omega, by go_num, Lib.hid (PB.below_drewN hwr.out _)⟩
        case measure => simp [intOf]; omega
      · have hie : i = n := by omega
        subst hie
        have hii : ¬ (i : Int) < i := by omega
        go_wp2_with fail
        go_ret
        exact ⟨rfl, next Q7.out hwr.out⟩
end Go.Proofs.YtcjgfleaoibdbaaDoor

namespace Go.Proofs.YtcjgfleaoibdbaaDoor
open Go.RowKit SC PB SS
theorem tab_third {P : Program} {W : World} {name : String} {k : IntKind} {zs : List Int} {x y : String × DataW Unit} {rest : List (String × DataW Unit)} {g : Nat} {t e : TypeId} {n : Nat}
    (hg : P.globalNamed name = some g) (hty : (P.globals[g]?).map (·.type) = some t) (ht : P.underlying t = some (.array n e)) (he : P.underlying e = some (.int k)) (hce : P.cellsOf e = 1) (hct : P.cellsOf t = n)
    (h : laidMet P (x :: y :: (name, Lib.tabData k zs) :: rest) W) : Lib.TabIs P W name k zs := by
  obtain ⟨ps, ⟨_, _, _, _, _, q1, _, _, _, _, ⟨_, _, _, _, _, q2, _, _, _, _, ⟨g', t', cs, fuel, p, q, hg', ht', hvar, hd, _, _⟩, _⟩, _⟩, _⟩ := h
  obtain rfl := Option.some.inj (hg.symm.trans hg')
  obtain rfl := Option.some.inj (hty.symm.trans ht')
  unfold Lib.TabIs
  rw [hvar, ← Lib.cells_of_tab ht he hce hct hd]
set_option maxRecDepth 100000 in
theorem tab_laid (W : World) (h : laidMetH Tryd.prog Rows.sourceManyRow.laid W) : Lib.TabBelow Tryd.prog W.heap.size W "internal/strconv.uint64pow10" .u64 Lib.pow10Tab := by
  rw [MakeChecks.laidMetH_plain _ _ _ (by kernel_rfl)] at h
  have e : (Rows.laid_internal_strconv_uint64pow10 : DataW Unit) = Lib.tabData .u64 Lib.pow10Tab := by kernel_rfl
  unfold Rows.sourceManyRow at h
  dsimp only at h
  rw [e] at h
  refine Lib.tabBelow_of_tabIs (tab_third (g := (Tryd.prog.globalNamed "internal/strconv.uint64pow10").getD 0) (t := 132) (e := 111) (n := 20) (by kernel_rfl) (by kernel_rfl) (by kernel_rfl) (by kernel_rfl) (by kernel_rfl) (by kernel_rfl) h)
end Go.Proofs.YtcjgfleaoibdbaaDoor

namespace SS
open Go Go.ChangeShapes Go.WideShapes Go.ChangeAt Go.RowKit PB SC
/-- A slice, opened at every index, as a list. -/
theorem rows_open {α : Type} [Inhabited α] {H : Type} {enc : TypeId × Value → H} {P : Program} {W : World} {t e : TypeId} {size fuel : Nat} {cs : List Value} {x : DataW H × List MemPlace} (ht : P.underlying t = some (.slice e)) (ce : P.cellsOf e = size) (hs : 0 < size) (A : Nat → Nat → α → Prop)
    (hel : ∀ fuel (y : DataW H × List MemPlace) (cs' : List Value) (b o : Nat), cs'.length = size → (∀ j, j < size → W.cell? ⟨b, o + j, none⟩ = cs'[j]?) → DataW.trod enc P W 0 (fun _ => true) true fuel e cs' = some y → ∃ x, A b o x)
    (h : DataW.trod enc P W 0 (fun _ => true) true fuel t cs = some x) :
    ∃ (l : List α) (base : Option Addr) (b off c : Nat), cs = [.slice base l.length c] ∧ (l.length ≠ 0 → base = some ⟨b, off, none⟩) ∧ (l.length ≠ 0 → b < W.heap.size) ∧ ∀ j x, l[j]? = some x → A b (off + j * size) x := by
  rcases Go.Deep.open_slice ht h with ⟨rfl, _⟩ | ⟨a, len, c, m, n, D, Pl, rfl, hb, hl, hm, hmm, _, hx⟩
  · exact ⟨[], none, 0, 0, 0, rfl, fun h => absurd rfl h, fun h => absurd rfl h, fun j x hj => by simp at hj⟩
  · have hlm : len ≤ m := by rw [hmm]; simpa using hl
    obtain ⟨b, off, spot⟩ := a
    have first : len ≠ 0 → spot = none ∧ b < W.heap.size := by
      intro h0
      obtain ⟨cs', h1, _⟩ := hx 0 (by omega)
      rw [ce] at h1
      obtain ⟨_, hlen, hcell⟩ := World.cells?_some h1
      have e0 := hcell 0 hs
      rw [Go.Deep.add_add] at e0
      rw [List.getElem?_eq_getElem (by omega)] at e0
      exact ⟨by simpa [Addr.add] using World.cell?_spot e0, by simpa [Addr.add] using World.block_lt_of_cell? W _ e0⟩
    have each : ∀ i, i < len → ∃ x, A b (off + i * size) x := by
      intro i hi
      obtain ⟨rfl, _⟩ := first (by omega)
      obtain ⟨cs', h1, h2⟩ := hx i (by omega)
      rw [ce] at h1
      obtain ⟨_, hlen, hcell⟩ := World.cells?_some h1
      refine hel _ _ cs' b (off + i * size) hlen (fun j hj => ?_) h2
      have e0 := hcell j hj
      rw [Go.Deep.add_add, oaddr, ← Nat.add_assoc] at e0
      exact e0
    obtain ⟨f, hf⟩ := Go.Deep.choose_lt each
    refine ⟨(List.range len).map f, some ⟨b, off, spot⟩, b, off, c, by simp, fun h0 => ?_, fun h0 => ?_, fun i z hz => ?_⟩
    · rw [(first (by simpa using h0)).1]
    · exact (first (by simpa using h0)).2
    · have hi : i < len := by have := (List.getElem?_eq_some_iff.1 hz).1; simpa using this
      have hz2 : f i = z := by
        rw [List.getElem?_map, List.getElem?_range hi] at hz
        simpa using hz
      rw [← hz2]
      exact hf i hi
instance : Inhabited K := ⟨⟨⟨#[]⟩, [], 0⟩⟩
end SS
namespace Go.Proofs.YtcjgfleaoibdbaaDoor
open Go.ChangeShapes Go.WideShapes Go.ChangeAt Go.RowKit PB SC SS
set_option maxRecDepth 100000 in
theorem rdv_open {H : Type} {enc : TypeId × Value → H} {W : World} {fuel : Nat} {cs : List Value} {x : DataW H × List MemPlace} (h : DataW.trod enc Tryd.prog W 0 (fun _ => true) true fuel 37 cs = some x) : ∃ v vals, cs = [v] ∧ RdV W v vals := by
  obtain ⟨l, base, b, off, c, rfl, h1, h2, h3⟩ := rows_open (α := Int) (size := 1) Tryd.underlying37 (by kernel_rfl) (by decide) (fun b o n => W.cell? ⟨b, o, none⟩ = some (.int .i64 n)) (fun fuel y cs' b o hl hc ht => by
    obtain ⟨n, rfl, _⟩ := DataW.trod_int Tryd.underlying3 ht
    exact ⟨n, hc 0 (by decide)⟩) h
  refine ⟨_, l, rfl, base, b, off, c, rfl, h1, h2, fun h0 => ?_, fun j u hu => ?_⟩
  · rw [List.eq_nil_of_length_eq_zero h0]; rfl
  · unfold vcs at hu
    rw [List.getElem?_map] at hu
    cases hj : l[j]? with
    | none => rw [hj] at hu; cases hu
    | some n =>
      rw [hj] at hu
      cases hu
      have := h3 j n hj
      rw [Nat.mul_one] at this
      exact this
set_option maxRecDepth 100000 in
theorem rdk_open {H : Type} {enc : TypeId × Value → H} {W : World} {fuel : Nat} {cs : List Value} {x : DataW H × List MemPlace} (h : DataW.trod enc Tryd.prog W 0 (fun _ => true) true fuel 33 cs = some x) : ∃ v ks, cs = [v] ∧ RdK W v ks := by
  obtain ⟨l, base, b, off, c, rfl, h1, h2, h3⟩ := rows_open (α := K) (size := 3) Tryd.underlying33 (by kernel_rfl) (by decide) (fun b o k => ∃ z, KAt W b o k z) (fun fuel y cs' b o hl hc ht => by
    obtain ⟨xs, k, hk, hxy, _, hxl, hfs⟩ := DataW.trod_struct Tryd.underlying73 ht
    match xs, hxl, cs', hl with
    | [y0, y1, y2], _, [v0, v1, v2], _ =>
      have g0 := hfs 0 _ rfl
      have g1 := hfs 1 _ rfl
      have g2 := hfs 2 _ rfl
      have c3 : Tryd.prog.cellsOf 3 = 1 := by kernel_rfl
      have c9 : Tryd.prog.cellsOf 9 = 1 := by kernel_rfl
      have cs1 : Tryd.prog.cellsOf 37 = 1 := by kernel_rfl
      simp [c3, c9, cs1] at g0 g1 g2
      obtain ⟨s0, f0, _⟩ := DataW.trod_string Tryd.underlying9 g0
      obtain ⟨u1, vals, f1, hr⟩ := rdv_open g1
      obtain ⟨n2, f2, _⟩ := DataW.trod_int Tryd.underlying3 g2
      have e0 := hc 0 (by decide)
      have e1 := hc 1 (by decide)
      have e2 := hc 2 (by decide)
      have k0 : v0 = .string s0 := by simpa using f0
      have k1 : v1 = u1 := by simpa using f1
      have k2 : v2 = .int .i64 n2 := by simpa using f2
      subst k0 k1 k2
      exact ⟨⟨s0, vals, n2⟩, v1, e0, e1, e2, hr⟩) h
  exact ⟨_, l, rfl, base, b, off, c, rfl, h1, h2, h3⟩
set_option maxRecDepth 100000 in
theorem open_item {H : Type} {enc : TypeId × Value → H} {W : World} {base : Nat} {v : Value} {d : DataW H} {p : List MemPlace}
    (hv : Value.okWide Tryd.prog W .any base 35 v) (h : DataW.Trod enc Tryd.prog W 0 (fun _ => true) true 35 v d p) :
    ∃ (x : I) (z : Value), v = iagg x z ∧ RdK W z x.keys := by
  obtain ⟨cs, rfl, hsz⟩ := okWide_struct Tryd.underlying35 hv
  have hC : Tryd.prog.cellsOf 35 = 4 := by kernel_rfl
  rw [hC] at hsz
  obtain ⟨fuel, hf⟩ := h
  have hl : cs.toList.length = 4 := by simpa using hsz
  obtain ⟨xs, k, hk, hxy, _, hxl, hfs⟩ := DataW.trod_struct Tryd.underlying35 hf
  have hcs : (Value.cells (.agg cs)).toList = cs.toList := rfl
  rw [hcs] at hfs
  obtain ⟨l⟩ := cs
  match xs, hxl, l, hl with
  | [y0, y1, y2, y3], _, [v0, v1, v2, v3], _ =>
    have g0 := hfs 0 _ rfl
    have g1 := hfs 1 _ rfl
    have g2 := hfs 2 _ rfl
    have g3 := hfs 3 _ rfl
    have c3 : Tryd.prog.cellsOf 3 = 1 := by kernel_rfl
    have c9 : Tryd.prog.cellsOf 9 = 1 := by kernel_rfl
    have cs1 : Tryd.prog.cellsOf 33 = 1 := by kernel_rfl
    simp [c3, c9, cs1] at g0 g1 g2 g3
    obtain ⟨s0, f0, _⟩ := DataW.trod_string Tryd.underlying9 g0
    obtain ⟨s1, f1, _⟩ := DataW.trod_string Tryd.underlying9 g1
    obtain ⟨u2, ks, f2, hr⟩ := rdk_open g2
    obtain ⟨n3, f3, _⟩ := DataW.trod_int Tryd.underlying3 g3
    have k0 : v0 = .string s0 := by simpa using f0
    have k1 : v1 = .string s1 := by simpa using f1
    have k2 : v2 = u2 := by simpa using f2
    have k3 : v3 = .int .i64 n3 := by simpa using f3
    subst k0 k1 k2 k3
    exact ⟨⟨s0, s1, ks, n3⟩, v2, rfl, hr⟩
end Go.Proofs.YtcjgfleaoibdbaaDoor

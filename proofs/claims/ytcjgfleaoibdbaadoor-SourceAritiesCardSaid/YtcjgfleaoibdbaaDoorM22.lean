/-
  The law's few.
  The reference's Get.
  The reference's table: its entries are the chapter's table.
-/
import Derived.KernelRfl
import Derived.Test.YtcjgfleaoibdbaaDoorM09
import Derived.Test.YtcjgfleaoibdbaaDoorM12
import Derived.Test.YtcjgfleaoibdbaaDoorM21
namespace SS
open Go Go.RowKit PB SC
def FewK (k : K) : Prop := k.vals.length ≤ 30 ∧ k.key.size ≤ 100
def FewI (x : I) : Prop := x.keys.length ≤ 30 ∧ x.word.size ≤ 100 ∧ x.name.size ≤ 100 ∧ ∀ (j : Nat) (y : K), x.keys[j]? = some y → FewK y
def FewL (l : List I) : Prop := l.length ≤ 60 ∧ ∀ (j : Nat) (x : I), l[j]? = some x → FewI x
def RetF (l : List I) (w : World) (e : Ending) (w' : World) : Prop := ∃ r, e = .returned (.bool r) ∧ (r = true → FewL l) ∧ Below w.heap.size w w'
end SS
namespace Go.Proofs.YtcjgfleaoibdbaaDoor
open Go.RowKit SC PB SS
set_option maxHeartbeats 8000000 in
set_option maxRecDepth 100000 in
theorem few_any (l : List I) (u : Value) (w : World) (hu : RdI w u l) :
    Calls Tryd.prog 13 #[u] w (RetF l w) := by
  obtain ⟨base, b, off, cp, rfl, h1, h2, h4⟩ := hu
  have HI := Lib.hid (irow_of h2 h4)
  have HB := Lib.hid h1
  have HX := Lib.hid (fun (k : Nat) (hk : k < l.length) => (⟨l[k], List.getElem?_eq_getElem hk⟩ : ∃ x, l[k]? = some x))
  have HLT := Lib.hid (fun (j : Nat) (x : I) (h : l[j]? = some x) => (List.getElem?_eq_some_iff.1 h).1)
  have HFL := Lib.hid (fun (h1 : l.length ≤ 60) (h2 : ∀ (j : Nat) (x : I), j < l.length → l[j]? = some x → FewI x) => (show FewL l from ⟨h1, fun j x h => h2 j x (List.getElem?_eq_some_iff.1 h).1 h⟩))
  have HIN := Lib.hid (fun (i : Nat) (x : I) (hx : l[i]? = some x) (h : ∀ (j : Nat) (y : I), j < i → l[j]? = some y → FewI y) (hf : FewI x) => (show ∀ (j : Nat) (y : I), j < i + 1 → l[j]? = some y → FewI y by
    intro j y hj hy
    by_cases hji : j = i
    · subst hji
      rw [hx] at hy
      obtain rfl : x = y := by simpa using hy
      exact hf
    · exact h j y (by omega) hy))
  clear h1 h2 h4
  generalize hnl : l.length = n at *
  clear hnl
  by_cases hn : n ≤ 60
  · have hn' : ¬ (60 : Int) < n := by omega
    go_enter Tryd.func13, Tryd.ntmps13
    go_wp2_with fail
    go_loopw [3] (fun iv wr => ∃ (i : Nat), i ≤ n ∧ iv = .int .i64 i ∧ Hid (∀ (j : Nat) (x : I), j < i → l[j]? = some x → FewI x) ∧ Hid (Below w.heap.size w wr)) (fun iv _ => n - (intOf iv).toNat)
    case atStart => exact ⟨0, Nat.zero_le _, rfl, Lib.hid (fun j x h => by omega), Lib.hid (Below.refl _ _)⟩
    case round =>
      obtain ⟨i, hi, rfl, hF, hwr⟩ := hrel
      by_cases hin : i < n
      · obtain rfl := HB.out (by omega)
        obtain ⟨x, hx⟩ := HX.out i hin
        obtain ⟨hlt, zb, kb, ko, zc, a1, a2, a3, a4⟩ := HI.out i x hx
        obtain ⟨c0, c1, c2, c3⟩ := a3 _ hwr.out
        have hl : b < wr.heap.size := Nat.lt_of_lt_of_le hlt hwr.out.size
        have hii : (i : Int) < n := by omega
        have HA1 := Lib.hid a1
        have HA2 := Lib.hid a2
        have HA3 := Lib.hid a3
        have HA4 := Lib.hid a4
        have HXK := Lib.hid (fun (k : Nat) (hk : k < x.keys.length) => (⟨x.keys[k], List.getElem?_eq_getElem hk⟩ : ∃ y, x.keys[k]? = some y))
        have HFI := Lib.hid (fun (f1 : x.keys.length ≤ 30) (f2 : x.word.size ≤ 100) (f3 : x.name.size ≤ 100) (f4 : ∀ (j : Nat) (y : K), j < x.keys.length → x.keys[j]? = some y → FewK y) => HIN.out i x hx hF.out ⟨f1, f2, f3, fun j y h => f4 j y (List.getElem?_eq_some_iff.1 h).1 h⟩)
        have HKN := Lib.hid (fun (k : Nat) (y : K) (hy : x.keys[k]? = some y) (h : ∀ (j : Nat) (z : K), j < k → x.keys[j]? = some z → FewK z) (hf : FewK y) => (show ∀ (j : Nat) (z : K), j < k + 1 → x.keys[j]? = some z → FewK z by
          intro j z hj hz
          by_cases hji : j = k
          · subst hji
            rw [hy] at hz
            obtain rfl : y = z := by simpa using hz
            exact hf
          · exact h j z (by omega) hz))
        have HLB := Lib.hid hlt
        clear a1 a2 a3 a4 hx hlt hF
        generalize x.word = sw at *
        generalize x.name = sn at *
        generalize x.pos = xp at *
        generalize hkn2 : x.keys.length = kn at *
        clear hkn2
        by_cases f1 : kn ≤ 30
        · have f1' : ¬ (30 : Int) < kn := by omega
          by_cases f2 : sw.size ≤ 100
          · have f2' : ¬ (100 : Int) < sw.size := by omega
            by_cases f3 : sn.size ≤ 100
            · have f3' : ¬ (100 : Int) < sn.size := by omega
              have HFI2 := Lib.hid (HFI.out f1 f2 f3)
              go_wp2_with fail
              clear c0 c1 c2 c3 hl
              go_loopw [4] (fun kv wq => ∃ (k : Nat), k ≤ kn ∧ kv = .int .i64 k ∧ Hid (∀ (j : Nat) (y : K), j < k → x.keys[j]? = some y → FewK y) ∧ Hid (Below w.heap.size w wq)) (fun kv _ => kn - (intOf kv).toNat)
              case atStart => exact ⟨0, Nat.zero_le _, rfl, Lib.hid (fun j x h => by omega), hwr⟩
              case round =>
                clear hwr
                obtain ⟨k, hk, rfl, hG, hwq⟩ := hrel
                obtain ⟨c0, c1, c2, c3⟩ := HA3.out _ hwq.out
                have hl : b < wr.heap.size := Nat.lt_of_lt_of_le HLB.out hwq.out.size
                by_cases hkm : k < kn
                · obtain rfl := HA1.out (by omega)
                  obtain ⟨y, hy⟩ := HXK.out k hkm
                  obtain ⟨ub, ug, uo, uc, _, _, u4⟩ := HA4.out k y hy
                  obtain ⟨d0, d1, _⟩ := u4 _ hwq.out
                  have hkl : kb < wr.heap.size := Nat.lt_of_lt_of_le (HA2.out (by omega)) hwq.out.size
                  have hki : (k : Int) < kn := by omega
                  have HKN2 := Lib.hid (fun (g1 : y.vals.length ≤ 30) (g2 : y.key.size ≤ 100) => HKN.out k y hy hG.out ⟨g1, g2⟩)
                  clear hy u4 hG
                  generalize y.key = sk at *
                  generalize y.vals.length = vn at *
                  by_cases g1 : vn ≤ 30
                  · have g1' : ¬ (30 : Int) < vn := by omega
                    by_cases g2 : sk.size ≤ 100
                    · have g2' : ¬ (100 : Int) < sk.size := by omega
                      have HK3 := Lib.hid (HKN2.out g1 g2)
                      go_wp2_with fail
                      go_roundw
                      case rel => exact ⟨k + 1, by omega, by go_num, HK3, hwq⟩
                      case measure => simp [intOf]; omega
                    · have g2' : (100 : Int) < sk.size := by omega
                      go_wp2_with fail
                      go_ret
                      exact ⟨false, rfl, fun h => Bool.noConfusion h, hwq.out⟩
                  · have g1' : (30 : Int) < vn := by omega
                    go_wp2_with fail
                    go_ret
                    exact ⟨false, rfl, fun h => Bool.noConfusion h, hwq.out⟩
                · have hke : k = kn := by omega
                  subst hke
                  have hki : ¬ (k : Int) < k := by omega
                  have HF3 := Lib.hid (HFI2.out hG.out)
                  go_wp2_with fail
                  go_roundw
                  case rel => exact ⟨i + 1, by omega, by go_num, HF3, hwq⟩
                  case measure => simp [intOf]; omega
            · have f3' : (100 : Int) < sn.size := by omega
              go_wp2_with fail
              go_ret
              exact ⟨false, rfl, fun h => Bool.noConfusion h, hwr.out⟩
          · have f2' : (100 : Int) < sw.size := by omega
            go_wp2_with fail
            go_ret
            exact ⟨false, rfl, fun h => Bool.noConfusion h, hwr.out⟩
        · have f1' : (30 : Int) < kn := by omega
          go_wp2_with fail
          go_ret
          exact ⟨false, rfl, fun h => Bool.noConfusion h, hwr.out⟩
      · have hie : i = n := by omega
        subst hie
        have hii : ¬ (i : Int) < i := by omega
        go_wp2_with fail
        go_ret
        exact ⟨true, rfl, fun _ => HFL.out hn hF.out, hwr.out⟩
  · have hn' : (60 : Int) < n := by omega
    go_enter Tryd.func13, Tryd.ntmps13
    go_wp2_with fail
    go_ret
    exact ⟨false, rfl, fun h => Bool.noConfusion h, Below.refl _ _⟩
end Go.Proofs.YtcjgfleaoibdbaaDoor

namespace SS
open Go Go.RowKit PB SC
/-- The keys of a statement, as they stand in memory. -/
theorem rdk_rows {w : World} {kb ko : Nat} {ks : List K} (a2 : ks.length ≠ 0 → kb < w.heap.size) (a4 : ∀ j k, ks[j]? = some k → ∃ z, KAt w kb (ko + j * 3) k z) (k : Nat) (y : K) (hy : ks[k]? = some y) :
    ∃ ub un uc, ∀ W, Below w.heap.size w W → W.cell? ⟨kb, ko + k * 3, none⟩ = some (.string y.key) ∧ W.cell? ⟨kb, ko + k * 3 + 1, none⟩ = some (.slice ub un uc) ∧ RdV W (.slice ub un uc) y.vals := by
  obtain ⟨u, hu⟩ := a4 k y hy
  have hklt := a2 (by have := (List.getElem?_eq_some_iff.1 hy).1; omega)
  obtain ⟨ub, un, uc, rfl⟩ := rdv_form hu.2.2.2
  refine ⟨ub, un, uc, fun W h => ?_⟩
  obtain ⟨e1, e2, _, e4⟩ := hu.kept h hklt
  exact ⟨e1, e2, e4⟩
theorem wpList_append_copyv {P : Program} {w : World} {ops : Array Oper} {rest : List Oper} {o : Oper} {a : Act} {Q : Exit → Act → World → Prop} (hgd : o.guard = none) (s x : Operand) (t : TypeId)
    (ho : o.op = .call { callee := .builtin .append, args := #[s, x], argTypes := #[t, t] }) (E : TypeId) (i : TypeInfo) (ht : P.underlying t = some (.slice E)) (hi : P.info? E = some i) (hz : i.zero = some (.int .i64 0)) (hsize : i.size = 1) (hby : i.bytes = 8)
    (hs : a.eval s = .slice none 0 0) (v : Value) (vals : List Int) (hx : a.eval x = v) (hv : RdV w v vals) (hn : vals.length ≤ 1000000)
    (h : ∀ v' w', OwnVs E w.heap.size w' v' vals → Below w.heap.size w w' → wpList P ops Q rest (a.put o.dst v') w') : wpList P ops Q (o :: rest) a w :=
  wpList_plain hgd fun _ hK => wp_append_copy s x t ho E i ht hi hz hsize hby hs v vals hx hv hn (fun v' w' h1 h2 => hK _ _ (h v' w' h1 h2))
end SS
namespace Go.Proofs.YtcjgfleaoibdbaaDoor
open Go.RowKit SC PB SS
set_option maxHeartbeats 8000000 in
set_option maxRecDepth 100000 in
theorem rget_any (x : I) (z : Value) (key : ByteArray) (w : World) (hr : RdK w z x.keys) (hn : x.keys.length ≤ 1000000) (hv : ∀ k ∈ x.keys, k.vals.length ≤ 1000000) :
    Calls Tryd.prog 15 #[iagg x z, .string key] w fun e w' => ∃ v, e = .returned (.tuple #[v, .bool (getV key x.keys).isSome]) ∧ RdV w' v (oV (getV key x.keys)) ∧ Below w.heap.size w w' := by
  obtain ⟨i0, hi, hz0, hz1, hz2⟩ := info_parts info_vint
  obtain ⟨base, b, off, c, rfl, h1, h2, h4⟩ := hr
  have HB := Lib.hid h1
  have HL := Lib.hid h2
  have HK := Lib.hid (rdk_rows h2 h4)
  have HX := Lib.hid (fun (k : Nat) (hk : k < x.keys.length) => (⟨x.keys[k], List.getElem?_eq_getElem hk, hv _ (List.getElem_mem hk)⟩ : ∃ y, x.keys[k]? = some y ∧ y.vals.length ≤ 1000000))
  generalize hR : getV key x.keys = R
  have HR0 := Lib.hid (show getV key (x.keys.drop 0) = R by rw [List.drop_zero]; exact hR)
  have HC := Lib.hid (fun (i : Nat) (k : K) (h : getV key (x.keys.drop i) = R) (hk : x.keys[i]? = some k) => getV_cons h hk)
  have HE := Lib.hid (fun (i : Nat) (h : getV key (x.keys.drop i) = R) (hi : x.keys.length ≤ i) => getV_end h hi)
  clear h1 h2 h4 hv hR
  unfold iagg
  generalize hN : x.keys.length = n at *
  clear hN
  have BX : BT (w.alloc (.cells #[.string x.word, .string x.name, .slice base n c, .int .i64 x.pos] 43)) w.heap.size 43 #[.string x.word, .string x.name, .slice base n c, .int .i64 x.pos] := bt_new rfl
  have HBX := Lib.hid (fun W (h : Below (w.heap.size + 1) (w.alloc (.cells #[.string x.word, .string x.name, .slice base n c, .int .i64 x.pos] 43)) W) => (Blk4 (BX.keptN h (Nat.lt_succ_self _)).blk).2.2.1)
  have HQ0 := Lib.hid (sb_alloc (Below.refl w.heap.size w) (.cells #[.string x.word, .string x.name, .slice base n c, .int .i64 x.pos] 43))
  have hsz : (w.alloc (.cells #[.string x.word, .string x.name, .slice base n c, .int .i64 x.pos] 43)).heap.size = w.heap.size + 1 := World.size_alloc _ _
  clear BX
  go_enter Tryd.func15, Tryd.ntmps15
  go_wp2_with fail
  generalize w.alloc (.cells #[.string x.word, .string x.name, .slice base n c, .int .i64 x.pos] 43) = W1 at *
  go_loopw [6] (fun i wr => ∃ k : Nat, k ≤ n ∧ i = .int .i64 k ∧ Hid (getV key (x.keys.drop k) = R) ∧ Hid (Below (w.heap.size + 1) W1 wr)) (fun i _ => n - (intOf i).toNat)
  case atStart => exact ⟨0, Nat.zero_le _, rfl, HR0, Lib.hid (Below.refl _ _)⟩
  case round =>
    clear HR0
    obtain ⟨k, hk, rfl, hA, hwr⟩ := hrel
    have x2 := HBX.out _ hwr.out
    have h0 : Below w.heap.size w wr := HQ0.out.trans (hwr.out.mono (by omega))
    by_cases hkn : k < n
    · obtain rfl := HB.out (by omega)
      obtain ⟨y, hy, hyv⟩ := HX.out k hkn
      obtain ⟨ub, un, uc, hu⟩ := HK.out k y hy
      obtain ⟨c0, c1, hyr⟩ := hu _ h0
      obtain ⟨s1, s2⟩ := HC.out k y hA.out hy
      have hlt : b < wr.heap.size := Nat.lt_of_lt_of_le (HL.out (by omega)) h0.size
      have hkmi : (k : Int) < n := by omega
      have HD := beq_str_dec y.key key
      have HQ := Lib.hid h0
      have HYR := Lib.hid hyr
      clear hu hy hyr h0
      by_cases hxy : y.key = key
      · rw [decide_eq_true hxy] at HD
        have HV := Lib.hid (s1 hxy)
        clear s1 s2 hxy
        go_wp2_with (at_builtin; refine wpList_append_copyv rfl _ _ 37 rfl 3 i0 Tryd.underlying37 hi hz0 hz1 hz2 rfl _ y.vals rfl HYR.out hyv ?_)
        intro v6 w6 hov hb6
        have HO := Lib.hid hov.rd
        obtain ⟨vb, vc, rfl⟩ := row_form hov
        have HQ6 := Lib.hid (next HQ.out hb6)
        clear hov hb6
        go_wp2_with fail
        go_ret2
        exact ⟨_, by rw [HV.out]; rfl, by rw [HV.out]; exact HO.out, HQ6.out⟩
      · rw [decide_eq_false hxy] at HD
        have HV := Lib.hid (s2 hxy)
        clear s1 s2 hxy
        go_wp2_with fail
        go_roundw
        case rel => exact ⟨k + 1, by omega, by go_num, HV, hwr⟩
        case measure => simp [intOf]; omega
    · have hke : k = n := by omega
      subst hke
      have hV := HE.out k hA.out (Nat.le_refl _)
      subst hV
      have hkmi : ¬ (k : Int) < k := by omega
      have HQ := Lib.hid h0
      clear h0
      go_wp2_with fail
      go_ret2
      exact ⟨_, rfl, (OwnVs.nil 3 0 _).rd, HQ.out⟩
end Go.Proofs.YtcjgfleaoibdbaaDoor

namespace SS
open Go Go.RowKit PB SC
def entL : List ByteArray := [⟨#[116, 97, 98, 108, 101]⟩, ⟨#[114, 97, 100, 105, 117, 115, 32, 49, 32, 98, 97, 108, 108, 115, 32, 49, 32, 103, 114, 97, 118, 105, 116, 121, 32, 50, 32, 100, 114, 97, 103, 32, 50, 32, 114, 101, 115, 116, 32, 49, 32, 116, 114, 111, 117, 103, 104, 32, 49]⟩, ⟨#[119, 97, 108, 108]⟩, ⟨#[108, 101, 118, 101, 108, 32, 49, 32, 102, 114, 111, 109, 32, 50, 32, 116, 111, 32, 50, 32, 114, 101, 115, 116, 32, 49, 32, 103, 114, 105, 112, 32, 49, 32, 107, 105, 99, 107, 32, 49, 32, 109, 105, 110, 32, 49, 32, 99, 111, 105, 108, 32, 49, 32, 115, 119, 105, 116, 99, 104, 32, 49]⟩, ⟨#[103, 97, 116, 101]⟩, ⟨#[108, 101, 118, 101, 108, 32, 49, 32, 102, 114, 111, 109, 32, 50, 32, 116, 111, 32, 50, 32, 114, 101, 115, 116, 32, 49, 32, 103, 114, 105, 112, 32, 49, 32, 107, 105, 99, 107, 32, 49, 32, 109, 105, 110, 32, 49, 32, 99, 111, 105, 108, 32, 49, 32, 115, 119, 105, 116, 99, 104, 32, 49]⟩, ⟨#[116, 97, 114, 103, 101, 116]⟩, ⟨#[108, 101, 118, 101, 108, 32, 49, 32, 102, 114, 111, 109, 32, 50, 32, 116, 111, 32, 50, 32, 114, 101, 115, 116, 32, 49, 32, 103, 114, 105, 112, 32, 49, 32, 107, 105, 99, 107, 32, 49, 32, 109, 105, 110, 32, 49, 32, 99, 111, 105, 108, 32, 49, 32, 115, 119, 105, 116, 99, 104, 32, 49]⟩, ⟨#[115, 108, 105, 110, 103]⟩, ⟨#[108, 101, 118, 101, 108, 32, 49, 32, 102, 114, 111, 109, 32, 50, 32, 116, 111, 32, 50, 32, 114, 101, 115, 116, 32, 49, 32, 103, 114, 105, 112, 32, 49, 32, 107, 105, 99, 107, 32, 49, 32, 109, 105, 110, 32, 49, 32, 99, 111, 105, 108, 32, 49, 32, 115, 119, 105, 116, 99, 104, 32, 49]⟩, ⟨#[97, 114, 99]⟩, ⟨#[108, 101, 118, 101, 108, 32, 49, 32, 99, 101, 110, 116, 101, 114, 32, 50, 32, 102, 114, 111, 109, 32, 50, 32, 116, 111, 32, 50, 32, 114, 101, 115, 116, 32, 49, 32, 103, 114, 105, 112, 32, 49, 32, 109, 105, 110, 32, 49, 32, 115, 119, 105, 116, 99, 104, 32, 49]⟩, ⟨#[112, 111, 115, 116]⟩, ⟨#[108, 101, 118, 101, 108, 32, 49, 32, 99, 101, 110, 116, 101, 114, 32, 50, 32, 115, 105, 122, 101, 32, 49, 32, 114, 101, 115, 116, 32, 49, 32, 103, 114, 105, 112, 32, 49, 32, 107, 105, 99, 107, 32, 49, 32, 109, 105, 110, 32, 49, 32, 99, 111, 105, 108, 32, 49, 32, 115, 119, 105, 116, 99, 104, 32, 49]⟩, ⟨#[102, 108, 105, 112, 112, 101, 114]⟩, ⟨#[108, 101, 118, 101, 108, 32, 49, 32, 99, 101, 110, 116, 101, 114, 32, 50, 32, 108, 101, 110, 103, 116, 104, 32, 49, 32, 109, 105, 114, 114, 111, 114, 32, 48, 32, 114, 97, 110, 103, 101, 32, 50, 32, 117, 112, 32, 49, 32, 100, 111, 119, 110, 32, 49, 32, 109, 97, 120, 32, 49, 32, 114, 101, 115, 116, 32, 49, 32, 103, 114, 105, 112, 32, 49, 32, 99, 111, 105, 108, 32, 49, 32, 115, 119, 105, 116, 99, 104, 32, 49]⟩, ⟨#[122, 111, 110, 101]⟩, ⟨#[108, 101, 118, 101, 108, 32, 49, 32, 102, 114, 111, 109, 32, 50, 32, 116, 111, 32, 50, 32, 104, 97, 108, 102, 32, 50, 32, 99, 111, 105, 108, 32, 49]⟩, ⟨#[115, 97, 117, 99, 101, 114]⟩, ⟨#[108, 101, 118, 101, 108, 32, 49, 32, 99, 101, 110, 116, 101, 114, 32, 50, 32, 115, 105, 122, 101, 32, 49, 32, 108, 105, 109, 105, 116, 32, 49, 32, 111, 117, 116, 32, 50, 32, 99, 111, 105, 108, 32, 49, 32, 115, 119, 105, 116, 99, 104, 32, 49]⟩, ⟨#[108, 97, 110, 101]⟩, ⟨#[108, 101, 118, 101, 108, 32, 49, 32, 99, 101, 110, 116, 101, 114, 32, 50, 32, 115, 105, 122, 101, 32, 49, 32, 115, 119, 105, 116, 99, 104, 32, 49]⟩, ⟨#[114, 97, 109, 112]⟩, ⟨#[108, 101, 118, 101, 108, 32, 49, 32, 105, 110, 116, 111, 32, 49, 32, 99, 101, 110, 116, 101, 114, 32, 50, 32, 115, 105, 122, 101, 32, 49, 32, 100, 105, 114, 32, 50]⟩, ⟨#[100, 114, 97, 105, 110]⟩, ⟨#[108, 101, 118, 101, 108, 32, 49, 32, 99, 101, 110, 116, 101, 114, 32, 50, 32, 115, 105, 122, 101, 32, 49]⟩, ⟨#[108, 97, 117, 110, 99, 104, 101, 114]⟩, ⟨#[108, 101, 118, 101, 108, 32, 49, 32, 99, 101, 110, 116, 101, 114, 32, 50, 32, 111, 117, 116, 32, 50, 32, 99, 111, 105, 108, 32, 49]⟩]
def rowB : List (ByteArray × Nat) → List W → Bool
  | [], [] => true
  | q :: t, y :: y' :: ws => decide (bs y.text = q.1) && (decide (y'.num = (q.2 : Int)) && rowB t ws)
  | _, _ => false
def entsB : List (ByteArray × List (ByteArray × Nat)) → List ByteArray → Bool
  | [], [] => true
  | r :: t, a :: b :: l => decide (a = r.1) && ((match words b.data.toList with
    | .ok ws => rowB r.2 ws
    | .bad _ _ => false) && entsB t l)
  | _, _ => false
theorem ents_ok : entsB tab entL = true := by kernel_rfl
theorem rowB_spec : ∀ {ks : List (ByteArray × Nat)} {ws : List W}, rowB ks ws = true → ws.length = 2 * ks.length ∧ ∀ j q, ks[j]? = some q → ∃ y y', ws[2 * j]? = some y ∧ ws[2 * j + 1]? = some y' ∧ bs y.text = q.1 ∧ y'.num = (q.2 : Int)
  | [], [], _ => ⟨rfl, fun j q h => by simp at h⟩
  | [], y :: ws, h => by cases h
  | q :: t, [], h => by cases h
  | q :: t, [y], h => by cases h
  | q :: t, y :: y' :: ws, h => by
    unfold rowB at h
    simp only [Bool.and_eq_true, decide_eq_true_eq] at h
    obtain ⟨h1, h2, h3⟩ := h
    obtain ⟨a1, a2⟩ := rowB_spec h3
    refine ⟨by simp only [List.length_cons]; omega, fun j q' hq => ?_⟩
    cases j with
    | zero =>
      obtain rfl : q = q' := by simpa using hq
      exact ⟨y, y', rfl, rfl, h1, h2⟩
    | succ j =>
      obtain ⟨z, z', b1, b2, b3⟩ := a2 j q' (by simpa using hq)
      refine ⟨z, z', ?_, ?_, b3⟩
      · rw [show 2 * (j + 1) = 2 * j + 2 by omega]; simpa using b1
      · rw [show 2 * (j + 1) + 1 = (2 * j + 1) + 2 by omega]; simpa using b2
theorem entsB_spec : ∀ {t : List (ByteArray × List (ByteArray × Nat))} {l : List ByteArray}, entsB t l = true → ∀ i r, t[i]? = some r → ∃ b ws, l[2 * i]? = some r.1 ∧ l[2 * i + 1]? = some b ∧ words b.data.toList = .ok ws ∧ rowB r.2 ws = true
  | [], _, _, i, r, h => by simp at h
  | r :: t, [], h, _, _, _ => by cases h
  | r :: t, [a], h, _, _, _ => by cases h
  | r :: t, a :: b :: l, h, i, r', hr => by
    unfold entsB at h
    simp only [Bool.and_eq_true, decide_eq_true_eq] at h
    obtain ⟨h1, h2, h3⟩ := h
    cases i with
    | zero =>
      obtain rfl : r = r' := by simpa using hr
      split at h2
      · rename_i ws hw
        exact ⟨b, ws, by rw [← h1]; rfl, rfl, hw, h2⟩
      · cases h2
    | succ i =>
      obtain ⟨c, ws, b1, b2, b3⟩ := entsB_spec h3 i r' (by simpa using hr)
      refine ⟨c, ws, ?_, ?_, b3⟩
      · rw [show 2 * (i + 1) = 2 * i + 2 by omega]; simpa using b1
      · rw [show 2 * (i + 1) + 1 = (2 * i + 1) + 2 by omega]; simpa using b2
theorem rowIn_step {word : ByteArray} {k : Nat} {r : ByteArray × List (ByteArray × Nat)} {R : List (ByteArray × Nat)} (h : rowIn (tab.drop k) word = R) (hk : tab[k]? = some r) : (r.1 = word → R = r.2) ∧ (¬ r.1 = word → rowIn (tab.drop (k + 1)) word = R) := by
  obtain ⟨hi, e⟩ := List.getElem?_eq_some_iff.1 hk
  rw [List.drop_eq_getElem_cons hi, e] at h
  unfold rowIn at h
  exact ⟨fun hh => by rw [if_pos hh] at h; exact h.symm, fun hh => by rw [if_neg hh] at h; exact h⟩
theorem rowIn_end {word : ByteArray} {k : Nat} {R : List (ByteArray × Nat)} (h : rowIn (tab.drop k) word = R) (hk : 14 ≤ k) : R = [] := by
  rw [List.drop_eq_nil_of_le (show tab.length ≤ k from hk)] at h; exact h.symm
theorem ent_small : ∀ b ∈ entL, b.size ≤ 1000 := by decide +kernel
theorem bt_one {w : World} {g : Nat} {T : TypeId} {x : Value} (h : BT w g T #[x]) : ∀ j u, ([x] : List Value)[j]? = some u → w.cell? ((⟨g, 0, none⟩ : Addr).add j) = some u := by
  intro j u hu
  rw [oaddr]
  cases j with
  | zero =>
    obtain rfl : x = u := by simpa using hu
    exact h.blk.cell 0 _ rfl
  | succ j => simp at hu
theorem strs_snoc (l : List ByteArray) (x : ByteArray) : (l ++ [x]).map Value.string = l.map Value.string ++ [Value.string x] := by simp
end SS
namespace Go.Proofs.YtcjgfleaoibdbaaDoor
open Go.RowKit SC PB SS
set_option maxHeartbeats 4000000 in
set_option maxRecDepth 100000 in
theorem entries_any (w : World) :
    Calls Tryd.prog 48 #[] w fun e w' => ∃ v, e = .returned v ∧ RdS w' v entL ∧ Below w.heap.size w w' := by
  go_enter Tryd.func48, Tryd.ntmps48
  go_wp2_with fail
  go_ret
  exact ⟨_, rfl, rds_new w entL _ _ rfl (List.cons_ne_nil _ _), (Below.refl _ _).alloc (Nat.le_refl _) _⟩
set_option maxRecDepth 100000 in
theorem info_vstr : (Tryd.prog.info? 9).map (fun i => (i.zero, i.size, i.bytes)) = some (some (.string ⟨#[]⟩), 1, 16) := by kernel_rfl
end Go.Proofs.YtcjgfleaoibdbaaDoor

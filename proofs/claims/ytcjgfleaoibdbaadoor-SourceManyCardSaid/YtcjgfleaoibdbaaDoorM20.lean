/-
  Format.
  The examples of the chapter.
  How many statements a text may have: the plain part.
-/
import Derived.Laws.BytesArg
import Derived.KernelRfl
import Derived.Test.YtcjgfleaoibdbaaDoorM19
namespace SS
open Go Go.RowKit PB SC
/-- The whole text, unless it is too long. -/
def fmtF (t : List UInt8) : List I → Option (List UInt8)
  | [] => some t
  | x :: l => if 20000 < (appI t x).length then none else fmtF (appI t x) l
def chkF (l : List I) (t : List UInt8) : SR → Option (List UInt8)
  | .ok m => if allB sameIB m l then some t else none
  | .bad _ _ => none
def fmtO (l : List I) : Option (List UInt8) → Option (List UInt8)
  | none => none
  | some t => chkF l t (parse t)
/-- What Format returns. -/
def fmtC (l : List I) : Option (List UInt8) := fmtO l (fmtF [] l)
def strO : Option (List UInt8) → ByteArray
  | some t => ⟨t.toArray⟩
  | none => ⟨#[]⟩
theorem fmtF_step {l : List I} {i : Nat} {x : I} {t : List UInt8} {r : Option (List UInt8)} (h : fmtF t (l.drop i) = r) (hx : l[i]? = some x) : (20000 < (appI t x).length → r = none) ∧ (¬ 20000 < (appI t x).length → fmtF (appI t x) (l.drop (i + 1)) = r) := by
  obtain ⟨hi, e⟩ := List.getElem?_eq_some_iff.1 hx
  rw [List.drop_eq_getElem_cons hi, e] at h
  unfold fmtF at h
  exact ⟨fun hh => by rw [if_pos hh] at h; exact h.symm, fun hh => by rw [if_neg hh] at h; exact h⟩
theorem fmtF_end {l : List I} {i : Nat} {t : List UInt8} {r : Option (List UInt8)} (h : fmtF t (l.drop i) = r) (hi : l.length ≤ i) : r = some t := by
  rw [List.drop_eq_nil_of_le hi] at h; exact h.symm
theorem strOfNums_bytes (t : List UInt8) : strOfNums (t.map fun b => (b.toNat : Int)) = ⟨t.toArray⟩ := by
  unfold strOfNums
  congr 2
  rw [List.map_map]
  have : (fun n : Int => UInt8.ofNat n.toNat) ∘ (fun b : UInt8 => (b.toNat : Int)) = id := by
    funext b; simp
  rw [this, List.map_id]
/-- A text of bytes that are owned. -/
theorem conv_own {P : Program} {w : World} {E src dst : TypeId} {N : Nat} {v : Value} {t : List UInt8} (hs : P.underlying src = some (.slice E)) (he : P.underlying E = some (.int .u8)) (hd : P.underlying dst = some .string) (h : OwnB E N w v t) : (convert src dst v).run P w = .ok (.string ⟨t.toArray⟩) w := by
  obtain ⟨base, b, off, c, rfl, h1, _, _, h4⟩ := own_rd h
  by_cases h0 : t.length = 0
  · obtain rfl := List.eq_nil_of_length_eq_zero h0
    cases base with
    | none => rw [run_convert_bytes_nil w src E hs he _ _ dst hd]; rfl
    | some a =>
      rw [run_convert_bytes_string w src dst E _ _ _ hs he hd]
      simp [Conv.bytesToString, loadCells, loadCellsFrom]
      try rfl
  · obtain rfl := h1 h0
    rw [run_convert_bytes_arg w src E hs he b off t.length c (t.map fun b => (b.toNat : Int)) (by simp) (fun i hi => ?_) dst hd, strOfNums_bytes]
    refine h4 i _ ?_
    unfold Lib.byteCells
    rw [List.getElem?_map, List.getElem?_eq_getElem hi, List.getD_eq_getElem?_getD, List.getElem?_map, List.getElem?_eq_getElem hi]
    rfl
end SS
namespace Go.Proofs.YtcjgfleaoibdbaaDoor
open Go.RowKit SC PB SS
set_option maxHeartbeats 8000000 in
set_option maxRecDepth 100000 in
theorem format_any (l : List I) (v : Value) (w : World) (hr : RdI w v l) (hok : ∀ x ∈ l, OkI x) (hn : l.length ≤ 1000000) (htab : Lib.TabBelow Tryd.prog w.heap.size w "internal/strconv.uint64pow10" .u64 Lib.pow10Tab) :
    Calls Tryd.prog 18 #[v] w fun e w' => e = .returned (.tuple #[.string (strO (fmtC l)), .bool (fmtC l).isSome]) ∧ Below w.heap.size w w' := by
  have HEQ := Lib.hid (fun (m : List I) (u : Value) (W : World) (h : Below w.heap.size w W) (hu : RdI W u m) (hm : (∀ x ∈ m, IOk x) ∧ m.length ≤ 400) => eqfunc_items m l u v W hu (hr.kept h) (by omega) hn (fun x hx => (hm.1 x hx).ok.same) (fun x hx => (hok x hx).same))
  obtain ⟨base, b, off, c, rfl, h1, h2, h4⟩ := hr
  have HK := Lib.hid (fun W (h : Below w.heap.size w W) (i : Nat) (x : I) (hi : l[i]? = some x) => (show ∃ z, IAt W b (off + i * 4) x z ∧ RdK w z x.keys by
    obtain ⟨z, hz⟩ := h4 i x hi
    exact ⟨z, hz.kept h (h2 (by have := (List.getElem?_eq_some_iff.1 hi).1; omega)), hz.2.2.2.2⟩))
  have HB := Lib.hid h1
  have HL := Lib.hid h2
  have HX := Lib.hid (fun (k : Nat) (hk : k < l.length) => (⟨l[k], List.getElem?_eq_getElem hk, hok _ (List.getElem_mem hk)⟩ : ∃ x, l[k]? = some x ∧ OkI x))
  have HA := Lib.hid (fun (x : I) (z : Value) (t : List UInt8) (u : Value) (W : World) (h : Below w.heap.size w W) (ho : OwnB 5 w.heap.size W u t) (ht : t.length ≤ 20000) (hx : OkI x) (hz : RdK w z x.keys) => appitem_any x z t w.heap.size u w W h.size ho ht hx hz h (Nat.le_refl _) (htab.on h))
  have HPA := Lib.hid (fun (t : List UInt8) (W : World) (ht : t.length ≤ 20000) => (show Calls Tryd.prog 8 #[.string ⟨t.toArray⟩] W (RetS (parse t) W) from parse_any ⟨t.toArray⟩ W (by rw [size_mk]; omega)))
  have HCV := Lib.hid (fun (t : List UInt8) (u : Value) (W : World) (h : OwnB 5 w.heap.size W u t) => conv_own (P := Tryd.prog) Tryd.underlying49 Tryd.underlying5 Tryd.underlying9 h)
  generalize hR : fmtF [] l = R
  have HR0 := Lib.hid (show fmtF [] (l.drop 0) = R by rw [List.drop_zero]; exact hR)
  have hC : fmtC l = fmtO l R := by unfold fmtC; rw [hR]
  rw [hC]
  generalize hF : fmtO l R = FO
  have HFO := Lib.hid hF
  have hn' := hn
  have HST := Lib.hid (fun (i : Nat) (x : I) (t : List UInt8) (h : fmtF t (l.drop i) = R) (hx : l[i]? = some x) => fmtF_step h hx)
  have HE := Lib.hid (fun (i : Nat) (t : List UInt8) (h : fmtF t (l.drop i) = R) (hi : l.length ≤ i) => fmtF_end h hi)
  clear h1 h2 h4 htab hR hC hok hn hF
  generalize hnl : l.length = n at *
  clear hnl
  go_enter Tryd.func18, Tryd.ntmps18
  go_wp2_with fail
  go_loopw [4, 12] (fun tv i wr => ∃ (k : Nat) (t : List UInt8) (b : Option Addr) (c : Nat), k ≤ n ∧ i = .int .i64 k ∧ tv = .slice b t.length c ∧ Hid (OwnB 5 w.heap.size wr (.slice b t.length c) t) ∧ Hid (fmtF t (l.drop k) = R) ∧ Hid (Below w.heap.size w wr) ∧ t.length ≤ 20000) (fun _ i _ => n - (intOf i).toNat)
  case atStart => exact ⟨0, [], none, 0, Nat.zero_le _, rfl, rfl, Lib.hid (OwnB.nil _ _ _), HR0, Lib.hid (Below.refl _ _), Nat.zero_le _⟩
  case round =>
    clear HR0
    obtain ⟨k, t, tb, tc, hk, rfl, rfl, hO, hA, hwr, htl⟩ := hrel
    by_cases hkn : k < n
    · obtain rfl := HB.out (by omega)
      obtain ⟨x, hx, hox⟩ := HX.out k hkn
      obtain ⟨z, ⟨x0, x1, x2, x3, xr⟩, hz⟩ := HK.out _ hwr.out k x hx
      obtain ⟨zb, zn, zc, rfl⟩ := rdk_form xr
      obtain ⟨s1, s2⟩ := HST.out k x t hA.out hx
      have hlt : b < wr.heap.size := Nat.lt_of_lt_of_le (HL.out (by omega)) hwr.out.size
      have hap := HA.out x (.slice zb zn zc) t (.slice tb t.length tc) _ (sb_alloc hwr.out (.cells #[.string x.word, .string x.name, .slice zb zn zc, .int .i64 x.pos] 35)) (hO.out.kept (sb_alloc (Below.refl _ _) _)) htl hox hz
      generalize appI t x = t2 at *
      have HAP := Lib.hid hap
      clear hx hox xr hz hap hO hA
      unfold iagg at HAP
      by_cases hbig : 20000 < t2.length
      · have hbi : (20000 : Int) < t2.length := by omega
        have hV := s1 hbig
        subst hV
        have hf := HFO.out
        rw [show fmtO l none = none from rfl] at hf
        subst hf
        clear s1 s2 HFO
        go_wp2_with fail
        refine HAP.out.mono ?_
        rintro e w1 ⟨v1, rfl, o1, q1⟩
        obtain ⟨b1, c1, rfl⟩ := row_form o1
        go_wp2_with fail
        go_ret2
        exact ⟨rfl, (sb_alloc hwr.out _).trans q1⟩
      · have hbi : ¬ (20000 : Int) < t2.length := by omega
        have HS2 := Lib.hid (s2 hbig)
        clear s1 s2
        go_wp2_with fail
        refine HAP.out.mono ?_
        rintro e w1 ⟨v1, rfl, o1, q1⟩
        obtain ⟨b1, c1, rfl⟩ := row_form o1
        have HO1 := Lib.hid o1
        have HQ1 := Lib.hid ((sb_alloc hwr.out _).trans q1)
        clear o1 q1
        go_wp2_with fail
        go_roundw
        case rel => exact ⟨k + 1, t2, b1, c1, by omega, by go_num, rfl, HO1, HS2, HQ1, by omega⟩
        case measure => simp [intOf]; omega
    · have hV := HE.out k t hA.out (by omega)
      subst hV
      have hcv := HCV.out t _ _ hO.out
      have hcv2 := fun W (h : Below wr.heap.size wr W) => HCV.out t _ W (hO.out.kept h)
      have HC2 := Lib.hid hcv2
      have HP := Lib.hid (HPA.out t)
      clear hcv2
      cases hp : parse t with
      | bad e q =>
        rw [hp] at HP
        have hne := parse_ne hp
        have hne1 : ((e : Int) == 0) = false := beq_eq_false_iff_ne.2 hne
        have hne2 : ((e : Int) != 0) = true := by simp [bne, hne1]
        have hf := HFO.out
        rw [show fmtO l (some t) = none by show chkF l t (parse t) = none; rw [hp]; rfl] at hf
        subst hf
        clear hp hne hne1 HFO
        go_wp2_with fail
        refine (HP.out _ htl).mono ?_
        rintro e2 w1 ⟨v1, rfl, r1, q1⟩
        obtain ⟨_, _, _, _, rfl, -, -, -⟩ := r1
        dsimp only [SR.err, SR.at, SR.list]
        go_wp2_with fail
        go_ret2
        exact ⟨rfl, next hwr.out q1⟩
      | ok m =>
        rw [hp] at HP
        have hm := parse_ok hp
        have HM := Lib.hid hm
        have hz2 : ((0 : Int) != 0) = false := by decide
        cases hall : allB sameIB m l with
        | true =>
          have hf := HFO.out
          rw [show fmtO l (some t) = some t by show chkF l t (parse t) = some t; rw [hp]; unfold chkF; dsimp only; rw [hall]; rfl] at hf
          subst hf
          clear hp hm HFO
          go_wp2_with fail
          refine (HP.out _ htl).mono ?_
          rintro e2 w1 ⟨v1, rfl, r1, q1⟩
          have HEQ1 := Lib.hid (HEQ.out m v1 w1 (next hwr.out q1) r1 HM.out)
          rw [hall] at HEQ1
          obtain ⟨vb1, _, _, vc1, rfl, -, -, -⟩ := r1
          dsimp only [SR.err, SR.at, SR.list] at *
          have HQ1 := Lib.hid q1
          clear hall q1 hcv
          go_wp2_with fail
          refine HEQ1.out.mono ?_
          rintro e2 w2 ⟨rfl, q2⟩
          have hcv := HC2.out _ (next HQ1.out q2)
          go_wp2_with fail
          go_ret2
          exact ⟨rfl, next hwr.out (next HQ1.out q2)⟩
        | false =>
          have hf := HFO.out
          rw [show fmtO l (some t) = none by show chkF l t (parse t) = none; rw [hp]; unfold chkF; dsimp only; rw [hall]; rfl] at hf
          subst hf
          clear hp hm HFO
          go_wp2_with fail
          refine (HP.out _ htl).mono ?_
          rintro e2 w1 ⟨v1, rfl, r1, q1⟩
          have HEQ1 := Lib.hid (HEQ.out m v1 w1 (next hwr.out q1) r1 HM.out)
          rw [hall] at HEQ1
          obtain ⟨vb1, _, _, vc1, rfl, -, -, -⟩ := r1
          dsimp only [SR.err, SR.at, SR.list] at *
          have HQ1 := Lib.hid q1
          clear hall q1
          go_wp2_with fail
          refine HEQ1.out.mono ?_
          rintro e2 w2 ⟨rfl, q2⟩
          go_wp2_with fail
          go_ret2
          exact ⟨rfl, next hwr.out (next HQ1.out q2)⟩
end Go.Proofs.YtcjgfleaoibdbaaDoor

namespace SS
open SC
def exI : I := ⟨⟨#[112, 111, 115, 116]⟩, ⟨#[112]⟩, [⟨⟨#[99, 101, 110, 116, 101, 114]⟩, [3, 4], 7⟩, ⟨⟨#[115, 105, 122, 101]⟩, [2], 18⟩], 0⟩
theorem ex1 : parse [112, 111, 115, 116, 32, 112, 32, 99, 101, 110, 116, 101, 114, 32, 51, 32, 52, 32, 115, 105, 122, 101, 32, 50, 59] = .ok [exI] := by kernel_rfl
theorem ex2 : parse [119, 97, 108, 108, 32, 119, 32, 109, 105, 114, 114, 111, 114, 59] = .bad 4 7 := by kernel_rfl
theorem ex3 : parse [112, 111, 115, 116, 32, 112, 32, 99, 101, 110, 116, 101, 114, 32, 51, 32, 52, 32, 115, 105, 122, 101, 32, 50, 59, 10] = .ok [exI] := by kernel_rfl
theorem ex4 : fmtC [exI] = some [112, 111, 115, 116, 32, 112, 32, 99, 101, 110, 116, 101, 114, 32, 51, 32, 52, 32, 115, 105, 122, 101, 32, 50, 59, 10] := by
  have h2 : Go.Lib.itoa 2 = [50] := by unfold Go.Lib.itoa; rw [if_neg (by decide), Go.Lib.decDigits_one (by decide)]; rfl
  have h3 : Go.Lib.itoa 3 = [51] := by unfold Go.Lib.itoa; rw [if_neg (by decide), Go.Lib.decDigits_one (by decide)]; rfl
  have h4 : Go.Lib.itoa 4 = [52] := by unfold Go.Lib.itoa; rw [if_neg (by decide), Go.Lib.decDigits_one (by decide)]; rfl
  have hk1 : keyT ⟨⟨#[99, 101, 110, 116, 101, 114]⟩, [3, 4], 7⟩ = [32, 99, 101, 110, 116, 101, 114, 32, 51, 32, 52] := by unfold keyT; simp only [valsT]; rw [h3, h4]; rfl
  have hk2 : keyT ⟨⟨#[115, 105, 122, 101]⟩, [2], 18⟩ = [32, 115, 105, 122, 101, 32, 50] := by unfold keyT; simp only [valsT]; rw [h2]; rfl
  have ha : appI [] exI = [112, 111, 115, 116, 32, 112, 32, 99, 101, 110, 116, 101, 114, 32, 51, 32, 52, 32, 115, 105, 122, 101, 32, 50, 59, 10] := by
    unfold appI exI
    simp only [appKeys]
    rw [hk1, hk2]
    kernel_rfl
  have hf : fmtF [] [exI] = some [112, 111, 115, 116, 32, 112, 32, 99, 101, 110, 116, 101, 114, 32, 51, 32, 52, 32, 115, 105, 122, 101, 32, 50, 59, 10] := by
    unfold fmtF
    rw [ha, if_neg (by decide)]
    rfl
  unfold fmtC
  rw [hf]
  show chkF [exI] [112, 111, 115, 116, 32, 112, 32, 99, 101, 110, 116, 101, 114, 32, 51, 32, 52, 32, 115, 105, 122, 101, 32, 50, 59, 10] (parse [112, 111, 115, 116, 32, 112, 32, 99, 101, 110, 116, 101, 114, 32, 51, 32, 52, 32, 115, 105, 122, 101, 32, 50, 59, 10]) = some [112, 111, 115, 116, 32, 112, 32, 99, 101, 110, 116, 101, 114, 32, 51, 32, 52, 32, 115, 105, 122, 101, 32, 50, 59, 10]
  rw [ex3]
  unfold chkF
  dsimp only
  rw [if_pos (by kernel_rfl)]
theorem exOk : ∀ x ∈ [exI], OkI x := by
  intro x hx
  obtain rfl : x = exI := by simpa using hx
  refine ⟨by decide, by decide, by decide, fun k hk => ?_⟩
  unfold exI at hk
  simp at hk
  rcases hk with rfl | rfl
  · exact ⟨by decide, by decide, fun n hn => by simp at hn; omega⟩
  · exact ⟨by decide, by decide, fun n hn => by simp at hn; omega⟩
theorem ar1 : arity ⟨#[102, 108, 105, 112, 112, 101, 114]⟩ ⟨#[114, 97, 110, 103, 101]⟩ = 2 := by kernel_rfl
theorem ar2 : arity ⟨#[119, 97, 108, 108]⟩ ⟨#[109, 105, 114, 114, 111, 114]⟩ = -1 := by kernel_rfl
theorem gv1 : getV ⟨#[99, 101, 110, 116, 101, 114]⟩ exI.keys = some [3, 4] := by kernel_rfl
end SS
namespace Go.Proofs.YtcjgfleaoibdbaaDoor
open Go.RowKit SC PB SS
set_option maxHeartbeats 8000000 in
set_option maxRecDepth 100000 in
theorem awake_any (w : World) (htab : Lib.TabBelow Tryd.prog w.heap.size w "internal/strconv.uint64pow10" .u64 Lib.pow10Tab) : Calls Tryd.prog 7 #[] w fun e w' => e = .returned (.bool true) ∧ Below w.heap.size w w' := by
  have HP1 := Lib.hid (fun W => parse_any ⟨#[112, 111, 115, 116, 32, 112, 32, 99, 101, 110, 116, 101, 114, 32, 51, 32, 52, 32, 115, 105, 122, 101, 32, 50, 59]⟩ W (by decide))
  have HP2 := Lib.hid (fun W => parse_any ⟨#[119, 97, 108, 108, 32, 119, 32, 109, 105, 114, 114, 111, 114, 59]⟩ W (by decide))
  rw [show parse (⟨#[112, 111, 115, 116, 32, 112, 32, 99, 101, 110, 116, 101, 114, 32, 51, 32, 52, 32, 115, 105, 122, 101, 32, 50, 59]⟩ : ByteArray).data.toList = .ok [exI] from ex1] at HP1
  rw [show parse (⟨#[119, 97, 108, 108, 32, 119, 32, 109, 105, 114, 114, 111, 114, 59]⟩ : ByteArray).data.toList = .bad 4 7 from ex2] at HP2
  have HF := Lib.hid (fun v W (h : RdI W v [exI]) (hb : Below w.heap.size w W) => format_any [exI] v W h exOk (by decide) (tab_mono htab hb hb.size))
  rw [ex4] at HF
  dsimp only [strO] at HF
  have HG := Lib.hid (fun z W (h : RdK W z exI.keys) => get_any exI z ⟨#[99, 101, 110, 116, 101, 114]⟩ W h (by decide) (fun k hk => (exOk exI List.mem_cons_self).same.2 k hk))
  rw [gv1] at HG
  have HA1 := Lib.hid (fun W => arity_any ⟨#[102, 108, 105, 112, 112, 101, 114]⟩ ⟨#[114, 97, 110, 103, 101]⟩ W)
  have HA2 := Lib.hid (fun W => arity_any ⟨#[119, 97, 108, 108]⟩ ⟨#[109, 105, 114, 114, 111, 114]⟩ W)
  rw [ar1] at HA1
  rw [ar2] at HA2
  clear htab
  go_enter Tryd.func7, Tryd.ntmps7
  go_wp2_with fail
  refine (HP1.out _).mono ?_
  rintro e w1 ⟨v1, rfl, r1, q1⟩
  have HR1 := Lib.hid (fun W (h : Below w1.heap.size w1 W) => r1.kept h)
  have HF1 := Lib.hid (fun W (h : Below w1.heap.size w1 W) => HF.out v1 W (r1.kept h) (next q1 h))
  obtain ⟨b1, g1, o1, c1, rfl, hb1, hl1, hk1⟩ := r1
  obtain rfl := hb1 (by decide)
  have hl1 := hl1 (by decide)
  obtain ⟨z1, hz1⟩ := hk1 0 exI rfl
  have HZ1 := Lib.hid (fun W (h : Below w1.heap.size w1 W) => hz1.kept h hl1)
  dsimp only [SR.err, SR.at, SR.list, List.length]
  clear hk1 hz1
  go_wp2_with fail
  refine (HP2.out _).mono ?_
  rintro e w2 ⟨v2, rfl, r2, q2⟩
  obtain ⟨b2, g2, o2, c2, rfl, -, -, -⟩ := r2
  dsimp only [SR.err, SR.at, SR.list, List.length]
  have qq := next q1 q2
  go_wp2_with fail
  refine (HF1.out _ q2).mono ?_
  rintro e w3 ⟨rfl, q3⟩
  have q13 := next q2 q3
  have qq3 := next qq q3
  obtain ⟨y0, y1, y2, y3, hk3⟩ := HZ1.out _ q13
  obtain ⟨zb, zn, zc, rfl⟩ := rdk_form hk3
  have HG3 := Lib.hid (HG.out _ _ hk3)
  have hl3 : g1 < w3.heap.size := Nat.lt_of_lt_of_le hl1 q13.size
  rw [Nat.zero_mul, Nat.add_zero] at y0 y1 y2 y3
  unfold iagg at HG3
  clear hk3
  go_wp2_with fail
  refine HG3.out.mono ?_
  rintro e w4 ⟨v4, rfl, r4, q4⟩
  obtain ⟨b4, g4, o4, c4, rfl, hb4, hl4, hk4⟩ := r4.form
  dsimp only [oV, List.length] at *
  obtain rfl := hb4 (by decide)
  have z4 := hk4 1 4 rfl
  have hl4 := hl4 (by decide)
  have qq4 := next qq3 q4
  clear r4 hk4
  go_wp2_with fail
  refine (HA1.out _).mono ?_
  rintro e w5 ⟨rfl, q5⟩
  go_wp2_with fail
  refine (HA2.out _).mono ?_
  rintro e w6 ⟨rfl, q6⟩
  go_wp2_with fail
  go_ret
  trace_state
  exact ⟨rfl, next (next qq4 q5) q6⟩
end Go.Proofs.YtcjgfleaoibdbaaDoor

namespace SS
open SC
def dr : List UInt8 := [100, 114, 97, 105, 110, 32, 100, 59]
def drs : Nat → List UInt8
  | 0 => []
  | n + 1 => dr ++ drs n
theorem drs_length : ∀ n, (drs n).length = 8 * n
  | 0 => rfl
  | n + 1 => by unfold drs; rw [List.length_append, drs_length n]; show 8 + _ = _; omega
/-- The three words at a place. -/
def dw (a : Nat) : List W := [⟨1, [100, 114, 97, 105, 110], 0, a⟩, ⟨1, [100], 0, a + 6⟩, ⟨3, [59], 0, a + 7⟩]
def dws : Nat → Nat → List W
  | 0, _ => []
  | n + 1, a => dw a ++ dws n (a + 8)
theorem step_word {l m : List UInt8} {a n s : Nat} {k v : Int} {acc : List W} {x : List UInt8} (h0 : skp false l = s) (hne : l.drop s ≠ []) (h1 : fst (l.drop s) = .ok k n v) (hk : ¬ (k = 2 ∧ nameLen ((l.drop s).drop n) ≠ 0)) (hx : (l.drop s).take n = x) (hm : (l.drop s).drop n = m) :
    wordsR l a acc = wordsR m (a + s + n) (acc ++ [⟨k, x, v, a + s⟩]) := by
  rw [wordsR_eq, h0, if_neg hne, h1]
  dsimp only
  rw [if_neg hk, hx, hm]
theorem words_dr (r : List UInt8) (a : Nat) (acc : List W) : wordsR (dr ++ r) a acc = wordsR r (a + 8) (acc ++ dw a) := by
  have e1 : wordsR (dr ++ r) a acc = wordsR (32 :: 100 :: 59 :: r) (a + 0 + 5) (acc ++ [⟨1, [100, 114, 97, 105, 110], 0, a + 0⟩]) := by
    refine step_word (s := 0) rfl (by simp [dr]) ?_ (fun h => absurd h.1 (by decide)) rfl rfl
    rfl
  have e2 : wordsR (32 :: 100 :: 59 :: r) (a + 0 + 5) (acc ++ [⟨1, [100, 114, 97, 105, 110], 0, a + 0⟩]) = wordsR (59 :: r) (a + 0 + 5 + 1 + 1) (acc ++ [⟨1, [100, 114, 97, 105, 110], 0, a + 0⟩] ++ [⟨1, [100], 0, a + 0 + 5 + 1⟩]) := by
    refine step_word (s := 1) rfl (by simp) ?_ (fun h => absurd h.1 (by decide)) rfl rfl
    rfl
  have e3 : wordsR (59 :: r) (a + 0 + 5 + 1 + 1) (acc ++ [⟨1, [100, 114, 97, 105, 110], 0, a + 0⟩] ++ [⟨1, [100], 0, a + 0 + 5 + 1⟩]) = wordsR r (a + 0 + 5 + 1 + 1 + 0 + 1) (acc ++ [⟨1, [100, 114, 97, 105, 110], 0, a + 0⟩] ++ [⟨1, [100], 0, a + 0 + 5 + 1⟩] ++ [⟨3, [59], 0, a + 0 + 5 + 1 + 1 + 0⟩]) := by
    refine step_word (s := 0) rfl (by simp) ?_ (fun h => absurd h.1 (by decide)) rfl rfl
    rfl
  rw [e1, e2, e3]
  simp [dw]
theorem words_drs : ∀ (n a : Nat) (acc : List W), wordsR (drs n) a acc = .ok (acc ++ dws n a)
  | 0, a, acc => by
    unfold drs dws
    rw [wordsR_eq, if_pos (by rfl), List.append_nil]
  | n + 1, a, acc => by
    unfold drs dws
    rw [words_dr, words_drs n, List.append_assoc]
def dI (a : Nat) : I := ⟨bs [100, 114, 97, 105, 110], bs [100], [], a⟩
theorem item_dr (sz : Int) (a : Nat) (t : List W) : itemP sz (dw a ++ t) = .ok (dI a) t := by
  have h1 : ¬ rowOf (bs [100, 114, 97, 105, 110]) = [] := by
    intro h
    have : (rowOf (bs [100, 114, 97, 105, 110])).length = 3 := by kernel_rfl
    rw [h] at this
    cases this
  have h2 : ¬ bs [100, 114, 97, 105, 110] = bTable := by decide
  show itemP sz (⟨1, [100, 114, 97, 105, 110], 0, a⟩ :: ⟨1, [100], 0, a + 6⟩ :: ⟨3, [59], 0, a + 7⟩ :: t) = _
  unfold itemP
  dsimp only
  rw [if_neg h1, if_neg h2, if_pos rfl, keysP_cons, if_pos rfl]
  rfl
theorem items_drs (sz : Int) : ∀ (n a : Nat) (acc : List I), acc.length + n ≤ 400 → ∃ r, itemsP sz acc (dws n a) = .ok r
  | 0, a, acc, _ => ⟨acc, rfl⟩
  | n + 1, a, acc, h => by
    obtain ⟨r, hr⟩ := items_drs sz n (a + 8) (acc ++ [dI a]) (by simp; omega)
    refine ⟨r, ?_⟩
    show itemsP sz acc (⟨1, [100, 114, 97, 105, 110], 0, a⟩ :: ([⟨1, [100], 0, a + 6⟩, ⟨3, [59], 0, a + 7⟩] ++ dws n (a + 8))) = _
    rw [itemsP_cons, if_neg (by omega)]
    show (match itemP sz (dw a ++ dws n (a + 8)) with | .bad e p => SR.bad e p | .ok x r => itemsP sz (acc ++ [x]) r) = _
    rw [item_dr]
    exact hr
theorem items_over (sz : Int) : ∀ (n a : Nat) (acc : List I), acc.length ≤ 400 → 400 < acc.length + n → itemsP sz acc (dws n a) = .bad 9 ((a + 8 * (400 - acc.length) : Nat) : Int)
  | 0, a, acc, h, h2 => by omega
  | n + 1, a, acc, h, h2 => by
    show itemsP sz acc (⟨1, [100, 114, 97, 105, 110], 0, a⟩ :: ([⟨1, [100], 0, a + 6⟩, ⟨3, [59], 0, a + 7⟩] ++ dws n (a + 8))) = _
    rw [itemsP_cons]
    by_cases h4 : acc.length = 400
    · rw [if_pos h4, h4]
      rfl
    · rw [if_neg h4]
      show (match itemP sz (dw a ++ dws n (a + 8)) with | .bad e p => SR.bad e p | .ok x r => itemsP sz (acc ++ [x]) r) = _
      rw [item_dr]
      show itemsP sz (acc ++ [dI a]) (dws n (a + 8)) = _
      rw [items_over sz n (a + 8) (acc ++ [dI a]) (by simp; omega) (by simp; omega)]
      congr 2
      simp
      omega
theorem parse_drs (n : Nat) (h : 8 * n ≤ 20000) : (n ≤ 400 → (parse (drs n)).err = 0) ∧ (400 < n → parse (drs n) = .bad 9 3200) := by
  have hw : words (drs n) = .ok (dws n 0) := by
    unfold words
    rw [if_neg (by rw [drs_length]; omega), words_drs]
    rfl
  refine ⟨fun h4 => ?_, fun h4 => ?_⟩
  · obtain ⟨r, hr⟩ := items_drs ((drs n).length : Int) n 0 [] (by simp; omega)
    unfold parse
    rw [hw]
    show (itemsP _ [] (dws n 0)).err = 0
    rw [hr]
    rfl
  · unfold parse
    rw [hw]
    show itemsP _ [] (dws n 0) = _
    rw [items_over _ n 0 [] (by simp) (by simp; omega)]
    rfl
def pst : List UInt8 := [112, 111, 115, 116, 32, 112, 32, 99, 101, 110, 116, 101, 114, 32, 51, 32, 52, 32, 115, 105, 122, 101, 32, 50, 59]
def cutB (c : Nat) : Bool := match parse (pst.take c) with
  | .ok l => decide (c = 0) && l.isEmpty
  | .bad e p => decide (c ≠ 0) && (decide (e = 4) && decide (p ≤ c))
theorem cuts : (List.range 25).all cutB = true := by kernel_rfl
theorem cut_at {c : Nat} (h : c < 25) : (c = 0 → parse (pst.take c) = .ok []) ∧ (c ≠ 0 → ∃ p : Int, parse (pst.take c) = .bad 4 p ∧ p ≤ c) := by
  have := List.all_eq_true.1 cuts c (List.mem_range.2 h)
  unfold cutB at this
  refine ⟨fun h0 => ?_, fun h0 => ?_⟩
  · subst h0
    kernel_rfl
  · split at this
    · simp [h0] at this
    · rename_i e p hp
      simp [h0] at this
      obtain ⟨rfl, h2⟩ := this
      exact ⟨p, hp, h2⟩
end SS

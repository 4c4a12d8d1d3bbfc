/-
  Format.
  The text of statements is read back as the same statements: the plain part.
-/
import Derived.Laws.BytesArg
import Derived.Test.YtdikoeeoglfmaaaGreatDoorM19
import Derived.Test.YtdikoeeoglfmaaaGreatDoorM20
namespace SS
open Go Go.RowKit PB SC
/-- The whole text, unless it is too long. -/
def fmtF (t : List UInt8) : List I → Option (List UInt8)
  | [] => some t
  | x :: l => if 20000 < (appI t x).length then none else fmtF (appI t x) l
def chkF (l : List I) (t : List UInt8) : SR → Option (List UInt8)
  | .ok m => if allB sameIB m l then some t else none
  | .bad _ _ => none
def fmtO (l : List I) : Option (List UInt8) → Option (List UInt8)
  | none => none
  | some t => chkF l t (parse t)
/-- What Format returns. -/
def fmtC (l : List I) : Option (List UInt8) := fmtO l (fmtF [] l)
def strO : Option (List UInt8) → ByteArray
  | some t => ⟨t.toArray⟩
  | none => ⟨#[]⟩
theorem fmtF_step {l : List I} {i : Nat} {x : I} {t : List UInt8} {r : Option (List UInt8)} (h : fmtF t (l.drop i) = r) (hx : l[i]? = some x) : (20000 < (appI t x).length → r = none) ∧ (¬ 20000 < (appI t x).length → fmtF (appI t x) (l.drop (i + 1)) = r) := by
  obtain ⟨hi, e⟩ := List.getElem?_eq_some_iff.1 hx
  rw [List.drop_eq_getElem_cons hi, e] at h
  unfold fmtF at h
  exact ⟨fun hh => by rw [if_pos hh] at h; exact h.symm, fun hh => by rw [if_neg hh] at h; exact h⟩
theorem fmtF_end {l : List I} {i : Nat} {t : List UInt8} {r : Option (List UInt8)} (h : fmtF t (l.drop i) = r) (hi : l.length ≤ i) : r = some t := by
  rw [List.drop_eq_nil_of_le hi] at h; exact h.symm
theorem strOfNums_bytes (t : List UInt8) : strOfNums (t.map fun b => (b.toNat : Int)) = ⟨t.toArray⟩ := by
  unfold strOfNums
  congr 2
  rw [List.map_map]
  have : (fun n : Int => UInt8.ofNat n.toNat) ∘ (fun b : UInt8 => (b.toNat : Int)) = id := by
    funext b; simp
  rw [this, List.map_id]
/-- A text of bytes that are owned. -/
theorem conv_own {P : Program} {w : World} {E src dst : TypeId} {N : Nat} {v : Value} {t : List UInt8} (hs : P.underlying src = some (.slice E)) (he : P.underlying E = some (.int .u8)) (hd : P.underlying dst = some .string) (h : OwnB E N w v t) : (convert src dst v).run P w = .ok (.string ⟨t.toArray⟩) w := by
  obtain ⟨base, b, off, c, rfl, h1, _, _, h4⟩ := own_rd h
  by_cases h0 : t.length = 0
  · obtain rfl := List.eq_nil_of_length_eq_zero h0
    cases base with
    | none => rw [run_convert_bytes_nil w src E hs he _ _ dst hd]; rfl
    | some a =>
      rw [run_convert_bytes_string w src dst E _ _ _ hs he hd]
      simp [Conv.bytesToString, loadCells, loadCellsFrom]
      try rfl
  · obtain rfl := h1 h0
    rw [run_convert_bytes_arg w src E hs he b off t.length c (t.map fun b => (b.toNat : Int)) (by simp) (fun i hi => ?_) dst hd, strOfNums_bytes]
    refine h4 i _ ?_
    unfold Lib.byteCells
    rw [List.getElem?_map, List.getElem?_eq_getElem hi, List.getD_eq_getElem?_getD, List.getElem?_map, List.getElem?_eq_getElem hi]
    rfl
end SS
namespace Go.Proofs.YtdikoeeoglfmaaaGreatDoor
open Go.RowKit SC PB SS
set_option maxHeartbeats 8000000 in
set_option maxRecDepth 100000 in
theorem format_any (l : List I) (v : Value) (w : World) (hr : RdI w v l) (hok : ∀ x ∈ l, OkI x) (hn : l.length ≤ 1000000) (htab : Lib.TabBelow Tryz.prog w.heap.size w "internal/strconv.uint64pow10" .u64 Lib.pow10Tab) :
    Calls Tryz.prog 6 #[v] w fun e w' => e = .returned (.tuple #[.string (strO (fmtC l)), .bool (fmtC l).isSome]) ∧ Below w.heap.size w w' := by
  have HEQ := Lib.hid (fun (m : List I) (u : Value) (W : World) (h : Below w.heap.size w W) (hu : RdI W u m) (hm : (∀ x ∈ m, IOk x) ∧ m.length ≤ 400) => eqfunc_items m l u v W hu (hr.kept h) (by omega) hn (fun x hx => (hm.1 x hx).ok.same) (fun x hx => (hok x hx).same))
  obtain ⟨base, b, off, c, rfl, h1, h2, h4⟩ := hr
  have HK := Lib.hid (fun W (h : Below w.heap.size w W) (i : Nat) (x : I) (hi : l[i]? = some x) => (show ∃ z, IAt W b (off + i * 4) x z ∧ RdK w z x.keys by
    obtain ⟨z, hz⟩ := h4 i x hi
    exact ⟨z, hz.kept h (h2 (by have := (List.getElem?_eq_some_iff.1 hi).1; omega)), hz.2.2.2.2⟩))
  have HB := Lib.hid h1
  have HL := Lib.hid h2
  have HX := Lib.hid (fun (k : Nat) (hk : k < l.length) => (⟨l[k], List.getElem?_eq_getElem hk, hok _ (List.getElem_mem hk)⟩ : ∃ x, l[k]? = some x ∧ OkI x))
  have HA := Lib.hid (fun (x : I) (z : Value) (t : List UInt8) (u : Value) (W : World) (h : Below w.heap.size w W) (ho : OwnB 5 w.heap.size W u t) (ht : t.length ≤ 20000) (hx : OkI x) (hz : RdK w z x.keys) => appitem_any x z t w.heap.size u w W h.size ho ht hx hz h (Nat.le_refl _) (htab.on h))
  have HPA := Lib.hid (fun (t : List UInt8) (W : World) (ht : t.length ≤ 20000) => (show Calls Tryz.prog 9 #[.string ⟨t.toArray⟩] W (RetS (parse t) W) from parse_any ⟨t.toArray⟩ W (by rw [size_mk]; omega)))
  have HCV := Lib.hid (fun (t : List UInt8) (u : Value) (W : World) (h : OwnB 5 w.heap.size W u t) => conv_own (P := Tryz.prog) Tryz.underlying42 Tryz.underlying5 Tryz.underlying9 h)
  generalize hR : fmtF [] l = R
  have HR0 := Lib.hid (show fmtF [] (l.drop 0) = R by rw [List.drop_zero]; exact hR)
  have hC : fmtC l = fmtO l R := by unfold fmtC; rw [hR]
  rw [hC]
  generalize hF : fmtO l R = FO
  have HFO := Lib.hid hF
  have hn' := hn
  have HST := Lib.hid (fun (i : Nat) (x : I) (t : List UInt8) (h : fmtF t (l.drop i) = R) (hx : l[i]? = some x) => fmtF_step h hx)
  have HE := Lib.hid (fun (i : Nat) (t : List UInt8) (h : fmtF t (l.drop i) = R) (hi : l.length ≤ i) => fmtF_end h hi)
  clear h1 h2 h4 htab hR hC hok hn hF
  generalize hnl : l.length = n at *
  clear hnl
  go_enter Tryz.func6, Tryz.ntmps6
  go_wp2_with fail
  go_loopw [4, 12] (fun tv i wr => ∃ (k : Nat) (t : List UInt8) (b : Option Addr) (c : Nat), k ≤ n ∧ i = .int .i64 k ∧ tv = .slice b t.length c ∧ Hid (OwnB 5 w.heap.size wr (.slice b t.length c) t) ∧ Hid (fmtF t (l.drop k) = R) ∧ Hid (Below w.heap.size w wr) ∧ t.length ≤ 20000) (fun _ i _ => n - (intOf i).toNat)
  case atStart => exact ⟨0, [], none, 0, Nat.zero_le _, rfl, rfl, Lib.hid (OwnB.nil _ _ _), HR0, Lib.hid (Below.refl _ _), Nat.zero_le _⟩
  case round =>
    clear HR0
    obtain ⟨k, t, tb, tc, hk, rfl, rfl, hO, hA, hwr, htl⟩ := hrel
    by_cases hkn : k < n
    · obtain rfl := HB.out (by omega)
      obtain ⟨x, hx, hox⟩ := HX.out k hkn
      obtain ⟨z, ⟨x0, x1, x2, x3, xr⟩, hz⟩ := HK.out _ hwr.out k x hx
      obtain ⟨zb, zn, zc, rfl⟩ := rdk_form xr
      obtain ⟨s1, s2⟩ := HST.out k x t hA.out hx
      have hlt : b < wr.heap.size := Nat.lt_of_lt_of_le (HL.out (by omega)) hwr.out.size
      have hap := HA.out x (.slice zb zn zc) t (.slice tb t.length tc) _ (sb_alloc hwr.out (.cells #[.string x.word, .string x.name, .slice zb zn zc, .int .i64 x.pos] 38)) (hO.out.kept (sb_alloc (Below.refl _ _) _)) htl hox hz
      generalize appI t x = t2 at *
      have HAP := Lib.hid hap
      clear hx hox xr hz hap hO hA
      unfold iagg at HAP
      by_cases hbig : 20000 < t2.length
      · have hbi : (20000 : Int) < t2.length := by omega
        have hV := s1 hbig
        subst hV
        have hf := HFO.out
        rw [show fmtO l none = none from rfl] at hf
        subst hf
        clear s1 s2 HFO
        go_wp2_with fail
        refine HAP.out.mono ?_
        rintro e w1 ⟨v1, rfl, o1, q1⟩
        obtain ⟨b1, c1, rfl⟩ := row_form o1
        go_wp2_with fail
        go_ret2
        exact ⟨rfl, (sb_alloc hwr.out _).trans q1⟩
      · have hbi : ¬ (20000 : Int) < t2.length := by omega
        have HS2 := Lib.hid (s2 hbig)
        clear s1 s2
        go_wp2_with fail
        refine HAP.out.mono ?_
        rintro e w1 ⟨v1, rfl, o1, q1⟩
        obtain ⟨b1, c1, rfl⟩ := row_form o1
        have HO1 := Lib.hid o1
        have HQ1 := Lib.hid ((sb_alloc hwr.out _).trans q1)
        clear o1 q1
        go_wp2_with fail
        go_roundw
        case rel => exact ⟨k + 1, t2, b1, c1, by omega, by go_num, rfl, HO1, HS2, HQ1, by omega⟩
        case measure => simp [intOf]; omega
    · have hV := HE.out k t hA.out (by omega)
      subst hV
      have hcv := HCV.out t _ _ hO.out
      have hcv2 := fun W (h : Below wr.heap.size wr W) => HCV.out t _ W (hO.out.kept h)
      have HC2 := Lib.hid hcv2
      have HP := Lib.hid (HPA.out t)
      clear hcv2
      cases hp : parse t with
      | bad e q =>
        rw [hp] at HP
        have hne := parse_ne hp
        have hne1 : ((e : Int) == 0) = false := beq_eq_false_iff_ne.2 hne
        have hne2 : ((e : Int) != 0) = true := by simp [bne, hne1]
        have hf := HFO.out
        rw [show fmtO l (some t) = none by show chkF l t (parse t) = none; rw [hp]; rfl] at hf
        subst hf
        clear hp hne hne1 HFO
        go_wp2_with fail
        refine (HP.out _ htl).mono ?_
        rintro e2 w1 ⟨v1, rfl, r1, q1⟩
        obtain ⟨_, _, _, _, rfl, -, -, -⟩ := r1
        dsimp only [SR.err, SR.at, SR.list]
        go_wp2_with fail
        go_ret2
        exact ⟨rfl, next hwr.out q1⟩
      | ok m =>
        rw [hp] at HP
        have hm := parse_ok hp
        have HM := Lib.hid hm
        have hz2 : ((0 : Int) != 0) = false := by decide
        cases hall : allB sameIB m l with
        | true =>
          have hf := HFO.out
          rw [show fmtO l (some t) = some t by show chkF l t (parse t) = some t; rw [hp]; unfold chkF; dsimp only; rw [hall]; rfl] at hf
          subst hf
          clear hp hm HFO
          go_wp2_with fail
          refine (HP.out _ htl).mono ?_
          rintro e2 w1 ⟨v1, rfl, r1, q1⟩
          have HEQ1 := Lib.hid (HEQ.out m v1 w1 (next hwr.out q1) r1 HM.out)
          rw [hall] at HEQ1
          obtain ⟨vb1, _, _, vc1, rfl, -, -, -⟩ := r1
          dsimp only [SR.err, SR.at, SR.list] at *
          have HQ1 := Lib.hid q1
          clear hall q1 hcv
          go_wp2_with fail
          refine HEQ1.out.mono ?_
          rintro e2 w2 ⟨rfl, q2⟩
          have hcv := HC2.out _ (next HQ1.out q2)
          go_wp2_with fail
          go_ret2
          exact ⟨rfl, next hwr.out (next HQ1.out q2)⟩
        | false =>
          have hf := HFO.out
          rw [show fmtO l (some t) = none by show chkF l t (parse t) = none; rw [hp]; unfold chkF; dsimp only; rw [hall]; rfl] at hf
          subst hf
          clear hp hm HFO
          go_wp2_with fail
          refine (HP.out _ htl).mono ?_
          rintro e2 w1 ⟨v1, rfl, r1, q1⟩
          have HEQ1 := Lib.hid (HEQ.out m v1 w1 (next hwr.out q1) r1 HM.out)
          rw [hall] at HEQ1
          obtain ⟨vb1, _, _, vc1, rfl, -, -, -⟩ := r1
          dsimp only [SR.err, SR.at, SR.list] at *
          have HQ1 := Lib.hid q1
          clear hall q1
          go_wp2_with fail
          refine HEQ1.out.mono ?_
          rintro e2 w2 ⟨rfl, q2⟩
          go_wp2_with fail
          go_ret2
          exact ⟨rfl, next hwr.out (next HQ1.out q2)⟩
end Go.Proofs.YtdikoeeoglfmaaaGreatDoor

namespace SS
open SC
/-- A word ends here. -/
def SepX (r : List UInt8) : Prop := r = [] ∨ ∃ c t, r = c :: t ∧ (c = 32 ∨ c = 59 ∨ c = 10)
theorem SepX.span0 {r : List UInt8} (h : SepX r) {p : UInt8 → Bool} (h1 : p 32 = false) (h2 : p 59 = false) (h3 : p 10 = false) : span p r = 0 := by
  rcases h with rfl | ⟨c, t, rfl, hc⟩
  · rfl
  · have : p c = false := by rcases hc with rfl | rfl | rfl <;> assumption
    show (if p c = true then _ else 0) = 0
    rw [this, if_neg Bool.false_ne_true]
theorem SepX.name0 {r : List UInt8} (h : SepX r) : nameLen r = 0 := by
  rcases h with rfl | ⟨c, t, rfl, hc⟩
  · rfl
  · rcases hc with rfl | rfl | rfl <;> rfl
theorem xspan_all {p : UInt8 → Bool} : ∀ {l r : List UInt8}, span p l = l.length → span p r = 0 → span p (l ++ r) = l.length
  | [], r, _, h => by simpa using h
  | c :: t, r, h, h2 => by
    unfold span at h
    show span p (c :: (t ++ r)) = _
    unfold span
    split at h
    · rename_i hc
      rw [if_pos hc, xspan_all (by simpa using h) h2]
      rfl
    · simp at h
theorem xdigs_append {l r : List UInt8} (h : l ≠ []) : digs (l ++ r) = digs l ++ r ∧ sgn (l ++ r) = sgn l ∧ (l ++ r).head? = l.head? := by
  cases l with
  | nil => exact absurd rfl h
  | cons c t =>
    unfold digs sgn
    by_cases hc : c = 45 <;> simp [hc]
theorem xnl_no {c : UInt8} {t : List UInt8} (h : ltr c ≠ true) : nameLen (c :: t) = 0 := by show (if ltr c = true then _ else 0) = _; rw [if_neg h]
theorem xnl_yes {c : UInt8} {t : List UInt8} (h : ltr c = true) : nameLen (c :: t) = span lod t + 1 := by show (if ltr c = true then _ else 0) = _; rw [if_pos h]
/-- A text that is one word. -/
def Wd (k : Int) (l : List UInt8) (v : Int) : Prop := fst l = .ok k l.length v ∧ l ≠ []
theorem wd_append {k v : Int} {l r : List UInt8} (h : Wd k l v) (hr : SepX r) : fst (l ++ r) = .ok k l.length v := by
  obtain ⟨hf, hne⟩ := h
  obtain ⟨ed, es, eh⟩ := xdigs_append (r := r) hne
  cases hl : l with
  | nil => exact absurd hl hne
  | cons c t =>
    rw [hl] at hf hne ed es eh
    by_cases hc : ltr c = true
    · have e1 := xnl_yes (t := t) hc
      unfold fst at hf
      rw [e1, if_pos (by omega)] at hf
      split at hf
      · rename_i h12
        obtain ⟨rfl, e2, rfl⟩ : 1 = k ∧ span lod t + 1 = (c :: t).length ∧ 0 = v := by injection hf with a b c; exact ⟨a, b, c⟩
        have e3 : nameLen ((c :: t) ++ r) = (c :: t).length := by
          show nameLen (c :: (t ++ r)) = _
          rw [xnl_yes hc, xspan_all (by simpa using e2) (hr.span0 (by decide) (by decide) (by decide))]; rfl
        unfold fst
        rw [e3, if_pos (by simp), if_pos (by omega)]
      · cases hf
    · have e1 := xnl_no (t := t) hc
      have e1' : nameLen ((c :: t) ++ r) = 0 := xnl_no (t := t ++ r) hc
      unfold fst at hf
      rw [e1, if_neg (by simp)] at hf
      split at hf
      · rename_i hn
        split at hf
        · rename_i hv
          obtain ⟨rfl, e2, rfl⟩ : 2 = k ∧ numLen (c :: t) = (c :: t).length ∧ numVal (c :: t) = v := by injection hf with a b c; exact ⟨a, b, c⟩
          have hs0 : span dgt (digs (c :: t)) ≠ 0 := by
            intro h0; unfold numLen at hn; rw [if_pos h0] at hn; exact hn rfl
          have hnl : numLen (c :: t) = sgn (c :: t) + span dgt (digs (c :: t)) := if_neg hs0
          have hdl := digs_length (c :: t)
          have hsp : span dgt (digs (c :: t)) = (digs (c :: t)).length := by omega
          have hsp2 : span dgt (digs ((c :: t) ++ r)) = (digs (c :: t)).length := by rw [ed]; exact xspan_all hsp (hr.span0 (by decide) (by decide) (by decide))
          have e3 : numLen ((c :: t) ++ r) = (c :: t).length := by
            have : numLen ((c :: t) ++ r) = sgn ((c :: t) ++ r) + span dgt (digs ((c :: t) ++ r)) := if_neg (by omega)
            rw [this, hsp2, es]; omega
          have e4 : numDig ((c :: t) ++ r) = numDig (c :: t) := by
            unfold numDig
            rw [hsp2, hsp, ed, List.take_left, List.take_length]
          have e5 : numVal ((c :: t) ++ r) = numVal (c :: t) := by unfold numVal; rw [eh, e4]
          unfold fst
          rw [e1', if_neg (by simp), e3, if_pos (by simp), e4, if_pos hv, e5]
        · cases hf
      · rename_i hn
        split at hf
        · rename_i h59
          obtain ⟨rfl, e2, rfl⟩ : 3 = k ∧ 1 = (c :: t).length ∧ 0 = v := by injection hf with a b c; exact ⟨a, b, c⟩
          obtain rfl : t = [] := List.eq_nil_of_length_eq_zero (by simpa using e2.symm)
          obtain rfl : c = 59 := by simpa using h59
          have e3 : numLen (([59] : List UInt8) ++ r) = 0 := by
            unfold numLen
            rw [ed]; exact if_pos rfl
          unfold fst
          rw [e1', if_neg (by simp), e3, if_neg (by simp)]
          rfl
        · cases hf
theorem wd_skip {k v : Int} {l r : List UInt8} (h : Wd k l v) : skp false (l ++ r) = 0 := by
  obtain ⟨hf, hne⟩ := h
  cases hl : l with
  | nil => exact absurd hl hne
  | cons c t =>
    rw [hl] at hf
    have hb : ∀ d : UInt8, (isBlank d = true ∨ d = 35) → c ≠ d := by
      rintro d hd rfl
      have h1 : ltr c ≠ true ∧ dgt c ≠ true ∧ c ≠ 45 ∧ c ≠ 59 := by
        rcases hd with hd | rfl
        · have : c = 32 ∨ c = 9 ∨ c = 10 := by simpa [isBlank, or_assoc] using hd
          rcases this with rfl | rfl | rfl <;> decide
        · decide
      unfold fst at hf
      have hn : numLen (c :: t) = 0 := by
        unfold numLen digs
        rw [if_neg (show ¬ (c :: t).head? = some 45 from fun e => h1.2.2.1 (Option.some.inj e))]
        have : span dgt (c :: t) = 0 := by show (if dgt c = true then _ else 0) = 0; rw [if_neg h1.2.1]
        rw [this, if_pos rfl]
      rw [xnl_no h1.1, if_neg (by simp), hn, if_neg (by simp), if_neg (show ¬ (c :: t).head? = some 59 from fun e => h1.2.2.2 (Option.some.inj e))] at hf
      cases hf
    show skp false (c :: (t ++ r)) = 0
    refine skp_none ?_ (fun e => hb 35 (.inr rfl) e)
    cases hbl : isBlank c with
    | false => rfl
    | true => exact absurd rfl (hb c (.inl hbl))
theorem w_step {k v : Int} {l r : List UInt8} (h : Wd k l v) (hr : SepX r) (a : Nat) (acc : List W) : wordsR (l ++ r) a acc = wordsR r (a + l.length) (acc ++ [⟨k, l, v, a⟩]) := by
  rw [wordsR_eq, wd_skip h, List.drop_zero, if_neg (by intro e; exact h.2 (List.append_eq_nil_iff.1 e).1), wd_append h hr]
  dsimp only
  rw [List.drop_left, List.take_left, hr.name0, if_neg (by rintro ⟨_, h⟩; exact h rfl), Nat.add_zero]
theorem b_step {c : UInt8} {l : List UInt8} (hc : isBlank c = true) (a : Nat) (acc : List W) : wordsR (c :: l) a acc = wordsR l (a + 1) acc :=
  wordsR_step (m := l) (k := 1) rfl (by rw [skp_blank hc, Nat.add_comm])
def NumW : List W → List Int → Prop
  | [], [] => True
  | y :: s, n :: t => y.kind = 2 ∧ y.num = n ∧ NumW s t
  | _, _ => False
theorem sepx_vals (vals : List Int) {r : List UInt8} (hr : SepX r) : SepX (valsT vals ++ r) := by
  cases vals with
  | nil => exact hr
  | cons n t => exact .inr ⟨32, _, rfl, .inl rfl⟩
theorem words_vals : ∀ (vals : List Int) (r : List UInt8) (a : Nat) (acc : List W), SepX r → (∀ n ∈ vals, -1073741824 ≤ n ∧ n ≤ 1073741824) → ∃ vs a', wordsR (valsT vals ++ r) a acc = wordsR r a' (acc ++ vs) ∧ NumW vs vals
  | [], r, a, acc, _, _ => ⟨[], a, by rw [List.append_nil]; rfl, trivial⟩
  | n :: t, r, a, acc, hr, hb => by
    have hn := hb n List.mem_cons_self
    have hne : Go.Lib.itoa n ≠ [] := by
      unfold Go.Lib.itoa
      split
      · simp
      · exact (dec_props n.toNat).2.2
    have hw : Wd 2 (Go.Lib.itoa n) n := ⟨fst_itoa hn, hne⟩
    obtain ⟨vs, a', e, hv⟩ := words_vals t r (a + 1 + (Go.Lib.itoa n).length) (acc ++ [⟨2, Go.Lib.itoa n, n, a + 1⟩]) hr (fun m hm => hb m (List.mem_cons_of_mem _ hm))
    refine ⟨⟨2, Go.Lib.itoa n, n, a + 1⟩ :: vs, a', ?_, rfl, rfl, hv⟩
    show wordsR (32 :: (Go.Lib.itoa n ++ valsT t ++ r)) a acc = _
    rw [b_step (by decide), List.append_assoc, w_step hw (sepx_vals t hr), e, List.append_assoc]
    rfl
/-- Keys that may follow those that are there. -/
def KWf (word : ByteArray) : List K → List K → Prop
  | _, [] => True
  | pre, k :: t => arityN word k.key = some k.vals.length ∧ hasKey pre k.key = false ∧ (∀ v ∈ k.vals, -1073741824 ≤ v ∧ v ≤ 1073741824) ∧ KWf word (pre ++ [k]) t
def wdB (s : ByteArray) : Bool := match fst s.data.toList with
  | .ok k n v => decide (k = 1) && (decide (n = s.data.toList.length) && (decide (v = 0) && decide (s.data.toList ≠ [])))
  | .bad _ => false
theorem wdB_wd {s : ByteArray} (h : wdB s = true) : Wd 1 s.data.toList 0 := by
  unfold wdB at h
  split at h
  · rename_i k n v hf
    simp at h
    obtain ⟨rfl, h2, rfl, h4⟩ := h
    exact ⟨by rw [hf, h2]; simp, by simpa using h4⟩
  · cases h
theorem tab_wd : (tab.all fun r => wdB r.1 && r.2.all fun q => wdB q.1) = true := by kernel_rfl
theorem row_wd {w : ByteArray} (h : rowOf w ≠ []) : Wd 1 w.data.toList 0 := by
  obtain ⟨r, hr, h1, _⟩ := rowIn_mem h
  have := List.all_eq_true.1 tab_wd r hr
  simp only [Bool.and_eq_true] at this
  rw [← h1]
  exact wdB_wd this.1
theorem look_some {l : List (ByteArray × Nat)} {k : ByteArray} {n : Nat} (h : look l k = some n) : ∃ q ∈ l, q.1 = k := by
  induction l with
  | nil => cases h
  | cons r t ih =>
    unfold look at h
    split at h
    · rename_i hr; exact ⟨r, List.mem_cons_self, hr⟩
    · obtain ⟨q, hq, h1⟩ := ih h
      exact ⟨q, List.mem_cons_of_mem _ hq, h1⟩
theorem key_wd {w k : ByteArray} {n : Nat} (h : arityN w k = some n) : Wd 1 k.data.toList 0 := by
  obtain ⟨q, hq, h1⟩ := look_some h
  have hne : rowIn tab w ≠ [] := by intro e; unfold rowOf at hq; rw [e] at hq; simp at hq
  obtain ⟨r, hr, _, h2⟩ := rowIn_mem hne
  unfold rowOf at hq
  rw [h2] at hq
  have := List.all_eq_true.1 tab_wd r hr
  simp only [Bool.and_eq_true] at this
  rw [← h1]
  exact wdB_wd (List.all_eq_true.1 this.2 q hq)
def keysT : List K → List UInt8
  | [] => []
  | k :: t => keyT k ++ keysT t
def KeysW : List W → List K → Prop
  | ws, [] => ws = []
  | ws, k :: t => ∃ y vs b, ws = y :: vs ++ b ∧ bs y.text = k.key ∧ NumW vs k.vals ∧ y.kind = 1 ∧ KeysW b t
theorem sepx_keys (ks : List K) {r : List UInt8} (hr : SepX r) : SepX (keysT ks ++ r) := by
  cases ks with
  | nil => exact hr
  | cons n t => exact .inr ⟨32, _, rfl, .inl rfl⟩
theorem bs_list (s : ByteArray) : bs s.data.toList = s := by unfold bs; cases s; simp
theorem words_keys (word : ByteArray) : ∀ (ks pre : List K) (r : List UInt8) (a : Nat) (acc : List W), SepX r → KWf word pre ks → ∃ ws a', wordsR (keysT ks ++ r) a acc = wordsR r a' (acc ++ ws) ∧ KeysW ws ks
  | [], pre, r, a, acc, _, _ => ⟨[], a, by rw [List.append_nil]; rfl, rfl⟩
  | k :: t, pre, r, a, acc, hr, hk => by
    obtain ⟨h1, h2, h3, h4⟩ := hk
    have hw := key_wd h1
    obtain ⟨vs, a1, e1, hv⟩ := words_vals k.vals (keysT t ++ r) (a + 1 + k.key.data.toList.length) (acc ++ [⟨1, k.key.data.toList, 0, a + 1⟩]) (sepx_keys t hr) h3
    obtain ⟨b, a2, e2, hb⟩ := words_keys word t (pre ++ [k]) r a1 (acc ++ [⟨1, k.key.data.toList, 0, a + 1⟩] ++ vs) hr h4
    refine ⟨⟨1, k.key.data.toList, 0, a + 1⟩ :: vs ++ b, a2, ?_, ⟨_, vs, b, rfl, bs_list _, hv, rfl, hb⟩⟩
    show wordsR (32 :: (k.key.data.toList ++ valsT k.vals) ++ keysT t ++ r) a acc = _
    rw [show (32 :: (k.key.data.toList ++ valsT k.vals) ++ keysT t ++ r) = 32 :: (k.key.data.toList ++ (valsT k.vals ++ (keysT t ++ r))) by simp]
    rw [b_step (by decide), w_step hw (sepx_vals _ (sepx_keys t hr)), e1, e2]
    simp
end SS

/-
  Joining words: the code.
-/
import Derived.Test.YtialbhllnhkkeaaDoorScFits
import Derived.Test.YtialbhllnhkkeaaDoorScBuild
import Derived.Test.YtialbhllnhkkeaaDoorScZ
import Derived.Deep.RegionHeld3
import Derived.Deep.QuietTactic
import Derived.BigQuiet
import Derived.IntWalk
namespace SC
open Go Go.RowKit PB
def sepB (first : Bool) (acc : List UInt8) : List UInt8 := if first then acc else acc ++ [32]
/-- The joined text of the words, behind acc; none if a word is none, or the text too long. -/
def joinF : List UInt8 → Bool → List W → Option (List UInt8)
  | acc, _, [] => some acc
  | acc, first, x :: t => if (sepB first acc).length + x.text.length ≤ 20000 ∧ fitB x.kind x.text x.num = true then joinF (sepB first acc ++ x.text) false t else none
def joinV : Option (List UInt8) → Value
  | some l => .tuple #[.string ⟨l.toArray⟩, .bool true]
  | none => .tuple #[.string ⟨#[]⟩, .bool false]
theorem joinF_go {acc : List UInt8} {first : Bool} {ws : List W} {k : Nat} {x : W} {r : Option (List UInt8)} (h : joinF acc first (ws.drop k) = r) (hx : ws[k]? = some x) (h1 : (sepB first acc).length + x.text.length ≤ 20000) (h2 : fitB x.kind x.text x.num = true) : joinF (sepB first acc ++ x.text) false (ws.drop (k + 1)) = r := by
  obtain ⟨hk, e⟩ := List.getElem?_eq_some_iff.1 hx
  rw [List.drop_eq_getElem_cons hk, e, joinF, if_pos ⟨h1, h2⟩] at h
  exact h
theorem joinF_no {acc : List UInt8} {first : Bool} {ws : List W} {k : Nat} {x : W} {r : Option (List UInt8)} (h : joinF acc first (ws.drop k) = r) (hx : ws[k]? = some x) (h1 : ¬ ((sepB first acc).length + x.text.length ≤ 20000 ∧ fitB x.kind x.text x.num = true)) : r = none := by
  obtain ⟨hk, e⟩ := List.getElem?_eq_some_iff.1 hx
  rw [List.drop_eq_getElem_cons hk, e, joinF, if_neg h1] at h
  exact h.symm
theorem joinF_end {acc : List UInt8} {first : Bool} {ws : List W} {k : Nat} {r : Option (List UInt8)} (h : joinF acc first (ws.drop k) = r) (hk : ¬ k < ws.length) : r = some acc := by
  rw [List.drop_eq_nil_of_le (by omega)] at h
  exact h.symm
theorem blk_others {e T : TypeId} {b : Nat} {w w' : World} {g : Nat} {cs : Array Value} (h : Lib.OthersKept e (some b) w w') (hb : w.heap[g]? = some (.cells cs T (0, 0))) (hg : g ≠ b) (hT : T ≠ e) : w'.heap[g]? = some (.cells cs T (0, 0)) :=
  h g _ hb (fun e => hg (Option.some.inj e)) (fun c fz e => by injection e with _ h2 _; exact hT h2)
theorem bld_drew {T e : TypeId} {B b : Nat} {l : List UInt8} {w : World} (h : Bld T e B b l w) : Bld T e B b l w.drew := h.imp (fun h => h) (fun h => h)
theorem bld_kept {T e : TypeId} {B b : Nat} {l : List UInt8} {w w' : World} (h : Bld T e B b l w) (hb : Below w.heap.size w w') : Bld T e B b l w' := by
  have key : ∀ p, Lib.BuilderAtF T e B b p (Lib.byteCells l) w → Lib.BuilderAtF T e B b p (Lib.byteCells l) w' := by
    rintro p ⟨hB, v, hh, hown, hne⟩
    have hlt : ∀ g o, w.heap[g]? = some o → w'.heap[g]? = some o := fun g o ho => by rw [hb.block g (Array.getElem?_eq_some_iff.1 ho).1]; exact ho
    refine ⟨hB, v, hlt _ _ hh, ⟨hown.1, ?_⟩, hne⟩
    rcases hown.2 with h | ⟨g, cap, cur, fz, hv, hg, hgh, r⟩
    · exact .inl h
    · exact .inr ⟨g, cap, cur, fz, hv, hg, hlt _ _ hgh, r⟩
  exact h.imp (key _) (key _)
theorem bld_lt {T e : TypeId} {B b : Nat} {l : List UInt8} {w : World} (h : Bld T e B b l w) : b < w.heap.size := h.elim (fun h => h.lt) (fun h => h.lt)
/-- A block and its type. -/
theorem blkT {w : World} {g : Nat} {cs : Array Value} {T : TypeId} (h : w.heap[g]? = some (.cells cs T (0, 0))) : Blk w g cs := ⟨T, h⟩
end SC
namespace Go.Proofs.YtialbhllnhkkeaaDoor
open Go.RowKit SC PB
theorem len_any (B b : Nat) (l : List UInt8) (w : World) (h : Bld 50 5 B b l w) :
    Calls Tryd.prog 23 #[.pointer (some ⟨b, 0, none⟩)] w fun e w' => e = .returned (.int .i64 l.length) ∧ w' = w :=
  (Tryd.Builder_Len_f B b _ w h).mono fun e w' ⟨he, hw⟩ => ⟨by rw [he, Lib.byteCells_length], hw⟩
set_option maxHeartbeats 16000000 in
set_option maxRecDepth 100000 in
theorem join_z (l : List (W × Int)) (ws : List W) (hws : l.map Prod.fst = ws) (base : Option Addr) (g off c : Nat) (w : World) (hn : ws.length ≤ 1000000) (h1 : ws.length ≠ 0 → base = some ⟨g, off, none⟩) (hr : ZRow w g off l) (hg : ws.length ≠ 0 → g < w.heap.size) (ht : ∀ (i : Nat) (x : W), ws[i]? = some x → x.text.length ≤ 1000000) :
    Calls Tryd.prog 14 #[.slice base ws.length c] w fun e w' => e = .returned (joinV (joinF [] true ws)) ∧ Below w.heap.size w w' := by
  have HB := Lib.hid h1
  have HR := Lib.hid hr
  have HG := Lib.hid hg
  have HT := Lib.hid ht
  have HX := Lib.hid (fun (k : Nat) (hk : k < ws.length) => (show ∃ z : W × Int, l[k]? = some z ∧ ws[k]? = some z.1 by
    have hk2 : k < l.length := by rw [← hws] at hk; simpa using hk
    exact ⟨l[k], List.getElem?_eq_getElem hk2, by rw [← hws, List.getElem?_map, List.getElem?_eq_getElem hk2]; rfl⟩))
  clear hws
  generalize hR : joinF [] true ws = R at *
  have HR0 := Lib.hid (show joinF [] (decide ((0 : Nat) = 0)) (ws.drop 0) = R by rw [List.drop_zero]; exact hR)
  have HE := Lib.hid (show ∀ (acc : List UInt8) (first : Bool) (k : Nat) (r : Option (List UInt8)), joinF acc first (ws.drop k) = r → ¬ k < ws.length → r = some acc from fun _ _ _ _ h hk => joinF_end h hk)
  generalize hN : ws.length = n at *
  clear h1 hr hg ht hR hN
  go_enter Tryd.func14, Tryd.ntmps14
  go_wp2_with fail
  go_loopw [9] (fun i wr => ∃ (k : Nat) (acc : List UInt8), k ≤ n ∧ i = .int .i64 k ∧ Hid (Bld 50 5 w.heap.size w.heap.size acc wr) ∧ Hid (Below w.heap.size w wr) ∧ Hid (joinF acc (decide (k = 0)) (ws.drop k) = R) ∧ Hid (acc.length ≤ 20000)) (fun i _ => n - (intOf i).toNat)
  case atStart => exact ⟨0, [], Nat.zero_le _, rfl, Lib.hid (Lib.IsBuilderF.of (Lib.fresh_isBuilder _ _ w)), Lib.hid ((Below.refl _ w).alloc (Nat.le_refl _) _), HR0, Lib.hid (by simp)⟩
  case round =>
    clear HR0
    obtain ⟨k, acc, hk, rfl, hI, hwr, hJ, hA⟩ := hrel
    by_cases hp : k < n
    · obtain rfl := HB.out (by omega)
      obtain ⟨⟨x, pz⟩, hz, hx⟩ := HX.out k hp
      obtain ⟨x0, x1, x2, x3⟩ := (HR.out k _ hz).kept hwr.out (HG.out (by omega))
      clear hz
      dsimp only at hx x0 x1 x2 x3
      have hlt : g < wr.heap.size := Nat.lt_of_lt_of_le (HG.out (by omega)) hwr.out.size
      have htx := HT.out k x hx
      have HGo := Lib.hid (fun h1 h2 => joinF_go hJ.out hx h1 h2)
      have HNo := Lib.hid (fun h1 => joinF_no hJ.out hx h1)
      clear hx
      obtain ⟨kd, T, v, p0⟩ := x
      obtain ⟨p, hpz⟩ : ∃ p : Int, pz = p := ⟨_, rfl⟩
      rw [hpz] at x3
      clear hpz
      dsimp only at x0 x1 x2 x3 htx HGo HNo
      have hTs : (⟨T.toArray⟩ : ByteArray).size = T.length := size_mk T
      have hTl : (⟨T.toArray⟩ : ByteArray).data.toList = T := rfl
      obtain ⟨TB, hTB⟩ : ∃ TB : ByteArray, (⟨T.toArray⟩ : ByteArray) = TB := ⟨_, rfl⟩
      rw [hTB] at hTs hTl x1
      rw [← hTl] at HGo HNo
      rw [← hTs] at htx
      have hTd : TB.data.toList.length = TB.size := by simp
      rw [hTd] at HGo HNo
      clear hTB hTs hTl hTd
      have hbsz : w.heap.size < wr.heap.size := bld_lt hI.out
      by_cases h0 : k = 0
      · subst h0
        simp only [Nat.zero_mul, Nat.add_zero] at x0 x1 x2 x3
        have hA2 : Hid (sepB (decide ((0 : Nat) = 0)) acc = acc) := Lib.hid rfl
        rw [hA2.out] at HGo HNo
        clear hA2
        have HAl := Lib.hid (show acc.length ≤ 20001 by have := hA.out; omega)
        go_wp2_with fail
        obtain ⟨gv, hgv⟩ : ∃ gv, wr.heap.size = gv := ⟨_, rfl⟩
        have hX : (wr.alloc (.cells #[.int .i64 kd, .string TB, .int .i64 v, .int .i64 p] 33)).heap[gv]? = some (.cells #[.int .i64 kd, .string TB, .int .i64 v, .int .i64 p] 33 (0, 0)) := by rw [← hgv]; exact heap_made _ _
        have hI1 := Lib.hid (Lib.IsBuilderF.alloc hI.out (.cells #[.int .i64 kd, .string TB, .int .i64 v, .int .i64 p] 33))
        have q1 := Lib.hid (sb_alloc hwr.out (.cells #[.int .i64 kd, .string TB, .int .i64 v, .int .i64 p] 33))
        have hgW : w.heap.size < gv := by omega
        rw [hgv]
        generalize World.alloc wr _ = W at *
        clear hgv x0 x1 x2 x3 hI hwr hlt hbsz
        obtain ⟨c0, c1, c2, c3⟩ := Blk4 (blkT hX)
        have hgl : gv < W.heap.size := (blkT hX).lt
        have HLen := Lib.hid (fun W' (h : Bld 50 5 w.heap.size w.heap.size acc W') => len_any w.heap.size w.heap.size acc W' h)
        have hal := HAl.out
        by_cases hbig : acc.length + TB.size ≤ 20000
        · have b1 : ¬ (20000 : Int) < (acc.length : Int) + TB.size := by omega
          have HFit := Lib.hid (fun W' => fits_any kd v p TB W' (by omega))
          have HB1 := Lib.hid hbig
          have hL1 := hI1.out
          have hL2 := bld_drew hI1.out
          generalize hfb : fitB kd TB.data.toList v = fb at *
          have hq : Below W.heap.size W W := Below.refl _ _
          have HKp := Lib.hid (fun (W' : World) (h : Below W.heap.size W W') => (Blk4 ((blkT hX).kept h) : _ ∧ _ ∧ _ ∧ _))
          clear hbig hfb
          go_wp2_with fail
          have hwrap : IntKind.i64.wrap ((acc.length : Int) + TB.size) = (acc.length : Int) + TB.size := IntWalk.i64_in _ (by omega)
          have hdec : decide ((20000 : Int) < (acc.length : Int) + TB.size) = false := by simp; omega
          go_region_held3 (fun w' => w'.cell? ⟨gv, 0, none⟩ = some (.int .i64 kd) ∧ w'.cell? ⟨gv, 1, none⟩ = some (.string TB) ∧ w'.cell? ⟨gv, 2, none⟩ = some (.int .i64 v) ∧ w'.cell? ⟨gv, 3, none⟩ = some (.int .i64 p))
            (first | exact ⟨c0, c1, c2, c3⟩ | exact HKp.out _ hq)
            (first
              | (go_at_call 24; (with_reducible refine (HFit.out _).mono ?_); rintro e x1 ⟨rfl, hx1⟩; have hq : Below W.heap.size W x1 := (by first | exact hq.trans (hx1.mono hq.size) | exact hq.trans (PB.below_undrew (hx1.mono hq.size))))
              | (go_at_call 23; (with_reducible refine (HLen.out _ (by first | exact hL1 | exact hL2)).mono ?_); rintro e x1 ⟨rfl, rfl⟩)
              | fail "no arm")
          all_goals
            have X2 := HKp.out _ hq
            obtain ⟨d0, d1, d2, d3⟩ := X2
            have q3 := Lib.hid (q1.out.trans (hq.mono q1.out.size))
            have hI3 := Lib.hid (bld_kept hI1.out hq)
            clear c0 c1 c2 c3 hq hwrap hdec hL1 hL2 HKp HFit HLen hX hx1 hgl
            cases fb
            · have HRn := Lib.hid (HNo.out (fun h => Bool.false_ne_true h.2))
              go_wp2_with fail
              go_ret2
              exact ⟨by rw [HRn.out]; rfl, q3.out⟩
            · have HG2 := Lib.hid (HGo.out HB1.out rfl)
              have HWS := Lib.hid (fun W' (h : Bld 50 5 w.heap.size w.heap.size acc W') (hs : w.heap.size ≤ W'.heap.size) => writeString_any w.heap.size w.heap.size acc TB W' h (by omega) (by omega) hs)
              have HLn := Lib.hid (show (acc ++ TB.data.toList).length ≤ 20000 by have := HB1.out; rw [List.length_append]; simp; omega)
              clear HGo HNo
              go_wp2_with fail
              refine (HWS.out _ hI3.out q3.out.size).mono ?_
              rintro e x2 ⟨rfl, hI4, hb4, _⟩
              have q4 := Lib.hid (q3.out.trans hb4)
              have hI5 := Lib.hid hI4
              clear hb4 hI4 d0 d1 d2 d3
              go_wp2_with fail
              go_roundw
              case rel => exact ⟨0 + 1, acc ++ TB.data.toList, by omega, by first | rfl | go_num, hI5, q4, HG2, HLn⟩
              case measure => simp [intOf]; omega
        · have b1 : (20000 : Int) < (acc.length : Int) + TB.size := by omega
          have HRn := Lib.hid (HNo.out (fun h => hbig h.1))
          clear hbig
          go_wp2_with fail
          go_quiet ((go_at_call 23; exact Calls.quiet_of_same (HLen.out _ hI1.out)))
          go_wp2_with fail
          go_ret2
          exact ⟨by rw [HRn.out]; rfl, PB.below_drewN q1.out _⟩
      · have hA2 : Hid (sepB (decide (k = 0)) acc = acc ++ [32]) := Lib.hid (by rw [decide_eq_false h0]; rfl)
        rw [hA2.out] at HGo HNo
        have HWB := Lib.hid (fun (W : World) (h : Bld 50 5 w.heap.size w.heap.size acc W) (hs : w.heap.size ≤ W.heap.size) => writeByte_any w.heap.size w.heap.size acc 32 W h (by have := hA.out; omega) hs)
        have HAl := Lib.hid (show (acc ++ [32]).length ≤ 20001 by have := hA.out; rw [List.length_append]; simp; omega)
        have hk0 : 0 < (k : Int) := by omega
        clear hA2
        have hI1 := Lib.hid (Lib.IsBuilderF.alloc hI.out (.cells #[.int .i64 kd, .string TB, .int .i64 v, .int .i64 p] 33))
        have q1 := Lib.hid (sb_alloc hwr.out (.cells #[.int .i64 kd, .string TB, .int .i64 v, .int .i64 p] 33))
        go_wp2_with fail
        refine (HWB.out _ hI1.out q1.out.size).mono ?_
        rintro e W ⟨rfl, hI2, hb2, hk2⟩
        obtain ⟨gv, hgv⟩ : ∃ gv, wr.heap.size = gv := ⟨_, rfl⟩
        have hX : W.heap[gv]? = some (.cells #[.int .i64 kd, .string TB, .int .i64 v, .int .i64 p] 33 (0, 0)) := blk_others hk2 (by rw [← hgv]; exact heap_made _ _) (by omega) (by decide)
        have q2 := Lib.hid (q1.out.trans hb2)
        have hgW : w.heap.size < gv := by omega
        clear hI1 q1 hb2 hk2 HWB h0
        have q1 := q2
        have hI1 := Lib.hid hI2
        rw [hgv]
        clear hgv x0 x1 x2 x3 hI hwr hlt hbsz q2 hI2
        generalize ha2 : acc ++ [32] = a2 at *
        clear ha2
        obtain ⟨c0, c1, c2, c3⟩ := Blk4 (blkT hX)
        have hgl : gv < W.heap.size := (blkT hX).lt
        have HLen := Lib.hid (fun W' (h : Bld 50 5 w.heap.size w.heap.size a2 W') => len_any w.heap.size w.heap.size a2 W' h)
        have hal := HAl.out
        by_cases hbig : a2.length + TB.size ≤ 20000
        · have b1 : ¬ (20000 : Int) < (a2.length : Int) + TB.size := by omega
          have HFit := Lib.hid (fun W' => fits_any kd v p TB W' (by omega))
          have HB1 := Lib.hid hbig
          have hL1 := hI1.out
          have hL2 := bld_drew hI1.out
          generalize hfb : fitB kd TB.data.toList v = fb at *
          have hq : Below W.heap.size W W := Below.refl _ _
          have HKp := Lib.hid (fun (W' : World) (h : Below W.heap.size W W') => (Blk4 ((blkT hX).kept h) : _ ∧ _ ∧ _ ∧ _))
          clear hbig hfb
          go_wp2_with fail
          have hwrap : IntKind.i64.wrap ((a2.length : Int) + TB.size) = (a2.length : Int) + TB.size := IntWalk.i64_in _ (by omega)
          have hdec : decide ((20000 : Int) < (a2.length : Int) + TB.size) = false := by simp; omega
          go_region_held3 (fun w' => w'.cell? ⟨gv, 0, none⟩ = some (.int .i64 kd) ∧ w'.cell? ⟨gv, 1, none⟩ = some (.string TB) ∧ w'.cell? ⟨gv, 2, none⟩ = some (.int .i64 v) ∧ w'.cell? ⟨gv, 3, none⟩ = some (.int .i64 p))
            (first | exact ⟨c0, c1, c2, c3⟩ | exact HKp.out _ hq)
            (first
              | (go_at_call 24; (with_reducible refine (HFit.out _).mono ?_); rintro e x1 ⟨rfl, hx1⟩; have hq : Below W.heap.size W x1 := (by first | exact hq.trans (hx1.mono hq.size) | exact hq.trans (PB.below_undrew (hx1.mono hq.size))))
              | (go_at_call 23; (with_reducible refine (HLen.out _ (by first | exact hL1 | exact hL2)).mono ?_); rintro e x1 ⟨rfl, rfl⟩)
              | fail "no arm")
          all_goals
            have X2 := HKp.out _ hq
            obtain ⟨d0, d1, d2, d3⟩ := X2
            have q3 := Lib.hid (q1.out.trans (hq.mono q1.out.size))
            have hI3 := Lib.hid (bld_kept hI1.out hq)
            clear c0 c1 c2 c3 hq hwrap hdec hL1 hL2 HKp HFit HLen hX hx1 hgl
            cases fb
            · have HRn := Lib.hid (HNo.out (fun h => Bool.false_ne_true h.2))
              go_wp2_with fail
              go_ret2
              exact ⟨by rw [HRn.out]; rfl, q3.out⟩
            · have HG2 := Lib.hid (HGo.out HB1.out rfl)
              have HWS := Lib.hid (fun W' (h : Bld 50 5 w.heap.size w.heap.size a2 W') (hs : w.heap.size ≤ W'.heap.size) => writeString_any w.heap.size w.heap.size a2 TB W' h (by omega) (by omega) hs)
              have HLn := Lib.hid (show (a2 ++ TB.data.toList).length ≤ 20000 by have := HB1.out; rw [List.length_append]; simp; omega)
              clear HGo HNo
              go_wp2_with fail
              refine (HWS.out _ hI3.out q3.out.size).mono ?_
              rintro e x2 ⟨rfl, hI4, hb4, _⟩
              have q4 := Lib.hid (q3.out.trans hb4)
              have hI5 := Lib.hid hI4
              clear hb4 hI4 d0 d1 d2 d3
              go_wp2_with fail
              go_roundw
              case rel => exact ⟨k + 1, a2 ++ TB.data.toList, by omega, by first | rfl | go_num, hI5, q4, HG2, HLn⟩
              case measure => simp [intOf]; omega
        · have b1 : (20000 : Int) < (a2.length : Int) + TB.size := by omega
          have HRn := Lib.hid (HNo.out (fun h => hbig h.1))
          clear hbig
          go_wp2_with fail
          go_quiet ((go_at_call 23; exact Calls.quiet_of_same (HLen.out _ hI1.out)))
          go_wp2_with fail
          go_ret2
          exact ⟨by rw [HRn.out]; rfl, PB.below_drewN q1.out _⟩
    · have HRn := Lib.hid (HE.out _ _ _ _ hJ.out hp)
      have HS := Lib.hid (fun W' (h : Lib.IsBuilderF 50 5 w.heap.size w.heap.size (Lib.byteCells acc) W') hs => Tryd.Builder_String_any_k w.heap.size w.heap.size acc W' h hs)
      go_wp2_with fail
      refine (HS.out _ hI.out hwr.out.size).mono ?_
      rintro e x1 ⟨rfl, _, hb1, _⟩
      go_wp2_with fail
      go_ret2
      exact ⟨by rw [HRn.out]; rfl, hwr.out.trans hb1⟩
theorem join_any (ws : List W) (base : Option Addr) (g c : Nat) (w : World) (hn : ws.length ≤ 1000000) (h1 : ws.length ≠ 0 → base = some ⟨g, 0, none⟩) (hr : WRow w g ws) (hg : ws.length ≠ 0 → g < w.heap.size) (ht : ∀ (i : Nat) (x : W), ws[i]? = some x → x.text.length ≤ 1000000) :
    Calls Tryd.prog 14 #[.slice base ws.length c] w fun e w' => e = .returned (joinV (joinF [] true ws)) ∧ Below w.heap.size w w' :=
  join_z (zOf ws) ws (zOf_fst ws) base g 0 c w hn h1 (zOf_row hr) hg ht
end Go.Proofs.YtialbhllnhkkeaaDoor

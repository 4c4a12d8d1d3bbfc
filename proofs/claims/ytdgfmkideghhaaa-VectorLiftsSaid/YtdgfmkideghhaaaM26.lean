/-
  integer.Text: the decimal digits of a number.
-/
import Derived.Lib.SmallJoins
import Derived.Deep.LoopGhost
import Derived.WalkSmall
import Derived.Laws.BytesArg
import Derived.Test.YtdgfmkideghhaaaM24
import Derived.Test.YtdgfmkideghhaaaM25
namespace PB
open Go Go.RowKit
def dcs (X m : Nat) : List Value := (List.range m).map fun i => .int .u8 (dch X i)
theorem dcs_length (X m : Nat) : (dcs X m).length = m := by simp [dcs]
theorem dcs_get {X m i : Nat} (h : i < m) : (dcs X m)[i]? = some (.int .u8 (dch X i)) := by simp [dcs, h]
theorem dcs_succ (X m : Nat) : dcs X (m+1) = dcs X m ++ [.int .u8 (dch X m)] := by simp [dcs, List.range_succ]
/-- The slice v owns the first m characters of X. -/
def OwnT (E : TypeId) (N : Nat) (w : World) (v : Value) (m X : Nat) : Prop := w.ownsRow N E 1 v m (dcs X m)
/-- 'out = append(out, x)', one value, behind a new block for it. -/
theorem hnews_one {w : World} {T : TypeId} {x : Value} : ∀ j u, ([x] : List Value)[j]? = some u → (w.alloc (.cells #[x] T)).cell? ((⟨w.heap.size, 0, none⟩ : Addr).add j) = some u := by
  intro j u hu
  obtain rfl : j = 0 := by have := (List.getElem?_eq_some_iff.1 hu).1; simpa using this
  simp at hu
  subst hu
  rw [Addr.add_lit]
  exact cell_new _ _ _ _ _ _ rfl rfl
/-- What is known of a world behind the beginning of Text. -/
structure TextInv (E : TypeId) (N g c : Nat) (w0 wr : World) (v : Value) (m Y X : Nat) : Prop where
  own : OwnT E N wr v m X
  num : Num wr g 0 (nl Y) Y
  free : Free wr g 0 (nl Y)
  below : Below g w0 wr
  cap : nl Y ≤ c
  lt : g < N
  ge : N ≤ wr.heap.size
theorem own_wr {E N g lo hi : Nat} {w w' : World} {v : Value} {m X : Nat} (h : OwnT E N w v m X) (hw : Wr w w' g lo hi) (hg : g < N) : OwnT E N w' v m X := by
  refine World.ownsRow.kept h (row := some g) ⟨hw.os, hw.tape, hw.output, by rw [hw.size]; exact Nat.le_refl _, fun k _ hne => hw.block k (fun e => hne (by rw [e]))⟩ ?_
  refine Or.inr fun e => ?_
  have := (World.ownsRow.lt h g e).1
  omega
/-- The slice of a row that is owned, and its bytes. -/
theorem own_byt {E : TypeId} {N m : Nat} {w : World} {v : Value} {xs : List Nat} (h : w.ownsRow N E 1 v m (xs.map fun (x : Nat) => Value.int .u8 (x : Int))) (hm : 0 < m) :
    ∃ q c, v = .slice (some ⟨q, 0, none⟩) m c ∧ N ≤ q ∧ m ≤ c ∧ q < w.heap.size ∧ Byt w q m (fun t => xs.getD t 0) := by
  obtain ⟨h1, h2⟩ := h
  rcases h2 with ⟨_, h0⟩ | ⟨g, cap, cur, hv, hg, hh, hn, hcap, hsz, htake⟩
  · omega
  · refine ⟨g, cap, hv, hg, hn, (Array.getElem?_eq_some_iff.1 hh).1, fun t ht => ⟨?_, ?_⟩⟩
    · have hlen : xs.length = m := by simpa using h1
      have e1 : (cur.toList.take (m * 1))[t]? = some (Value.int .u8 (xs.getD t 0)) := by
        rw [htake, List.getElem?_map, List.getElem?_eq_getElem (by omega)]
        simp [List.getD, List.getElem?_eq_getElem (show t < xs.length by omega)]
      rw [List.getElem?_take_of_lt (by omega), Array.getElem?_toList] at e1
      show World.cell? w ⟨g, t, none⟩ = _
      unfold World.cell?
      simp only [hh]
      exact e1
    · show World.frozen? w ⟨g, t, none⟩ = false
      unfold World.frozen?
      simp only [hh]
      simp
theorem dcs_map (X m : Nat) : dcs X m = ((List.range m).map (dch X)).map (fun x => Value.int .u8 (x : Nat)) := by simp [dcs]
theorem rev_getD (xs : List Nat) {m : Nat} (h : xs.length = m) {t : Nat} (ht : t < m) : xs.getD (m - 1 - t) 0 = xs.reverse.getD t 0 := by
  simp only [List.getD]
  rw [List.getElem?_reverse (by omega), h]
theorem text_conv {P : Program} {w : World} {q m cv : Nat} {xs : List Nat} {res : ByteArray} (src e : TypeId) (hs : P.underlying src = some (.slice e)) (he : P.underlying e = some (.int .u8)) (hx : xs.length = m) (h : Byt w q m (fun t => xs.getD (m - 1 - t) 0)) (hr : res = strOfNums (xs.reverse.map Int.ofNat)) :
    ∀ dst, P.underlying dst = some .string → (convert src dst (.slice (some ⟨q, 0, none⟩) m cv)).run P w = .ok (.string res) w := by
  rw [hr]
  refine run_convert_bytes_arg w src e hs he q 0 m cv _ (by simp [hx]) fun i hi => ?_
  rw [Nat.zero_add, (h i hi).1]
  show some (Value.int IntKind.u8 (xs.getD (m - 1 - i) 0 : Nat)) = _
  rw [rev_getD xs hx hi]
  simp only [List.getD, List.getElem?_map]
  rw [List.getElem?_eq_getElem (show i < xs.reverse.length by rw [List.length_reverse]; omega)]
  rfl
end PB
namespace Go.Proofs.Ytdgfmkideghhaaa
open Go.RowKit PB
theorem info5 : (Try.prog.info? 5).map (fun i => (i.zero, i.size, i.bytes)) = some (some (.int .u8 0), 1, 1) := by kernel_rfl

set_option maxHeartbeats 6400000 in
set_option maxRecDepth 100000 in
theorem text_any (s : Bool) (base : Option Addr) (b off n c X M : Nat) (w : World) (hb : n ≠ 0 → base = some ⟨b, off, none⟩) (hX : Num w b off n X) (hn : n ≤ c) (hl : n ≤ 1000000000)
    (hs : ¬ 256 < nl X) (h0 : X ≠ 0) (hM : IsND X M) (hM2 : M ≤ 3000) (res : ByteArray) (hres : res = strOfNums ((txt s X M).map Int.ofNat)) :
    Calls Try.prog 69 #[.agg #[.bool s, .slice base n c]] w fun e w' => e = .returned (.tuple #[.string res, .int .i64 0]) ∧ Below w.heap.size w w' := by
  have hnX := nl_le hX.lt
  have HB := Lib.hid hb
  have HR := Lib.hid hres
  have HMM := Lib.hid hM
  clear hb hres hM
  obtain ⟨i0, hi, hz0, hz1, hz2⟩ := info_parts info5
  go_enter Try.func69, Try.ntmps69
  go_wp2_with fail
  generalize hW : World.alloc _ _ = W
  have B0 : Blk W w.heap.size #[.bool s, .slice base n c] := by rw [← hW]; exact (blk_new rfl).alloc _
  have B1 : Blk W (w.heap.size + 1) #[.bool s, .slice base n c] := by rw [← hW]; exact blk_new (by simp)
  have hbW : Below w.heap.size w W := by rw [← hW]; exact ((Below.refl _ _).alloc (Nat.le_refl _) _).alloc (by simp) _
  have HS := Lib.hid (show W.heap.size = w.heap.size + 2 by rw [← hW]; simp)
  clear hW
  have call := large_one (w.heap.size + 1) s base b off n c X W (B1.cell 0 _ rfl) (B1.cell 1 _ rfl) HB.out (hX.kept hbW) hn (by omega)
  rw [decide_eq_false hs] at call
  refine call.mono ?_
  clear call
  rintro e w1 ⟨rfl, hb1⟩
  have hbw1 : Below w.heap.size w w1 := hbW.trans (hb1.mono (by have := HS.out; omega))
  have B0' := B0.kept hb1
  obtain ⟨a0, a1⟩ := Blk2 B0'
  have HS' := Lib.hid (show w.heap.size + 2 ≤ w1.heap.size by have := HS.out; have := hb1.size; omega)
  have hX1 := hX.kept hbw1
  clear B0 B1 hbW HS hb1
  go_wp2_with fail
  refine (duplicate_any base b off n c X w1 HB.out hX1 hn (by omega)).mono ?_
  rintro e w2 ⟨rfl, hF⟩
  have hbw2 : Below w.heap.size w w2 := hbw1.trans (hF.below.mono (by have := HS'.out; omega))
  have B2 := B0'.kept hF.below
  obtain ⟨g, hg⟩ : ∃ g, w1.heap.size = g := ⟨_, rfl⟩
  have HS2 := Lib.hid (show w.heap.size + 2 ≤ g by have := HS'.out; omega)
  have hinv : TextInv 5 w2.heap.size g (nl X) w2 w2 (.slice none 0 0) 0 X X := ⟨World.ownsRow_nil _ _ _ _, hg ▸ hF.num, hg ▸ hF.free, Below.refl _ _, Nat.le_refl _, hg ▸ hF.lt, Nat.le_refl _⟩
  have HG := Lib.hid (show g < w2.heap.size from hinv.lt)
  rw [hg]
  clear hg hF a0 a1 B0' HS' hX1 hbw1
  go_wp2_with fail
  obtain ⟨N, hN⟩ : ∃ N, w2.heap.size = N := ⟨_, rfl⟩
  rw [hN] at hinv
  have HN := Lib.hid hN
  clear hN
  obtain ⟨C, hC⟩ : ∃ C, nl X = C := ⟨_, rfl⟩
  have hinv2 : TextInv 5 N g C w2 w2 (.slice none 0 0) 0 X X := hC ▸ hinv
  have HCC := Lib.hid hC
  clear hinv hC
  go_loopg [4, 5] X (fun gk r v wr => ∃ j Y cp : Nat, gk = Y ∧ r = .slice (some ⟨g, 0, none⟩) (nl Y) cp ∧ Hid (Y = X / 10^(9*j)) ∧ 9 * j ≤ 2750 ∧ cp ≤ C ∧ TextInv 5 N g cp w2 wr v (9*j) Y X)
  case atStart => exact ⟨0, X, C, rfl, by rw [HCC.out], Lib.hid (by simp), by omega, Nat.le_refl _, hinv2⟩
  case round =>
    obtain ⟨j, Y, cp, hgk, rfl, hY, hj, hcp, hI⟩ := hrel
    have HGK := Lib.hid hgk
    clear hinv2 hgk
    by_cases hY0 : Y = 0
    · have hX0 : X < 10^(9*j) := by
        have h1 := hY.out
        rw [hY0] at h1
        exact (Nat.div_eq_zero_iff_lt (ten_pos _)).1 h1.symm
      subst hY0
      obtain ⟨m, hm⟩ : ∃ m, 9 * j = m := ⟨_, rfl⟩
      rw [hm] at hX0 hI
      have hm2 : m ≤ 2750 := by omega
      have hown := hI.own
      have hge := hI.ge
      have hlt := hI.lt
      have BA := B2.below hI.below (by have := HS2.out; omega)
      obtain ⟨ba0, ba1⟩ := Blk2 BA
      have hbr : Below w.heap.size w wr := hbw2.trans (hI.below.mono (by have := HS2.out; omega))
      have HWN := Lib.hid (show w.heap.size ≤ N by have := HS2.out; omega)
      clear hI hY hm hj hcp HGK HG B2 hbw2 HCC HS2 hnX
      rw [nl_zero]
      obtain ⟨W2, hWW⟩ : ∃ W2, wr = W2 := ⟨_, rfl⟩
      subst hWW
      have H3 := Lib.hid hX0
      have H4 := Lib.hid hown
      have H5 := Lib.hid hM2
      have H6 := Lib.hid hm2
      clear hX0 hown hM2 hm2
      go_wp2_with fail
      go_loopg [5] m (fun gk v w4 => ∃ mm : Nat, gk = mm ∧ w4 = wr ∧ Hid (X < 10^mm) ∧ Hid (OwnT 5 N wr v mm X) ∧ Hid (mm ≤ 2750))
      case atStart => exact ⟨m, rfl, rfl, H3, H4, H6⟩
      case round =>
        obtain ⟨mm, hgk0, rfl, hXl, hown, hmm⟩ := hrel
        have HGK := Lib.hid hgk0
        clear hgk0 H3 H4 H6
        have hpos : mm ≠ 0 := by
          rintro rfl
          have := hXl.out
          rw [Nat.pow_zero] at this
          omega
        obtain ⟨k, rfl⟩ : ∃ k, mm = k + 1 := ⟨mm - 1, by omega⟩
        obtain ⟨q, cv, rfl, hNq, hmc, hq, hbyt⟩ := own_byt (by have h1 := hown.out; unfold OwnT at h1; rw [dcs_map] at h1; exact h1) (Nat.succ_pos k)
        have ck := (hbyt k (by omega)).1
        have hge : ((List.range (k+1)).map (dch X)).getD k 0 = dch X k := by simp [List.getD]
        simp only [hge] at ck
        have hm27 := hmm.out
        clear hbyt hge hpos
        by_cases hd : dch X k = 48
        · rw [hd] at ck
          go_wp2_with fail
          go_roundg k
          case measure => have := HGK.out; omega
          case rel =>
            refine ⟨k, rfl, rfl, Lib.hid (strip_step hXl.out hd), Lib.hid ?_, Lib.hid (by omega)⟩
            have h1 := hown.out
            unfold OwnT at h1
            rw [dcs_succ] at h1
            exact ownsRow_pop (by rw [dcs_length]; omega) h1
        · have hMk : M = k + 1 := isND_unique HMM.out ⟨hXl.out, Or.inr hd⟩
          have hd2 : ¬ ((dch X k : Nat) : Int) = 48 := by omega
          have HMk := Lib.hid hMk
          have HD := Lib.hid hd
          clear hMk hd
          cases s with
          | false =>
            have hby := (own_byt (by have h1 := hown.out; unfold OwnT at h1; rw [dcs_map] at h1; exact h1) (Nat.succ_pos k) : ∃ q c, _)
            obtain ⟨q', cv', hv, _, _, _, hby⟩ := hby
            cases hv
            go_wp2_with (go_at_call 116; refine (reverse_any q (k+1) cv _ wr hby (by omega)).mono ?_; rintro e w5 ⟨rfl, hby5, hw5⟩)
            have hcv := @text_conv Try.prog w5 q (k+1) cv _ res 101 5 (by rfl) (by rfl) (by simp) hby5 (by rw [HR.out, HMk.out]; simp [txt])
            have hb5 : Below w.heap.size w w5 := hbr.trans (hw5.below (by have := HWN.out; omega))
            clear hby hby5 hw5 hbr
            go_wp2_with fail
            rw [hcv _ (by rfl)]
            go_wp2_with fail
            go_ret2
            exact ⟨rfl, hb5⟩
          | true =>
            have hown1 := hown.out
            unfold OwnT at hown1
            go_wp2_with (at_builtin; refine wpList_append_own _ rfl _ _ 101 rfl N 5 i0 (.int .u8 0) 1 1 Try.underlying101 hi hz0 hz1 hz2 rfl (by decide) _ (k + 1) _ rfl (World.ownsRow.alloc hown1 _) ⟨wr.heap.size, 0, none⟩ 1 1 [.int .u8 45] rfl rfl hnews_one ?c2 ?c3 ?c4 ?c5 ?_)
            case c2 => intro u hu; simp at hu; subst hu; rfl
            case c3 => unfold maxLen; omega
            case c4 => omega
            case c5 => simp; omega
            intro v' w4 hown4 hgrow _
            have hbn : Below N wr w4 := ((Below.refl N wr).alloc hge _).grown hgrow (by simp; omega) (fun q hq => (World.ownsRow.lt hown1 q hq).1)
            have hb4 : Below w.heap.size w w4 := hbr.trans (hbn.mono (by have := HWN.out; omega))
            have hby := (own_byt (xs := (List.range (k+1)).map (dch X) ++ [45]) (by rw [List.map_append, ← dcs_map]; exact hown4) (Nat.succ_pos (k+1)) : ∃ q c, _)
            obtain ⟨q', cv', rfl, _, _, _, hby⟩ := hby
            clear hown1 hown4 hgrow hbn hbr
            go_wp2_with (go_at_call 116; refine (reverse_any q' (k+1+1) cv' _ w4 hby (by omega)).mono ?_; rintro e w5 ⟨rfl, hby5, hw5⟩)
            have hcv := @text_conv Try.prog w5 q' (k+1+1) cv' _ res 101 5 (by rfl) (by rfl) (by simp) hby5 (by rw [HR.out, HMk.out]; simp [txt])
            have hb5 : Below w.heap.size w w5 := hb4.trans (hw5.below (by have := HWN.out; omega))
            clear hby hby5 hw5
            go_wp2_with fail
            rw [hcv _ (by rfl)]
            go_wp2_with fail
            go_ret2
            exact ⟨rfl, hb5⟩
    · have hnl : ¬ nl Y = 0 := fun e => hY0 (nl_eq_zero.1 e)
      have ht : (0 : Int) < nl Y := by omega
      have hj2 : 9 * j < 2731 := by
        refine digits_few (X := X) (b := 2731) (by decide) ?_ (by rw [← hY.out]; exact hY0)
        have := lt_nl X
        exact Nat.lt_of_lt_of_le this (pow_le (by omega))
      have hcp2 : nl Y ≤ cp := hI.cap
      have hgN : g < N := hI.lt
      have HCP := Lib.hid hcp2
      have hnlC : nl Y ≤ 1000000000 := by have := HCC.out; omega
      clear hY0 hcp2
      go_wp2_with fail
      refine (shorten_any (some ⟨g, 0, none⟩) g 0 (nl Y) cp Y 1000000000 wr (fun _ => rfl) hI.num hI.free (by decide) (by unfold B; decide) (by omega)).mono ?_
      rintro e w3 ⟨rfl, hq3, hw3⟩
      have hdivlt : nl (Y / 1000000000) ≤ nl Y := nl_mono (Nat.div_le_self _ _)
      go_wp2_with (go_at_call 75; refine (cut_any (some ⟨g, 0, none⟩) g 0 (nl Y) cp (Y / 1000000000) _ (fun _ => rfl) (by exact hq3) HCP.out (by omega)).mono ?_; rintro e w' ⟨rfl, rfl⟩)
      have hI3 : TextInv 5 N g (nl (Y / 1000000000)) w2 w3 u5 (9 * j + 0) (Y / 1000000000) X := ⟨own_wr hI.own hw3 hgN, hq3.fewer hdivlt (lt_nl _), fun i hi => (hw3.free hI.free) i (by omega), hI.below.trans (hw3.below (Nat.le_refl _)), Nat.le_refl _, hgN, by rw [hw3.size]; exact hI.ge⟩
      have hgk2 := HGK.out
      clear hI hq3 hw3 HGK
      have HGK := Lib.hid hgk2
      clear hgk2
      go_loopw [5, 6, 20] (fun v dd i wr => ∃ k D : Nat, k ≤ 9 ∧ D ≤ 4000000000 ∧ Hid (D = Y % 1000000000 / 10^k) ∧ dd = .int .u32 D ∧ i = .int .i64 k ∧ TextInv 5 N g (nl (Y / 1000000000)) w2 wr v (9 * j + k) (Y / 1000000000) X) (fun _ _ i _ => 9 - (intOf i).toNat)
      case atStart => exact ⟨0, Y % 1000000000, by omega, by omega, Lib.hid (by simp), rfl, rfl, hI3⟩
      case round =>
        clear hI3
        obtain ⟨k, D, hk, hD, hDe, rfl, rfl, hI⟩ := hrel
        have hgr := hI.ge
        by_cases hk9 : k = 9
        · have hY2 : Y / 1000000000 = X / 10^(9 * (j+1)) := by rw [hY.out, group_step, Nat.mul_add]
          have HY2 := Lib.hid hY2
          have HJ := Lib.hid (show 9 * j + 9 = 9 * (j + 1) by omega)
          subst hk9
          go_wp2_with fail
          go_roundg (Y / 1000000000)
          case measure => have h1 := HGK.out; have h2 : Y ≠ 0 := (fun e => hnl (by rw [e, nl_zero])); omega
          case rel => exact ⟨j + 1, Y / 1000000000, nl (Y / 1000000000), rfl, rfl, HY2, by omega, by have := HCP.out; omega, HJ.out ▸ hI⟩
        · have hk8 : k < 9 := by omega
          have i1 : (k : Int) < 9 := by omega
          have hch : (48 : Int) + (D : Int) % 10 = (dch X (9 * j + k) : Nat) := by
            unfold dch
            have h1 := hDe.out
            rw [hY.out] at h1
            have h2 := digit_in (X := X) (a := 9 * j) hk8
            rw [← h1] at h2
            omega
          clear hk9
          have hown := hI.own
          go_wp2_with (at_builtin; refine wpList_append_own _ rfl _ _ 101 rfl N 5 i0 (.int .u8 0) 1 1 Try.underlying101 hi hz0 hz1 hz2 rfl (by decide) _ (9 * j + k) _ rfl (World.ownsRow.alloc hown _) ⟨wr.heap.size, 0, none⟩ 1 1 [.int .u8 (dch X (9 * j + k))] rfl rfl hnews_one ?c2 ?c3 ?c4 ?c5 ?_)
          case c2 => intro u hu; simp at hu; subst hu; rfl
          case c3 => unfold maxLen; omega
          case c4 => omega
          case c5 => simp; omega
          intro v' w4 hown1 hgrow _
          have hbn : Below N wr w4 := ((Below.refl N wr).alloc hgr _).grown hgrow (by simp; omega) (fun q hq => (World.ownsRow.lt hown q hq).1)
          have hI4 : TextInv 5 N g (nl (Y / 1000000000)) w2 w4 v' (9 * j + (k + 1)) (Y / 1000000000) X := by
            refine ⟨?_, hI.num.below hbn (fun _ => hgN), hI.free.below hbn (fun _ => hgN), hI.below.trans (hbn.mono (Nat.le_of_lt hgN)), Nat.le_refl _, hgN, Nat.le_trans hgr hbn.size⟩
            show w4.ownsRow N _ 1 v' (9 * j + (k + 1)) (dcs X (9 * j + (k + 1)))
            rw [← Nat.add_assoc, dcs_succ]
            exact hown1
          clear hI hown hown1 hgrow hbn hch
          go_wp2_with fail
          go_roundw
          case rel => exact ⟨k + 1, D / 10, by omega, by omega, Lib.hid (by rw [hDe.out, Nat.div_div_eq_div_mul, ← Nat.pow_succ]), rfl, by go_num, hI4⟩
          case measure => simp [intOf]; omega
end Go.Proofs.Ytdgfmkideghhaaa

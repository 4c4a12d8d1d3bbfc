/-
  Lift: its loops.
-/
import Derived.Test.YtdgfmkideghhaaaM07
namespace VB
open Go Go.RowKit PB
theorem upd_yes {xx xy : Int} {s : Both} {best y : Int × Int} (h1 : Sm y.1 y.2) (h2 : s.al y.1 y.2 = true) (h3 : lexB (distI xx xy y.1 y.2) (distI xx xy best.1 best.2) (dotI y.1 y.2 y.1 y.2) (dotI best.1 best.2 best.1 best.2) = true) : upd xx xy s best y = y := if_pos ⟨h1, h2, h3⟩
theorem upd_no {xx xy : Int} {s : Both} {best y : Int × Int} (h : ¬ (Sm y.1 y.2 ∧ s.al y.1 y.2 = true ∧ lexB (distI xx xy y.1 y.2) (distI xx xy best.1 best.2) (dotI y.1 y.2 y.1 y.2) (dotI best.1 best.2 best.1 best.2) = true)) : upd xx xy s best y = best := if_neg h
/-- What is known of the best so far. -/
def Fine (xx xy : Int) (y : Int × Int) : Prop := Sm y.1 y.2 ∧ distI xx xy y.1 y.2 ≤ 9223372036854775807
theorem upd_fine {xx xy : Int} {s : Both} {best y : Int × Int} (h : Fine xx xy best) (hy : distI xx xy y.1 y.2 ≤ 9223372036854775807) : Fine xx xy (upd xx xy s best y) := by
  unfold upd
  split
  · rename_i k; exact ⟨k.1, hy⟩
  · exact h
theorem updN_fine {xx xy : Int} {s : Both} {best : Int × Int} {c : Nat → Int × Int} (h : Fine xx xy best) (hc : ∀ j, distI xx xy (c j).1 (c j).2 ≤ 9223372036854775807) : ∀ j, Fine xx xy (updN xx xy s best c j)
  | 0 => h
  | j + 1 => upd_fine (updN_fine h hc j) (hc j)
theorem dist_zero_fine {xx xy : Int} (hx : Sm xx xy) : Fine xx xy (0, 0) := by
  refine ⟨sm_zero, ?_⟩
  obtain ⟨a, b, c, d⟩ := hx
  have h1 := mul_bd (a := 0 - xx) (b := 0 - xx) (by omega) (by omega) (by omega) (by omega)
  have h2 := mul_bd (a := 0 - xy) (b := 0 - xy) (by omega) (by omega) (by omega) (by omega)
  show (0 - xx) * (0 - xx) + (0 - xy) * (0 - xy) ≤ _
  omega
theorem bestOf_fine {xx xy : Int} {s : Both} {f : Nat → Int × Int} {n : Nat} (hx : Sm xx xy) (hd : ∀ i, i < n → dotI xx xy (f i).1 (f i).2 < 0 → ∀ j, distI xx xy (cnd xx xy (f i).1 (f i).2 j).1 (cnd xx xy (f i).1 (f i).2 j).2 ≤ 9223372036854775807) :
    ∀ k, k ≤ n → Fine xx xy (bestOf xx xy s f k)
  | 0, _ => dist_zero_fine hx
  | k + 1, hk => by
    have ih := bestOf_fine (s := s) hx hd k (by omega)
    unfold bestOf
    split
    · exact ih
    · exact updN_fine ih (hd k (by omega) (by omega)) 4
theorem InLift.store {w wx : World} {px pr ps pb : Nat} {xx xy : Int} {s : Both} {best best' : Int × Int} (h : InLift w wx px pr ps pb xx xy s best) (hw : w.heap.size ≤ pb) (h1 : px ≠ pb) (h2 : pr ≠ pb) (h3 : ps ≠ pb) :
    InLift w ((wx.setCell ⟨pb, 0, none⟩ (.int .i64 best'.1)).setCell ⟨pb, 1, none⟩ (.int .i64 best'.2)) px pr ps pb xx xy s best' :=
  ⟨blk_oth2 h.x h1, blk_oth2 h.r h2, blk_oth2 h.s h3, blk_set2 h.b, (h.w.setCell hw _).setCell hw _⟩
end VB
namespace Go.Proofs.Ytdgfmkideghhaaa
open Go.RowKit PB VB
set_option maxRecDepth 100000 in
theorem cidx0 (a b c d e f g h : Int) (w : World) : (Instr.index 90 (arr4 a b c d e f g h) (.int .i64 0)).run Try.prog w = .ok (vec a b) w := by kernel_rfl
set_option maxRecDepth 100000 in
theorem cidx1 (a b c d e f g h : Int) (w : World) : (Instr.index 90 (arr4 a b c d e f g h) (.int .i64 1)).run Try.prog w = .ok (vec c d) w := by kernel_rfl
set_option maxRecDepth 100000 in
theorem cidx2 (a b c d e f g h : Int) (w : World) : (Instr.index 90 (arr4 a b c d e f g h) (.int .i64 2)).run Try.prog w = .ok (vec e f) w := by kernel_rfl
set_option maxRecDepth 100000 in
theorem cidx3 (a b c d e f g h : Int) (w : World) : (Instr.index 90 (arr4 a b c d e f g h) (.int .i64 3)).run Try.prog w = .ok (vec g h) w := by kernel_rfl
set_option maxRecDepth 100000 in
theorem cnd_idx (xx xy nx ny : Int) (j : Nat) (hj : j < 4) (w : World) :
    (Instr.index 90 (arr4 (-ny * crossI nx ny xx xy / dotI nx ny nx ny) (nx * crossI nx ny xx xy / dotI nx ny nx ny) (-ny * crossI nx ny xx xy / dotI nx ny nx ny) (cdiv (nx * crossI nx ny xx xy) (dotI nx ny nx ny)) (cdiv (-ny * crossI nx ny xx xy) (dotI nx ny nx ny)) (nx * crossI nx ny xx xy / dotI nx ny nx ny) (cdiv (-ny * crossI nx ny xx xy) (dotI nx ny nx ny)) (cdiv (nx * crossI nx ny xx xy) (dotI nx ny nx ny))) (.int .i64 (j : Int))).run Try.prog w = .ok (vec (cnd xx xy nx ny j).1 (cnd xx xy nx ny j).2) w := by
  have h : j = 0 ∨ j = 1 ∨ j = 2 ∨ j = 3 := by omega
  rcases h with rfl | rfl | rfl | rfl
  · exact cidx0 _ _ _ _ _ _ _ _ w
  · exact cidx1 _ _ _ _ _ _ _ _ w
  · exact cidx2 _ _ _ _ _ _ _ _ w
  · exact cidx3 _ _ _ _ _ _ _ _ w
set_option maxHeartbeats 40000000 in
set_option maxRecDepth 100000 in
theorem lift_main (xx xy : Int) (base : Option Addr) (b off n c : Nat) (f : Nat → Int × Int) (w : World) (hx : Sm xx xy) (hb : n ≠ 0 → base = some ⟨b, off, none⟩) (hlt : n ≠ 0 → b < w.heap.size) (hV : VSl w b off n f) (hn : n ≤ 1000000) (h : AllSm f n) (ha : (sidesOf f n).al xx xy = false)
    (hA : ∀ i, i < n → dotI xx xy (f i).1 (f i).2 < 0 → ArOK (-(f i).2) (crossI (f i).1 (f i).2 xx xy) (dotI (f i).1 (f i).2 (f i).1 (f i).2) ∧ ArOK (f i).1 (crossI (f i).1 (f i).2 xx xy) (dotI (f i).1 (f i).2 (f i).1 (f i).2))
    (hd : ∀ i, i < n → dotI xx xy (f i).1 (f i).2 < 0 → ∀ j, distI xx xy (cnd xx xy (f i).1 (f i).2 j).1 (cnd xx xy (f i).1 (f i).2 j).2 ≤ 9223372036854775807) :
    Calls Try.prog 61 #[vec xx xy, .slice base n c] w fun e w' => e = .returned (vec (bestOf xx xy (sidesOf f n) f n).1 (bestOf xx xy (sidesOf f n) f n).2) ∧ Below w.heap.size w w' := by
  have HV := Lib.hid hV
  have HC := Lib.hid (fun w' hl hv => contains_t base b off n c f w' hb hl hv (by omega) h)
  have HS := Lib.hid (fun w' hl hv => sides_any base b off n c f w' hb hl hv h (sides_sm h) hn)
  have hm := sides_sm h n (Nat.le_refl _)
  have HA := Lib.hid (fun w' => allow_any _ _ _ _ _ _ _ _ xx xy w' hx hm.a hm.b hm.c hm.d)
  have ha' : alB (sidesOf f n).u.fx (sidesOf f n).u.fy (sidesOf f n).u.lx (sidesOf f n).u.ly (sidesOf f n).d.fx (sidesOf f n).d.fy (sidesOf f n).d.lx (sidesOf f n).d.ly xx xy = false := ha
  rw [ha'] at HA
  have HL := Lib.hid hlt
  have HFine := Lib.hid (fun k hk => bestOf_fine (s := sidesOf f n) hx hd k hk)
  have HAR := Lib.hid hA
  have HDB := Lib.hid hd
  have HX := Lib.hid hx
  have HSm := Lib.hid h
  have HBS := Lib.hid hb
  have HM := Lib.hid hm
  clear hV hlt h hb ha ha' hm hd hA hx
  unfold Both.cells at HS
  generalize sidesOf f n = s at *
  obtain ⟨⟨a1, a2, a3, a4⟩, a5, a6, a7, a8⟩ := s
  dsimp only at HA HS
  go_enter Try.func61, Try.ntmps61
  go_wp2_with fail
  refine (great_t _ _ _ HX.out).mono ?_
  rintro e w1 ⟨rfl, hw1⟩
  have X1 := blk_prev hw1
  have R1 := blk_last2 hw1
  have q1 := in2 hw1
  clear hw1
  go_wp2_with fail
  refine (HC.out _ (fun h => Nat.lt_of_lt_of_le (HL.out h) q1.size) (HV.out.kept q1 HL.out)).mono ?_
  rintro e w2 ⟨rfl, hw2⟩
  have X2 := X1.kept hw2
  have R2 := R1.kept hw2
  have q2 := next q1 hw2
  clear hw2 R1 X1 q1
  go_wp2_with fail
  refine (HS.out _ (fun h => Nat.lt_of_lt_of_le (HL.out h) q2.size) (HV.out.kept q2 HL.out)).mono ?_
  rintro e w3 ⟨rfl, hw3⟩
  have X3 := X2.kept hw3
  have R3 := R2.kept hw3
  have q3 := next q2 hw3
  have z1 := X3.lt
  have z2 := R3.lt
  obtain ⟨x0, x1⟩ := Blk2 X3
  clear hw3 R2 X2 q2
  go_wp2_with fail
  refine (HA.out _).mono ?_
  rintro e w4 ⟨rfl, hw4⟩
  have X4 := blk_keep X3 hw4
  have R4 := blk_keep R3 hw4
  have S4 : Blk w4 w3.heap.size _ := (blk_new rfl).kept hw4
  have q4 := next1 q3 hw4
  obtain ⟨px, hpx⟩ : ∃ p, w.heap.size = p := ⟨_, rfl⟩
  obtain ⟨pr, hpr⟩ : ∃ p, w.heap.size + 1 = p := ⟨_, rfl⟩
  obtain ⟨ps, hps⟩ : ∃ p, w3.heap.size = p := ⟨_, rfl⟩
  rw [hpr, hpx, hps]
  rw [hpx] at X4
  rw [hpr] at R4
  rw [hps] at S4
  have HPX := Lib.hid hpx
  have HPR := Lib.hid hpr
  have HPS := Lib.hid (show pr < ps by omega)
  clear hw4 R3 X3 q3 z1 z2 x0 x1 hpx hpr hps HA HS HC
  go_wp2_with fail
  have HIN : Hid (InLift w (w4.alloc (.cells #[.int .i64 0, .int .i64 0] 41)) px pr ps w4.heap.size xx xy ⟨⟨a1, a2, a3, a4⟩, ⟨a5, a6, a7, a8⟩⟩ (0, 0)) :=
    Lib.hid ⟨X4.alloc _, R4.alloc _, S4.alloc _, blk_new rfl, next q4 ((Below.refl _ _).alloc (Nat.le_refl _) _)⟩
  have HPB := Lib.hid S4.lt
  clear X4 R4 S4 q4
  obtain ⟨pb, hpb⟩ : ∃ p, w4.heap.size = p := ⟨_, rfl⟩
  rw [hpb] at HIN HPB ⊢
  clear hpb
  generalize World.alloc w4 _ = W at *
  obtain ⟨S, hS⟩ : ∃ S : Both, (⟨⟨a1, a2, a3, a4⟩, ⟨a5, a6, a7, a8⟩⟩ : Both) = S := ⟨_, rfl⟩
  rw [hS] at HIN HFine HM
  have HMS := HM
  have HPW := Lib.hid (show w.heap.size ≤ pb by have := HPX.out; have := HPR.out; have := HPS.out; have := HPB.out; omega)
  have HD1 := Lib.hid (show px ≠ pb by have := HPX.out; have := HPR.out; have := HPS.out; have := HPB.out; omega)
  have HD2 := Lib.hid (show pr ≠ pb by have := HPX.out; have := HPR.out; have := HPS.out; have := HPB.out; omega)
  have HD3 := Lib.hid (show ps ≠ pb by have := HPX.out; have := HPR.out; have := HPS.out; have := HPB.out; omega)
  have HFin := Lib.hid (show bestOf xx xy ⟨⟨a1, a2, a3, a4⟩, ⟨a5, a6, a7, a8⟩⟩ f n = bestOf xx xy S f n by rw [hS])
  have HSE := Lib.hid hS
  clear hS
  go_loopw [29] (fun i wr => ∃ k : Nat, k ≤ n ∧ i = .int .i64 k ∧ Hid (InLift w wr px pr ps pb xx xy S (bestOf xx xy S f k))) (fun i _ => n - (intOf i).toNat)
  case atStart => exact ⟨0, Nat.zero_le _, rfl, HIN⟩
  case round =>
    obtain ⟨k, hk, rfl, hI⟩ := hrel
    by_cases hkn : k < n
    · obtain rfl := HBS.out (by omega)
      have HVr := Lib.hid (HV.out.kept hI.out.w HL.out)
      obtain ⟨c0, c1⟩ := HVr.out k hkn
      have hnm := HSm.out k hkn
      have hst : bestOf xx xy S f (k + 1) = if 0 ≤ dotI xx xy (f k).1 (f k).2 then bestOf xx xy S f k else updN xx xy S (bestOf xx xy S f k) (cnd xx xy (f k).1 (f k).2) 4 := rfl
      have hfk := HFine.out k hk
      have hak := HAR.out k hkn
      have hdk := HDB.out k hkn
      generalize (f k).1 = nx at *
      generalize (f k).2 = ny at *
      generalize bestOf xx xy S f k = best at *
      have HST := Lib.hid hst
      have HFK := Lib.hid hfk
      have HDT := Lib.hid (fun w => vdot_t xx xy nx ny w HX.out hnm)
      have HNM := Lib.hid hnm
      have z0 := hI.out.x.lt
      have z1 := hI.out.b.lt
      have z2 := hI.out.s.lt
      obtain ⟨x0, x1⟩ := Blk2 hI.out.x
      clear hst hfk hnm HVr
      have HK1 := Lib.hid (show k + 1 ≤ n by omega)
      have HK2 := Lib.hid (show n - (k + 1) < n - k by omega)
      by_cases hdot : 0 ≤ dotI xx xy nx ny
      · have HE : Hid (bestOf xx xy S f (k + 1) = best) := Lib.hid (HST.out.trans (if_pos hdot))
        clear hak hdk
        generalize dotI xx xy nx ny = d at *
        go_wp2_with fail
        refine (HDT.out _).mono ?_
        rintro e w5 ⟨rfl, hw5⟩
        have HI5 := Lib.hid (hI.out.kept (in1 hw5 : Below wr.heap.size wr w5))
        clear hw5 c0 c1 x0 x1 z0 z1 z2
        go_wp2_with fail
        go_roundw
        case rel => exact ⟨k + 1, HK1.out, by go_num, by rw [HE.out]; exact HI5⟩
        case measure => simp [intOf]; omega
      · have HE : Hid (bestOf xx xy S f (k + 1) = updN xx xy S best (cnd xx xy nx ny) 4) := Lib.hid (HST.out.trans (if_neg hdot))
        have hlt : dotI xx xy nx ny < 0 := by omega
        have HCA := Lib.hid (fun w => cand_any xx xy nx ny w HX.out HNM.out (hak hlt).1 (hak hlt).2)
        have HFI := Lib.hid (updN_fine (s := S) (c := cnd xx xy nx ny) HFK.out (hdk hlt))
        have HDD := Lib.hid (hdk hlt)
        have hix := fun j (hj : j < 4) w => cnd_idx xx xy nx ny j hj w
        have HIX := Lib.hid hix
        clear hak hdk hdot hix
        generalize dotI xx xy nx ny = d at *
        go_wp2_with fail
        refine (HDT.out _).mono ?_
        rintro e w5 ⟨rfl, hw5⟩
        have hn5 : Blk w5 wr.heap.size #[.int .i64 nx, .int .i64 ny] := (blk_new rfl).kept hw5
        have HI5 := Lib.hid (hI.out.kept (in1 hw5 : Below wr.heap.size wr w5))
        clear hw5 c0 c1 x0 x1 z0 z1 z2
        obtain ⟨x0, x1⟩ := Blk2 HI5.out.x
        obtain ⟨c0, c1⟩ := Blk2 hn5
        go_wp2_with fail
        refine (HCA.out _).mono ?_
        rintro e w6 ⟨rfl, hw6⟩
        have HI6 := Lib.hid (HI5.out.kept hw6)
        clear hw6 c0 c1 x0 x1 hn5 hI HI5
        generalize hq : arr4 _ _ _ _ _ _ _ _ = cs at *
        go_wp2_with fail
        have HIX2 := Lib.hid HIX.out
        have HQ := Lib.hid hq
        clear hq HIX
        have HI6' := HI6
        obtain ⟨wo, rfl⟩ : ∃ wo : World, wo = wr := ⟨_, rfl⟩
        go_loopw [40] (fun i wi => ∃ j : Nat, j ≤ 4 ∧ i = .int .i64 j ∧ Hid (InLift w wi px pr ps pb xx xy S (updN xx xy S best (cnd xx xy nx ny) j))) (fun i _ => 4 - (intOf i).toNat)
        case atStart => exact ⟨0, by omega, rfl, HI6'⟩
        case round =>
          obtain ⟨j, hj, rfl, hJ⟩ := hrel
          clear HI6 HI6'
          by_cases hj4 : j < 4
          · have IX := HIX2.out j hj4
            have hu : updN xx xy S best (cnd xx xy nx ny) (j + 1) = upd xx xy S (updN xx xy S best (cnd xx xy nx ny) j) (cnd xx xy nx ny j) := rfl
            have hfb := HFI.out j
            have hdy := HDD.out j
            have HJ1 := Lib.hid (show j + 1 ≤ 4 by omega)
            have HJ2 := Lib.hid (show 4 - (j + 1) < 4 - j by omega)
            generalize updN xx xy S best (cnd xx xy nx ny) j = B at *
            generalize cnd xx xy nx ny j = Y at *
            obtain ⟨yx, yy⟩ := Y
            obtain ⟨zx, zy⟩ := B
            dsimp only at IX hu hfb hdy
            have HFB := Lib.hid hfb
            have HDY := Lib.hid hdy
            clear hfb hdy
            have HU0 := Lib.hid hu
            clear hu
            have z0 := hJ.out.x.lt
            have z1 := hJ.out.b.lt
            have z2 := hJ.out.s.lt
            by_cases hs : Sm yx yy
            · go_wp2_with fail
              refine (vsmall_t yx yy _ hs).mono ?_
              rintro e w7 ⟨rfl, hw7⟩
              have Y7 : Blk w7 wr.heap.size #[.int .i64 yx, .int .i64 yy] := (blk_new rfl).kept hw7
              have HI7 := Lib.hid (hJ.out.kept (in1 hw7 : Below wr.heap.size wr w7))
              clear hw7 IX z0 z1 z2
              obtain ⟨y0, y1⟩ := Blk2 Y7
              obtain ⟨s0, s1, s2, s3, s4, s5, s6, s7⟩ := Blk8 HI7.out.s
              go_wp2_with fail
              refine (allow_any _ _ _ _ _ _ _ _ yx yy _ hs HMS.out.a HMS.out.b HMS.out.c HMS.out.d).mono ?_
              rintro e w8 ⟨rfl, hw8⟩
              have Y8 := Y7.kept hw8
              have HI8 := Lib.hid (HI7.out.kept hw8)
              clear hw8 Y7 HI7 y0 y1 s0 s1 s2 s3 s4 s5 s6 s7
              rw [show alB S.u.fx S.u.fy S.u.lx S.u.ly S.d.fx S.d.fy S.d.lx S.d.ly yx yy = S.al yx yy from rfl]
              cases hal : S.al yx yy with
              | true =>
                obtain ⟨y0, y1⟩ := Blk2 Y8
                obtain ⟨x0, x1⟩ := Blk2 HI8.out.x
                obtain ⟨b0, b1⟩ := Blk2 HI8.out.b
                have HAL := Lib.hid hal
                clear hal
                dsimp only at b0 b1
                go_wp2_with fail
                refine (better_any yx yy zx zy xx xy _ HX.out hs HFB.out.1 HDY.out HFB.out.2).mono ?_
                rintro e w9 ⟨rfl, hw9⟩
                have Y9 := Y8.kept hw9
                have HI9 := Lib.hid (HI8.out.kept hw9)
                clear hw9 Y8 HI8 y0 y1 x0 x1 b0 b1
                cases hbe : lexB (distI xx xy yx yy) (distI xx xy zx zy) (dotI yx yy yx yy) (dotI zx zy zx zy) with
                | true =>
                  have HU := Lib.hid (HU0.out.trans (upd_yes (y := (yx, yy)) hs HAL.out hbe))
                  clear hbe HU0
                  obtain ⟨y0, y1⟩ := Blk2 Y9
                  obtain ⟨b0, b1⟩ := Blk2 HI9.out.b
                  obtain ⟨f0, f1⟩ := Blk2f HI9.out.b
                  have hv := HI9.out
                  go_wp2_with fail
                  have HI10 := Lib.hid (hv.store (best' := (yx, yy)) HPW.out HD1.out HD2.out HD3.out)
                  clear hv
                  go_roundw
                  case rel => exact ⟨j + 1, HJ1.out, by go_num, by rw [HU.out]; exact HI10⟩
                  case measure => simp [intOf]; omega
                | false =>
                  have HU := Lib.hid (HU0.out.trans (upd_no (best := (zx, zy)) (y := (yx, yy)) (fun k => by have := k.2.2; rw [hbe] at this; cases this)))
                  clear hbe HU0
                  go_wp2_with fail
                  go_roundw
                  case rel => exact ⟨j + 1, HJ1.out, by go_num, by rw [HU.out]; exact HI9⟩
                  case measure => simp [intOf]; omega
              | false =>
                have HU := Lib.hid (HU0.out.trans (upd_no (best := (zx, zy)) (y := (yx, yy)) (fun k => by have := k.2.1; rw [hal] at this; cases this)))
                clear hal HU0
                go_wp2_with fail
                go_roundw
                case rel => exact ⟨j + 1, HJ1.out, by go_num, by rw [HU.out]; exact HI8⟩
                case measure => simp [intOf]; omega
            · have HU := Lib.hid (HU0.out.trans (upd_no (best := (zx, zy)) (y := (yx, yy)) (fun k => hs k.1)))
              clear HU0
              go_wp2_with fail
              refine (vsmall_f yx yy _ hs).mono ?_
              rintro e w7 ⟨rfl, hw7⟩
              have HI7 := Lib.hid (hJ.out.kept (in1 hw7 : Below wr.heap.size wr w7))
              clear hw7 IX z0 z1 z2
              go_wp2_with fail
              go_roundw
              case rel => exact ⟨j + 1, HJ1.out, by go_num, by rw [HU.out]; exact HI7⟩
              case measure => simp [intOf]; omega
          · obtain rfl : j = 4 := by omega
            clear hj4 hj
            go_wp2_with fail
            go_roundw
            case rel => exact ⟨k + 1, HK1.out, by go_num, by rw [HE.out]; exact hJ⟩
            case measure => simp [intOf]; omega
    · obtain rfl : k = n := by omega
      clear hkn hk
      obtain ⟨b0, b1⟩ := Blk2 hI.out.b
      obtain ⟨r0, r1⟩ := Blk2 hI.out.r
      obtain ⟨f0, f1⟩ := Blk2f hI.out.r
      have HPW2 := Lib.hid (show w.heap.size ≤ pr by have := HPR.out; omega)
      have HRB := hI.out.r
      have HWB := hI.out.w
      have HB9 := HFin
      generalize bestOf xx xy S f k = best at *
      go_wp2_with fail
      refine bodyPost_ret (blk_res rfl _ rfl (blk_set2 HRB) Try.underlying41 rfl (by rfl)) rfl ⟨by rw [HB9.out], (HWB.setCell HPW2.out _).setCell HPW2.out _⟩
end Go.Proofs.Ytdgfmkideghhaaa

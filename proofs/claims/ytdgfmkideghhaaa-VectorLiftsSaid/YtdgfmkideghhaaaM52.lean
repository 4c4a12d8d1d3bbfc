/-
  better of the reference.
  against of the reference.
-/
import Derived.Test.YtdgfmkideghhaaaM10
import Derived.Test.YtdgfmkideghhaaaM12
import Derived.Test.YtdgfmkideghhaaaM13
import Derived.Test.YtdgfmkideghhaaaM38
import Derived.Test.YtdgfmkideghhaaaM51
namespace VB
theorem bet_cmp {xx xy : Int} {y z : Int × Int} (h : PB.cmpi (distI xx xy z.1 z.2) (distI xx xy y.1 y.2) ≠ 0) : PB.cmpi (distI xx xy z.1 z.2) (distI xx xy y.1 y.2) = betI xx xy y z := by
  unfold PB.cmpi at h
  unfold PB.cmpi betI
  rcases Int.lt_trichotomy (distI xx xy z.1 z.2) (distI xx xy y.1 y.2) with k | k | k
  · rw [if_pos k, if_neg (by omega), if_pos k]
  · exfalso; apply h; rw [k, if_neg (Int.lt_irrefl _), if_neg (Int.lt_irrefl _)]
  · rw [if_neg (by omega), if_pos k, if_pos k]
theorem bet_len {xx xy : Int} {y z : Int × Int} (h : PB.cmpi (distI xx xy z.1 z.2) (distI xx xy y.1 y.2) = 0) : PB.cmpi (distI 0 0 z.1 z.2) (distI 0 0 y.1 y.2) = betI xx xy y z := by
  have e : ∀ a b : Int, distI 0 0 a b = dotI a b a b := fun a b => by unfold distI dotI; simp
  rw [e, e]
  have h0 : distI xx xy z.1 z.2 = distI xx xy y.1 y.2 := by
    unfold PB.cmpi at h
    split at h
    · omega
    · split at h <;> omega
  unfold PB.cmpi betI
  rw [h0, if_neg (Int.lt_irrefl _), if_neg (Int.lt_irrefl _)]
  rcases Int.lt_trichotomy (dotI z.1 z.2 z.1 z.2) (dotI y.1 y.2 y.1 y.2) with k | k | k
  · rw [if_pos k, if_neg (by omega), if_pos k]
  · rw [k, if_neg (Int.lt_irrefl _), if_neg (Int.lt_irrefl _), if_neg (Int.lt_irrefl _), if_neg (Int.lt_irrefl _)]
  · rw [if_neg (by omega), if_pos k, if_pos k]
end VB
namespace Go.Proofs.Ytdgfmkideghhaaa
open Go.RowKit PB VB
set_option maxHeartbeats 16000000 in
set_option maxRecDepth 100000 in
theorem rbetter_any (xx xy yx yy zx zy : Int) (w : World) (hx : Sm xx xy) (hy : Sm yx yy) (hz : Sm zx zy) :
    Calls Try.prog 111 #[vec xx xy, vec yx yy, vec zx zy] w fun e w' => e = .returned (.int .i64 (betI xx xy (yx, yy) (zx, zy))) ∧ Below w.heap.size w w' := by
  have S1 := Lib.hid (fun w => square_any zx zy xx xy w hz hx)
  have S2 := Lib.hid (fun w => square_any yx yy xx xy w hy hx)
  have S3 := Lib.hid (fun w => square_any zx zy 0 0 w hz sm_zero)
  have S4 := Lib.hid (fun w => square_any yx yy 0 0 w hy sm_zero)
  have E1 := Lib.hid (bet_cmp (xx := xx) (xy := xy) (y := (yx, yy)) (z := (zx, zy)))
  have E2 := Lib.hid (bet_len (xx := xx) (xy := xy) (y := (yx, yy)) (z := (zx, zy)))
  dsimp only at E1 E2
  clear hx hy hz
  generalize betI xx xy (yx, yy) (zx, zy) = Z at *
  generalize distI xx xy zx zy = a1 at *
  generalize distI xx xy yx yy = a2 at *
  generalize distI 0 0 zx zy = a3 at *
  generalize distI 0 0 yx yy = a4 at *
  go_enter Try.func111, Try.ntmps111
  go_upto_region 1 with fail
  generalize hW : World.alloc _ _ = W
  have B0 : Blk W w.heap.size #[.int .i64 xx, .int .i64 xy] := by rw [← hW]; exact ((blk_new rfl).alloc _).alloc _
  have B1 : Blk W (w.heap.size + 1) #[.int .i64 yx, .int .i64 yy] := by rw [← hW]; exact (blk_new (by simp)).alloc _
  have B2 : Blk W (w.heap.size + 1 + 1) #[.int .i64 zx, .int .i64 zy] := by rw [← hW]; exact blk_new (by simp)
  have HBW := Lib.hid (show Below w.heap.size w W by rw [← hW]; exact bs_alloc (bs_alloc (bs_alloc (Below.refl _ _) _) _) _)
  clear hW
  have HK := Lib.hid (show ∀ w1, Below W.heap.size W w1 → (w1.cell? ⟨w.heap.size, 0, none⟩ = some (.int .i64 xx) ∧ w1.cell? ⟨w.heap.size, 1, none⟩ = some (.int .i64 xy)) ∧ (w1.cell? ⟨w.heap.size + 1, 0, none⟩ = some (.int .i64 yx) ∧ w1.cell? ⟨w.heap.size + 1, 1, none⟩ = some (.int .i64 yy)) ∧ (w1.cell? ⟨w.heap.size + 1 + 1, 0, none⟩ = some (.int .i64 zx) ∧ w1.cell? ⟨w.heap.size + 1 + 1, 1, none⟩ = some (.int .i64 zy)) from
    fun w1 h => ⟨Blk2 (B0.kept h), Blk2 (B1.kept h), Blk2 (B2.kept h)⟩)
  have hq : Below W.heap.size W W := Below.refl _ _
  obtain ⟨⟨a0, a1'⟩, ⟨b0, b1⟩, e0, e1⟩ := HK.out _ hq
  clear B0 B1 B2
  go_cut [7] (fun s7 wx => s7 = .int .i64 (cmpi a1 a2) ∧ Hid (Below W.heap.size W wx))
  case first =>
    go_region_held3 (fun w' => (w'.cell? ⟨w.heap.size, 0, none⟩ = some (.int .i64 xx) ∧ w'.cell? ⟨w.heap.size, 1, none⟩ = some (.int .i64 xy)) ∧ (w'.cell? ⟨w.heap.size + 1, 0, none⟩ = some (.int .i64 yx) ∧ w'.cell? ⟨w.heap.size + 1, 1, none⟩ = some (.int .i64 yy)) ∧ (w'.cell? ⟨w.heap.size + 1 + 1, 0, none⟩ = some (.int .i64 zx) ∧ w'.cell? ⟨w.heap.size + 1 + 1, 1, none⟩ = some (.int .i64 zy)))
      (first | exact ⟨⟨a0, a1'⟩, ⟨b0, b1⟩, e0, e1⟩ | (refine HK.out _ ?_; (repeat (first | with_reducible assumption | with_reducible exact Below.refl _ _ | with_reducible refine bs_alloc ?_ _ | with_reducible refine bs_drew ?_ | (with_reducible refine bs_set ?_ ?_ _) | go_size))))
      (first
        | (go_at_call 37; (with_reducible refine (cmp_ref _ _ a1 a2 _ (by first | with_reducible exact HV1.out.int | with_reducible exact (HV1.out.drew).int | with_reducible exact (HV1.out.alloc _).int | with_reducible exact ((HV1.out.alloc _).drew).int | with_reducible exact ((HV1.out.drew).alloc _).int) (by first | with_reducible exact HV2.out.int | with_reducible exact (HV2.out.drew).int | with_reducible exact (HV2.out.alloc _).int | with_reducible exact ((HV2.out.alloc _).drew).int | with_reducible exact ((HV2.out.drew).alloc _).int)).mono ?_); rintro e w3 ⟨rfl, hx⟩; have hq : Below W.heap.size W w3 := (by first | (refine bs_trans ?_ hx; (repeat (first | with_reducible assumption | with_reducible exact Below.refl _ _ | with_reducible refine bs_alloc ?_ _ | with_reducible refine bs_drew ?_ | (with_reducible refine bs_set ?_ ?_ _) | go_size)); done) | (refine bs_trans ?_ (below_undrew hx); (repeat (first | with_reducible assumption | with_reducible exact Below.refl _ _ | with_reducible refine bs_alloc ?_ _ | with_reducible refine bs_drew ?_ | (with_reducible refine bs_set ?_ ?_ _) | go_size)); done)); clear hx)
        | (go_at_call 143; (with_reducible refine (S2.out _).mono ?_); rintro e w2 ⟨u2, rfl, hc, hx⟩; have HV1 := Lib.hid (HV1.out.kept (by first | (refine bs_trans ?_ hx; (repeat (first | with_reducible assumption | with_reducible exact Below.refl _ _ | with_reducible refine bs_alloc ?_ _ | with_reducible refine bs_drew ?_ | (with_reducible refine bs_set ?_ ?_ _) | go_size)); done) | (refine bs_trans ?_ (below_undrew hx); (repeat (first | with_reducible assumption | with_reducible exact Below.refl _ _ | with_reducible refine bs_alloc ?_ _ | with_reducible refine bs_drew ?_ | (with_reducible refine bs_set ?_ ?_ _) | go_size)); done))); have hq : Below W.heap.size W w2 := (by first | (refine bs_trans ?_ hx; (repeat (first | with_reducible assumption | with_reducible exact Below.refl _ _ | with_reducible refine bs_alloc ?_ _ | with_reducible refine bs_drew ?_ | (with_reducible refine bs_set ?_ ?_ _) | go_size)); done) | (refine bs_trans ?_ (below_undrew hx); (repeat (first | with_reducible assumption | with_reducible exact Below.refl _ _ | with_reducible refine bs_alloc ?_ _ | with_reducible refine bs_drew ?_ | (with_reducible refine bs_set ?_ ?_ _) | go_size)); done)); have gg2 := hq.size; have kk2 := hx.size; obtain ⟨s2, p2, n2, m2, rfl, hr⟩ := (canr_of hc).form; have HV2 := Lib.hid hr; clear hc hr hx)
        | (go_at_call 143; (with_reducible refine (S1.out _).mono ?_); rintro e w1 ⟨u1, rfl, hc, hx⟩; have hq : Below W.heap.size W w1 := (by first | (refine bs_trans ?_ hx; (repeat (first | with_reducible assumption | with_reducible exact Below.refl _ _ | with_reducible refine bs_alloc ?_ _ | with_reducible refine bs_drew ?_ | (with_reducible refine bs_set ?_ ?_ _) | go_size)); done) | (refine bs_trans ?_ (below_undrew hx); (repeat (first | with_reducible assumption | with_reducible exact Below.refl _ _ | with_reducible refine bs_alloc ?_ _ | with_reducible refine bs_drew ?_ | (with_reducible refine bs_set ?_ ?_ _) | go_size)); done)); have gg1 := hq.size; have kk1 := hx.size; obtain ⟨s1, p1, n1, m1, rfl, hr⟩ := (canr_of hc).form; have HV1 := Lib.hid hr; clear hc hr hx)
        | fail "no arm")
    all_goals
      go_wp2_with fail
      go_meet
      exact ⟨rfl, Lib.hid (by (repeat (first | with_reducible assumption | with_reducible exact Below.refl _ _ | with_reducible refine bs_alloc ?_ _ | with_reducible refine bs_drew ?_ | (with_reducible refine bs_set ?_ ?_ _) | go_size)))⟩
  case rest =>
    have hs := hcut
    clear hcut hq a0 a1' b0 b1 e0 e1 S1 S2
    obtain ⟨rfl, HW⟩ := hs
    by_cases hC : cmpi a1 a2 = 0
    case neg =>
      have HE := Lib.hid (E1.out hC)
      generalize cmpi a1 a2 = C at *
      have HB := Lib.hid (bs_trans HBW.out HW.out)
      clear E1 E2 HBW HW HK S3 S4
      go_wp2_with fail
      go_ret
      exact ⟨by rw [HE.out]; rfl, HB.out⟩
    case pos =>
      have HE := Lib.hid (E2.out hC)
      rw [hC]
      clear E1 E2 hC
      replace HK := Lib.hid (fun w1 (h : Below wc.heap.size wc w1) => HK.out w1 (bs_trans HW.out h))
      replace HBW := Lib.hid (bs_trans HBW.out HW.out)
      have hq : Below wc.heap.size wc wc := Below.refl _ _
      obtain ⟨⟨a0, a1'⟩, ⟨b0, b1⟩, e0, e1⟩ := HK.out _ hq
      clear HW
      go_upto_region 3 with fail
      go_region_held3 (fun w' => (w'.cell? ⟨w.heap.size, 0, none⟩ = some (.int .i64 xx) ∧ w'.cell? ⟨w.heap.size, 1, none⟩ = some (.int .i64 xy)) ∧ (w'.cell? ⟨w.heap.size + 1, 0, none⟩ = some (.int .i64 yx) ∧ w'.cell? ⟨w.heap.size + 1, 1, none⟩ = some (.int .i64 yy)) ∧ (w'.cell? ⟨w.heap.size + 1 + 1, 0, none⟩ = some (.int .i64 zx) ∧ w'.cell? ⟨w.heap.size + 1 + 1, 1, none⟩ = some (.int .i64 zy)))
        (first | exact ⟨⟨a0, a1'⟩, ⟨b0, b1⟩, e0, e1⟩ | (refine HK.out _ ?_; (repeat (first | with_reducible assumption | with_reducible exact Below.refl _ _ | with_reducible refine bs_alloc ?_ _ | with_reducible refine bs_drew ?_ | (with_reducible refine bs_set ?_ ?_ _) | go_size))))
        (first
          | (go_at_call 37; (with_reducible refine (cmp_ref _ _ a3 a4 _ (by first | with_reducible exact HV1.out.int | with_reducible exact (HV1.out.drew).int | with_reducible exact (HV1.out.alloc _).int | with_reducible exact ((HV1.out.alloc _).drew).int | with_reducible exact ((HV1.out.drew).alloc _).int) (by first | with_reducible exact HV2.out.int | with_reducible exact (HV2.out.drew).int | with_reducible exact (HV2.out.alloc _).int | with_reducible exact ((HV2.out.alloc _).drew).int | with_reducible exact ((HV2.out.drew).alloc _).int)).mono ?_); rintro e w3 ⟨rfl, hx⟩; have hq : Below wc.heap.size wc w3 := (by first | (refine bs_trans ?_ hx; (repeat (first | with_reducible assumption | with_reducible exact Below.refl _ _ | with_reducible refine bs_alloc ?_ _ | with_reducible refine bs_drew ?_ | (with_reducible refine bs_set ?_ ?_ _) | go_size)); done) | (refine bs_trans ?_ (below_undrew hx); (repeat (first | with_reducible assumption | with_reducible exact Below.refl _ _ | with_reducible refine bs_alloc ?_ _ | with_reducible refine bs_drew ?_ | (with_reducible refine bs_set ?_ ?_ _) | go_size)); done)); clear hx)
          | (go_at_call 143; (with_reducible refine (S4.out _).mono ?_); rintro e w2 ⟨u2, rfl, hc, hx⟩; have HV1 := Lib.hid (HV1.out.kept (by first | (refine bs_trans ?_ hx; (repeat (first | with_reducible assumption | with_reducible exact Below.refl _ _ | with_reducible refine bs_alloc ?_ _ | with_reducible refine bs_drew ?_ | (with_reducible refine bs_set ?_ ?_ _) | go_size)); done) | (refine bs_trans ?_ (below_undrew hx); (repeat (first | with_reducible assumption | with_reducible exact Below.refl _ _ | with_reducible refine bs_alloc ?_ _ | with_reducible refine bs_drew ?_ | (with_reducible refine bs_set ?_ ?_ _) | go_size)); done))); have hq : Below wc.heap.size wc w2 := (by first | (refine bs_trans ?_ hx; (repeat (first | with_reducible assumption | with_reducible exact Below.refl _ _ | with_reducible refine bs_alloc ?_ _ | with_reducible refine bs_drew ?_ | (with_reducible refine bs_set ?_ ?_ _) | go_size)); done) | (refine bs_trans ?_ (below_undrew hx); (repeat (first | with_reducible assumption | with_reducible exact Below.refl _ _ | with_reducible refine bs_alloc ?_ _ | with_reducible refine bs_drew ?_ | (with_reducible refine bs_set ?_ ?_ _) | go_size)); done)); have gg2 := hq.size; have kk2 := hx.size; obtain ⟨s2, p2, n2, m2, rfl, hr⟩ := (canr_of hc).form; have HV2 := Lib.hid hr; clear hc hr hx)
          | (go_at_call 143; (with_reducible refine (S3.out _).mono ?_); rintro e w1 ⟨u1, rfl, hc, hx⟩; have hq : Below wc.heap.size wc w1 := (by first | (refine bs_trans ?_ hx; (repeat (first | with_reducible assumption | with_reducible exact Below.refl _ _ | with_reducible refine bs_alloc ?_ _ | with_reducible refine bs_drew ?_ | (with_reducible refine bs_set ?_ ?_ _) | go_size)); done) | (refine bs_trans ?_ (below_undrew hx); (repeat (first | with_reducible assumption | with_reducible exact Below.refl _ _ | with_reducible refine bs_alloc ?_ _ | with_reducible refine bs_drew ?_ | (with_reducible refine bs_set ?_ ?_ _) | go_size)); done)); have gg1 := hq.size; have kk1 := hx.size; obtain ⟨s1, p1, n1, m1, rfl, hr⟩ := (canr_of hc).form; have HV1 := Lib.hid hr; clear hc hr hx)
          | fail "no arm")
      all_goals
        have HB := Lib.hid (bs_trans HBW.out hq)
        clear hq HK S3 S4
        go_wp2_with fail
        go_ret
        exact ⟨by rw [HE.out]; rfl, HB.out⟩
end Go.Proofs.Ytdgfmkideghhaaa

namespace Go.Proofs.Ytdgfmkideghhaaa
open Go.RowKit PB VB
set_option maxHeartbeats 4000000 in
set_option maxRecDepth 100000 in
theorem against_any (xx xy : Int) (base : Option Addr) (b off n c : Nat) (f : Nat → Int × Int) (w : World) (s : Bool) (hs : s = false ↔ Al (SetOf f n) (xx, xy)) (hb : n ≠ 0 → base = some ⟨b, off, none⟩) (hlt : n ≠ 0 → b < w.heap.size) (hV : VSl w b off n f) (hn : n ≤ 1000) (h : AllSm f n) (hx : Sm xx xy) :
    Calls Try.prog 109 #[vec xx xy, .slice base n c] w fun e w' => e = .returned (.bool s) ∧ Below w.heap.size w w' := by
  have HV := Lib.hid hV
  have HB := Lib.hid hb
  have HL := Lib.hid hlt
  have HS := Lib.hid h
  have HSB := Lib.hid hs
  have HX := Lib.hid hx
  have HD := Lib.hid (fun x y w hy => rdot_t xx xy x y w hx hy)
  clear hV hb hlt h hs hx
  go_enter Try.func109, Try.ntmps109
  go_wp2_with fail
  generalize hW : World.alloc _ _ = W
  have X1 : Blk W w.heap.size #[.int .i64 xx, .int .i64 xy] := by rw [← hW]; exact blk_new rfl
  have q1 : Below w.heap.size w W := by rw [← hW]; exact (Below.refl _ _).alloc (Nat.le_refl _) _
  have HX1 := Lib.hid X1
  have HQ1 := Lib.hid q1
  obtain ⟨px, hpx⟩ : ∃ p, w.heap.size = p := ⟨_, rfl⟩
  rw [hpx] at HX1 ⊢
  clear hW X1 q1 hpx
  go_loopw [5] (fun i wr => ∃ k : Nat, k ≤ n ∧ i = .int .i64 k ∧ Hid (∀ j, j < k → 0 ≤ dotI xx xy (f j).1 (f j).2) ∧ Hid (Below W.heap.size W wr)) (fun i _ => n - (intOf i).toNat)
  case atStart => exact ⟨0, Nat.zero_le _, rfl, Lib.hid (fun j hj => by omega), Lib.hid (Below.refl _ _)⟩
  case round =>
    obtain ⟨k, hk, rfl, hA, hwr⟩ := hrel
    have HBB := Lib.hid (next HQ1.out hwr.out)
    by_cases hkn : k < n
    · obtain rfl := HB.out (by omega)
      have hlt := Nat.lt_of_lt_of_le (HL.out (by omega)) HBB.out.size
      obtain ⟨c0, c1⟩ := (HV.out.kept HBB.out HL.out) k hkn
      obtain ⟨y0, y1⟩ := Blk2 (HX1.out.kept hwr.out)
      have hst : 0 ≤ dotI xx xy (f k).1 (f k).2 → ∀ j, j < k + 1 → 0 ≤ dotI xx xy (f j).1 (f j).2 := fun h j hj => by
        by_cases e : j = k
        · subst e; exact h
        · exact hA.out j (by omega)
      have hbad : dotI xx xy (f k).1 (f k).2 < 0 → true = s := fun h => by
        cases hs : s with
        | true => rfl
        | false =>
          have := HSB.out.1 hs (f k).1 (f k).2 ⟨k, hkn, rfl⟩
          dsimp only at this
          omega
      have HST := Lib.hid hst
      have HBAD := Lib.hid hbad
      have hsm := HS.out k hkn
      clear hst hbad
      generalize (f k).1 = x at *
      generalize (f k).2 = y at *
      have HDK := Lib.hid (fun w => HD.out x y w hsm)
      generalize dotI xx xy x y = d at *
      have HKS := Lib.hid (show ∀ w', Below wr.heap.size wr w' → (w'.cell? ⟨px, 0, none⟩ = some (.int .i64 xx) ∧ w'.cell? ⟨px, 1, none⟩ = some (.int .i64 xy)) ∧ (w'.cell? ⟨b, off + k * 2, none⟩ = some (.int .i64 x) ∧ w'.cell? ⟨b, off + k * 2 + 1, none⟩ = some (.int .i64 y)) from
        fun w' h => ⟨Blk2 ((HX1.out.kept hwr.out).kept h), (h.cell (p := ⟨b, off + k * 2, none⟩) hlt).trans c0, (h.cell (p := ⟨b, off + k * 2 + 1, none⟩) hlt).trans c1⟩)
      have hq : Below wr.heap.size wr wr := Below.refl _ _
      have i2 : (k : Int) < n := by omega
      have i3 : (0 : Int) ≤ k := by omega
      clear hlt hsm
      go_upto_region 4 with fail
      go_region_held3 (fun w' => (w'.cell? ⟨px, 0, none⟩ = some (.int .i64 xx) ∧ w'.cell? ⟨px, 1, none⟩ = some (.int .i64 xy)) ∧ (w'.cell? ⟨b, off + k * 2, none⟩ = some (.int .i64 x) ∧ w'.cell? ⟨b, off + k * 2 + 1, none⟩ = some (.int .i64 y)))
        (first | exact ⟨⟨y0, y1⟩, c0, c1⟩ | exact HKS.out _ hq)
        (first
          | (go_at_call 48; (with_reducible refine (HDK.out _).mono ?_); rintro e x1 ⟨rfl, hx1⟩; have hq : Below wr.heap.size wr x1 := (by first | exact hq.trans (hx1.mono hq.size) | exact hq.trans (below_undrew (hx1.mono hq.size))))
          | fail "no arm")
      have HQ2 := Lib.hid (hwr.out.trans (hq.mono hwr.out.size))
      clear hq hx1 c0 c1 y0 y1 HKS
      by_cases hd : d < 0
      · have E := Lib.hid (HBAD.out hd)
        go_wp2_with fail
        go_ret
        exact bret E.out (next HQ1.out HQ2.out)
      · have E := Lib.hid (HST.out (by omega))
        go_wp2_with fail
        go_roundw
        case rel => exact ⟨k + 1, by omega, by go_num, E, HQ2⟩
        case measure => simp [intOf]; omega
    · obtain rfl : k = n := by omega
      have E := Lib.hid (show false = s from (HSB.out.2 fun a b' ⟨i, hi, e⟩ => by
        have := hA.out i hi
        rw [e] at this
        exact this).symm)
      go_wp2_with fail
      go_ret
      exact bret E.out HBB.out
end Go.Proofs.Ytdgfmkideghhaaa

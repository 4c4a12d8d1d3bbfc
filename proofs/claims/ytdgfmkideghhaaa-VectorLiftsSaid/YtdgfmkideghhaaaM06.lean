/-
  sides: for each half of the directions the first and the last vector.
-/
import Derived.RegionTactic
import Derived.ChangeAlike
import Derived.Deep.DeepCutAuto
import Derived.Test.YtdgfmkideghhaaaM05
namespace VB
open Go Go.RowKit PB
/-- Vectors in memory. -/
def VSl (w : World) (b off n : Nat) (f : Nat → Int × Int) : Prop := ∀ i, i < n → w.cell? ⟨b, off + i * 2, none⟩ = some (.int .i64 (f i).1) ∧ w.cell? ⟨b, off + i * 2 + 1, none⟩ = some (.int .i64 (f i).2)
theorem VSl.kept {w w' : World} {b off n : Nat} {f : Nat → Int × Int} (h : VSl w b off n f) (hb : Below w.heap.size w w') (hlt : n ≠ 0 → b < w.heap.size) : VSl w' b off n f :=
  fun i hi => ⟨(hb.cell (p := ⟨b, off + i * 2, none⟩) (hlt (by omega))).trans (h i hi).1, (hb.cell (p := ⟨b, off + i * 2 + 1, none⟩) (hlt (by omega))).trans (h i hi).2⟩
/-- The first and the last of one half. -/
structure Half where
  fx : Int
  fy : Int
  lx : Int
  ly : Int
def Half.zero : Half := ⟨0, 0, 0, 0⟩
/-- One vector more. -/
def Half.step (p : Half) (x y : Int) : Half :=
  if p.fx = 0 ∧ p.fy = 0 then ⟨x, y, x, y⟩
  else ⟨if 0 < crossI x y p.fx p.fy then x else p.fx, if 0 < crossI x y p.fx p.fy then y else p.fy, if 0 < crossI p.lx p.ly x y then x else p.lx, if 0 < crossI p.lx p.ly x y then y else p.ly⟩
structure Both where
  u : Half
  d : Half
def lower (x y : Int) : Prop := y < 0 ∨ y = 0 ∧ x < 0
instance (x y : Int) : Decidable (lower x y) := by unfold lower; exact inferInstance
def Both.step (s : Both) (x y : Int) : Both := if lower x y then ⟨s.u, s.d.step x y⟩ else ⟨s.u.step x y, s.d⟩
def sidesOf (f : Nat → Int × Int) : Nat → Both
  | 0 => ⟨Half.zero, Half.zero⟩
  | k + 1 => (sidesOf f k).step (f k).1 (f k).2
/-- The block of the four vectors. -/
def Both.cells (s : Both) : Array Value := #[.int .i64 s.u.fx, .int .i64 s.u.fy, .int .i64 s.u.lx, .int .i64 s.u.ly, .int .i64 s.d.fx, .int .i64 s.d.fy, .int .i64 s.d.lx, .int .i64 s.d.ly]
theorem half_zero {fx fy lx ly : Int} (h : fx = 0 ∧ fy = 0) (x y : Int) : Half.step ⟨fx, fy, lx, ly⟩ x y = ⟨x, y, x, y⟩ := if_pos h
theorem half_not {fx fy lx ly : Int} (h : ¬ (fx = 0 ∧ fy = 0)) (x y : Int) : Half.step ⟨fx, fy, lx, ly⟩ x y = ⟨if 0 < crossI x y fx fy then x else fx, if 0 < crossI x y fx fy then y else fy, if 0 < crossI lx ly x y then x else lx, if 0 < crossI lx ly x y then y else ly⟩ := if_neg h
theorem cross_self (x y : Int) : crossI x y x y = 0 := by unfold crossI; rw [Int.mul_comm]; omega
/-- A half whose first vector is zero is as if it had been begun with the new one. -/
theorem half_step (fx fy lx ly x y : Int) : ∃ f1 g1 l1 k1 : Int, (f1 = if fx = 0 ∧ fy = 0 then x else fx) ∧ (g1 = if fx = 0 ∧ fy = 0 then y else fy) ∧ (l1 = if fx = 0 ∧ fy = 0 then x else lx) ∧ (k1 = if fx = 0 ∧ fy = 0 then y else ly) ∧
    Half.step ⟨fx, fy, lx, ly⟩ x y = ⟨if 0 < crossI x y f1 g1 then x else f1, if 0 < crossI x y f1 g1 then y else g1, if 0 < crossI l1 k1 x y then x else l1, if 0 < crossI l1 k1 x y then y else k1⟩ := by
  by_cases h : fx = 0 ∧ fy = 0
  · refine ⟨x, y, x, y, by rw [if_pos h], by rw [if_pos h], by rw [if_pos h], by rw [if_pos h], ?_⟩
    rw [half_zero h]; simp
  · exact ⟨fx, fy, lx, ly, by rw [if_neg h], by rw [if_neg h], by rw [if_neg h], by rw [if_neg h], half_not h x y⟩
/-- All four are small. -/
structure SmB (s : Both) : Prop where
  a : Sm s.u.fx s.u.fy
  b : Sm s.u.lx s.u.ly
  c : Sm s.d.fx s.d.fy
  d : Sm s.d.lx s.d.ly
theorem sm_zero : Sm 0 0 := ⟨by decide, by decide, by decide, by decide⟩
theorem sm_if {x y a b : Int} {p : Prop} [Decidable p] (h : Sm x y) (h' : Sm a b) : Sm (if p then x else a) (if p then y else b) := by
  by_cases hp : p
  · rw [if_pos hp, if_pos hp]; exact h
  · rw [if_neg hp, if_neg hp]; exact h'
theorem half_sm {p : Half} {x y : Int} (hf : Sm p.fx p.fy) (hl : Sm p.lx p.ly) (h : Sm x y) : Sm (p.step x y).fx (p.step x y).fy ∧ Sm (p.step x y).lx (p.step x y).ly := by
  obtain ⟨fx, fy, lx, ly⟩ := p
  by_cases hz : fx = 0 ∧ fy = 0
  · rw [half_zero hz]; exact ⟨h, h⟩
  · rw [half_not hz]; exact ⟨sm_if h hf, sm_if h hl⟩
theorem sides_sm {f : Nat → Int × Int} {n : Nat} (h : ∀ i, i < n → Sm (f i).1 (f i).2) : ∀ k, k ≤ n → SmB (sidesOf f k)
  | 0, _ => ⟨sm_zero, sm_zero, sm_zero, sm_zero⟩
  | k + 1, hk => by
    have ih := sides_sm h k (by omega)
    have hx := h k (by omega)
    show SmB (Both.step _ _ _)
    unfold Both.step
    split
    · obtain ⟨h1, h2⟩ := half_sm ih.c ih.d hx
      exact ⟨ih.a, ih.b, h1, h2⟩
    · obtain ⟨h1, h2⟩ := half_sm ih.a ih.b hx
      exact ⟨h1, h2, ih.c, ih.d⟩
/-- The state inside a round. -/
structure InRound (w wx : World) (g v r : Nat) (cs : Array Value) (x y : Int) : Prop where
  s : Blk wx g cs
  n : Blk wx v #[.int .i64 x, .int .i64 y]
  r : Blk wx r (Both.cells ⟨Half.zero, Half.zero⟩)
  b : Below w.heap.size w wx
theorem InRound.kept {w wx wy : World} {g v r : Nat} {cs : Array Value} {x y : Int} (h : InRound w wx g v r cs x y) (hb : Below wx.heap.size wx wy) : InRound w wy g v r cs x y :=
  ⟨h.s.kept hb, h.n.kept hb, h.r.kept hb, next h.b hb⟩
theorem InRound.put {w wx : World} {g v r : Nat} {cs : Array Value} {x y : Int} (h : InRound w wx g v r cs x y) (hg : w.heap.size ≤ g) (hv : v ≠ g) (hr : r ≠ g) (j : Nat) (u : Value) : InRound w (wx.setCell ⟨g, j, none⟩ u) g v r (cs.setIfInBounds j u) x y :=
  ⟨h.s.set j u, h.n.other u hv, h.r.other u hr, h.b.setCell hg u⟩
theorem InRound.drew {w wx : World} {g v r : Nat} {cs : Array Value} {x y : Int} (h : InRound w wx g v r cs x y) : InRound w wx.drew g v r cs x y :=
  ⟨h.s.drew, h.n.drew, h.r.drew, PB.below_drewN h.b 1⟩
end VB
namespace Go.Proofs.Ytdgfmkideghhaaa
open Go.RowKit PB VB
set_option maxHeartbeats 40000000 in
set_option maxRecDepth 100000 in
theorem sides_any (base : Option Addr) (b off n c : Nat) (f : Nat → Int × Int) (w : World) (hb : n ≠ 0 → base = some ⟨b, off, none⟩) (hlt : n ≠ 0 → b < w.heap.size) (hV : VSl w b off n f) (hs : ∀ i, i < n → Sm (f i).1 (f i).2) (hP : ∀ i, i ≤ n → SmB (sidesOf f i)) (hn : n ≤ 1000000) :
    Calls Try.prog 105 #[.slice base n c] w fun e w' => e = .returned (.agg (sidesOf f n).cells) ∧ Below w.heap.size w w' := by
  have HV := Lib.hid hV
  have HS := Lib.hid hs
  have HB := Lib.hid hb
  have HL := Lib.hid hlt
  have HP := Lib.hid hP
  clear hV hs hb hlt hP
  go_enter Try.func105, Try.ntmps105
  go_wp2_with fail
  generalize hW : World.alloc _ _ = W
  have BR : Blk W w.heap.size (Both.cells ⟨Half.zero, Half.zero⟩) := by rw [← hW]; exact (blk_new rfl).alloc _
  have BS : Blk W (w.heap.size + 1) (Both.cells (sidesOf f 0)) := by rw [← hW]; exact blk_new (by simp)
  have hBW : Below w.heap.size w W := by rw [← hW]; exact ((Below.refl _ _).alloc (Nat.le_refl _) _).alloc (by simp) _
  clear hW
  have BR' := Lib.hid BR
  have BS' := Lib.hid BS
  have HBW := Lib.hid hBW
  clear BR hBW BS
  obtain ⟨r, hr⟩ : ∃ r, w.heap.size = r := ⟨_, rfl⟩
  rw [hr] at BR' BS' ⊢
  obtain ⟨g, hg⟩ : ∃ g, r + 1 = g := ⟨_, rfl⟩
  rw [hg] at BS' ⊢
  have HR := Lib.hid hr
  have HG := Lib.hid hg
  clear hg hr
  go_loopw [10] (fun i wr => ∃ k : Nat, k ≤ n ∧ i = .int .i64 k ∧ Hid (Blk wr g (Both.cells (sidesOf f k))) ∧ Hid (Blk wr r (Both.cells ⟨Half.zero, Half.zero⟩)) ∧ Hid (Below w.heap.size w wr)) (fun i _ => n - (intOf i).toNat)
  case atStart => exact ⟨0, Nat.zero_le _, rfl, BS', BR', HBW⟩
  case round =>
    obtain ⟨k, hk, rfl, hS, hR, hwr⟩ := hrel
    by_cases hkn : k < n
    · obtain rfl := HB.out (by omega)
      obtain ⟨c0, c1⟩ := (HV.out.kept hwr.out HL.out) k hkn
      have hsm := HS.out k hkn
      have hpm := HP.out k (by omega)
      have hst : sidesOf f (k + 1) = (sidesOf f k).step (f k).1 (f k).2 := rfl
      have HGO := Lib.hid (show w.heap.size ≤ g by have := HR.out; have := HG.out; omega)
      generalize (f k).1 = x at *
      generalize (f k).2 = y at *
      generalize hP : sidesOf f k = P at *
      have HST := Lib.hid hst
      have HSM := Lib.hid hsm
      have HPM := Lib.hid hpm
      have z0 := hS.out.lt
      clear hst hP hsm hpm
      obtain ⟨⟨ux, uy, px, py⟩, dx, dy, qx, qy⟩ := P
      have HIN : Hid (InRound w (wr.alloc (.cells #[.int .i64 x, .int .i64 y] 41)) g wr.heap.size r (Both.cells ⟨⟨ux, uy, px, py⟩, ⟨dx, dy, qx, qy⟩⟩) x y) :=
        Lib.hid ⟨hS.out.alloc _, blk_new rfl, hR.out.alloc _, next hwr.out ((Below.refl _ _).alloc (Nat.le_refl _) _)⟩
      by_cases hl : lower x y
      · obtain ⟨m1, m2, m3, m4, e1, e2, e3, e4, E⟩ := half_step dx dy qx qy x y
        rw [show Both.step ⟨⟨ux, uy, px, py⟩, ⟨dx, dy, qx, qy⟩⟩ x y = ⟨⟨ux, uy, px, py⟩, Half.step ⟨dx, dy, qx, qy⟩ x y⟩ from if_pos hl, E] at HST
        have E1 := Lib.hid e1; have E2 := Lib.hid e2; have E3 := Lib.hid e3; have E4 := Lib.hid e4; have HLO := Lib.hid hl
        have M1 : Hid (Sm m1 m2) := Lib.hid (by rw [e1, e2]; exact sm_if HSM.out HPM.out.c)
        have M3 : Hid (Sm m3 m4) := Lib.hid (by rw [e3, e4]; exact sm_if HSM.out HPM.out.d)
        clear e1 e2 e3 e4 E hl
        go_upto_region 6 with fail
        go_cut [28] from 16 to 28 (fun s28 wx => s28 = .bool true ∧ wx = wr.alloc (.cells #[.int .i64 x, .int .i64 y] 41))
        case first =>
          by_cases hy : y < 0
          · go_wp2_with fail
            go_meet
            exact ⟨rfl, rfl⟩
          · have hxy : y = 0 ∧ x < 0 := (HLO.out).resolve_left hy
            obtain ⟨rfl, hx0⟩ := hxy
            clear hy
            go_wp2_with fail
            go_meet
            exact ⟨rfl, rfl⟩
        case rest =>
          obtain ⟨rfl, rfl⟩ := hcut
          obtain ⟨v, hv⟩ : ∃ v, wr.heap.size = v := ⟨_, rfl⟩
          rw [hv] at HIN ⊢
          have hne : v ≠ g := by omega
          have hne2 : g ≠ v := by omega
          have hrne : r ≠ g := by have := HG.out; omega
          clear hv
          generalize World.alloc wr _ = w4 at *
          clear hS hR hwr c0 c1 z0
          obtain ⟨Z, hZ⟩ : ∃ Z, decide (dx = 0 ∧ dy = 0) = Z := ⟨_, rfl⟩
          have HZ := Lib.hid hZ
          clear hZ
          obtain ⟨s0, s1, s2, s3, s4, s5, s6, s7⟩ := Blk8 HIN.out.s
          obtain ⟨f0, f1, f2, f3, f4, f5, f6, f7⟩ := Blk8f HIN.out.s
          obtain ⟨v0, v1⟩ := Blk2 HIN.out.n
          dsimp only at s0 s1 s2 s3 s4 s5 s6 s7
          go_upto_region 8 with fail
          go_cut [35] from 31 to 35 (fun s35 wx => s35 = .bool Z ∧ wx = w4)
          case first =>
            by_cases h1 : dx = 0
            · subst h1
              by_cases h2 : dy = 0
              · subst h2
                go_wp2_with fail
                go_meet
                exact ⟨congrArg Value.bool HZ.out, rfl⟩
              · have e : decide ((0 : Int) = 0 ∧ dy = 0) = false := decide_eq_false (fun h => h2 h.2)
                have E := Lib.hid (e.symm.trans HZ.out)
                clear e
                go_wp2_with fail
                go_meet
                exact ⟨congrArg Value.bool E.out, rfl⟩
            · have e : decide (dx = 0 ∧ dy = 0) = false := decide_eq_false (fun h => h1 h.1)
              have E := Lib.hid (e.symm.trans HZ.out)
              clear e
              go_wp2_with fail
              go_meet
              exact ⟨congrArg Value.bool E.out, rfl⟩
          case rest =>
            obtain ⟨rfl, rfl⟩ := hcut
            go_upto_if 35 with fail
            go_cut [] from 36 to 41 (fun wx => Hid (InRound w wx g v r (Both.cells ⟨⟨ux, uy, px, py⟩, ⟨m1, m2, m3, m4⟩⟩) x y))
            case first =>
              cases Z with
              | true =>
                have hz := of_decide_eq_true HZ.out
                go_wp2_with fail
                go_region
                go_wp2_with fail
                have t0 : InRound w _ g v r #[.int .i64 ux, .int .i64 uy, .int .i64 px, .int .i64 py, .int .i64 x, .int .i64 dy, .int .i64 qx, .int .i64 qy] x y := InRound.put HIN.out HGO.out hne hrne 4 (.int .i64 x)
                have t1 : InRound w _ g v r #[.int .i64 ux, .int .i64 uy, .int .i64 px, .int .i64 py, .int .i64 x, .int .i64 y, .int .i64 qx, .int .i64 qy] x y := InRound.put t0 HGO.out hne hrne 5 (.int .i64 y)
                have t2 : InRound w _ g v r #[.int .i64 ux, .int .i64 uy, .int .i64 px, .int .i64 py, .int .i64 x, .int .i64 y, .int .i64 x, .int .i64 qy] x y := InRound.put t1 HGO.out hne hrne 6 (.int .i64 x)
                have t3 : InRound w _ g v r #[.int .i64 ux, .int .i64 uy, .int .i64 px, .int .i64 py, .int .i64 x, .int .i64 y, .int .i64 x, .int .i64 y] x y := InRound.put t2 HGO.out hne hrne 7 (.int .i64 y)
                have q1 : m1 = x := E1.out.trans (if_pos hz)
                have q2 : m2 = y := E2.out.trans (if_pos hz)
                have q3 : m3 = x := E3.out.trans (if_pos hz)
                have q4 : m4 = y := E4.out.trans (if_pos hz)
                clear HZ hz
                have Q1 := Lib.hid q1; have Q2 := Lib.hid q2; have Q3 := Lib.hid q3; have Q4 := Lib.hid q4
                clear q1 q2 q3 q4
                go_meet
                rw [Q1.out, Q2.out, Q3.out, Q4.out]
                exact Lib.hid t3.drew
              | false =>
                have hz := of_decide_eq_false HZ.out
                have q1 : m1 = dx := E1.out.trans (if_neg hz)
                have q2 : m2 = dy := E2.out.trans (if_neg hz)
                have q3 : m3 = qx := E3.out.trans (if_neg hz)
                have q4 : m4 = qy := E4.out.trans (if_neg hz)
                have Q1 := Lib.hid q1; have Q2 := Lib.hid q2; have Q3 := Lib.hid q3; have Q4 := Lib.hid q4
                clear q1 q2 q3 q4 hz
                go_wp2_with fail
                go_meet
                rw [Q1.out, Q2.out, Q3.out, Q4.out]
                exact HIN
            case rest =>
              clear s0 s1 s2 s3 s4 s5 s6 s7 f0 f1 f2 f3 f4 f5 f6 f7 v0 v1
              have HI2 := hcut
              clear hcut HIN
              obtain ⟨s0, s1, s2, s3, s4, s5, s6, s7⟩ := Blk8 HI2.out.s
              obtain ⟨f0, f1, f2, f3, f4, f5, f6, f7⟩ := Blk8f HI2.out.s
              obtain ⟨v0, v1⟩ := Blk2 HI2.out.n
              dsimp only at s0 s1 s2 s3 s4 s5 s6 s7
              have hq : Below wc.heap.size wc wc := Below.refl _ _
              have CC := Lib.hid (fun w => vcross_t x y m1 m2 w HSM.out M1.out)
              have HK := Lib.hid (show ∀ w1, Below wc.heap.size wc w1 → (w1.cell? ⟨g, 4, none⟩ = some (.int .i64 m1) ∧ w1.cell? ⟨g, 5, none⟩ = some (.int .i64 m2)) ∧ (w1.cell? ⟨v, 0, none⟩ = some (.int .i64 x) ∧ w1.cell? ⟨v, 1, none⟩ = some (.int .i64 y)) from
                fun w1 h => ⟨⟨(HI2.out.s.kept h).cell 4 _ rfl, (HI2.out.s.kept h).cell 5 _ rfl⟩, Blk2 (HI2.out.n.kept h)⟩)
              obtain ⟨⟨a0, a1⟩, b0, b1⟩ := HK.out _ (Below.refl _ _)
              clear s0 s1 s2 s3 s4 s5 s6 s7 f0 f1 f2 f3 f4 f5 f6 f7 v0 v1
              go_wp2_with fail
              go_region_held3 (fun w' => (w'.cell? ⟨g, 4, none⟩ = some (.int .i64 m1) ∧ w'.cell? ⟨g, 5, none⟩ = some (.int .i64 m2)) ∧ (w'.cell? ⟨v, 0, none⟩ = some (.int .i64 x) ∧ w'.cell? ⟨v, 1, none⟩ = some (.int .i64 y)))
                (first | exact ⟨⟨a0, a1⟩, b0, b1⟩ | exact HK.out _ hq)
                (first
                  | (go_at_call 49; refine (CC.out _).mono ?_; rintro e x1 ⟨rfl, hx1⟩; have hq : Below wc.heap.size wc x1 := (by first | exact hq.trans (hx1.mono hq.size) | exact hq.trans (below_undrew (hx1.mono hq.size))))
                  | fail "no arm")
              have HI3 := Lib.hid (HI2.out.kept hq)
              clear a0 a1 b0 b1 HK CC hx1 hq HI2
              obtain ⟨s0, s1, s2, s3, s4, s5, s6, s7⟩ := Blk8 HI3.out.s
              obtain ⟨f0, f1, f2, f3, f4, f5, f6, f7⟩ := Blk8f HI3.out.s
              obtain ⟨v0, v1⟩ := Blk2 HI3.out.n
              dsimp only at s0 s1 s2 s3 s4 s5 s6 s7
              go_upto_if 47 with fail
              go_cut [] from 48 to 50 (fun wx => Hid (InRound w wx g v r (Both.cells ⟨⟨ux, uy, px, py⟩, ⟨if 0 < crossI x y m1 m2 then x else m1, if 0 < crossI x y m1 m2 then y else m2, m3, m4⟩⟩) x y))
              case first =>
                by_cases hc : 0 < crossI x y m1 m2
                · have hc' := Lib.hid hc
                  go_wp2_with fail
                  have t0 : InRound w _ g v r #[.int .i64 ux, .int .i64 uy, .int .i64 px, .int .i64 py, .int .i64 x, .int .i64 m2, .int .i64 m3, .int .i64 m4] x y := InRound.put HI3.out HGO.out hne hrne 4 (.int .i64 x)
                  have t1 : InRound w _ g v r #[.int .i64 ux, .int .i64 uy, .int .i64 px, .int .i64 py, .int .i64 x, .int .i64 y, .int .i64 m3, .int .i64 m4] x y := InRound.put t0 HGO.out hne hrne 5 (.int .i64 y)
                  go_meet
                  rw [if_pos hc'.out, if_pos hc'.out]
                  exact Lib.hid t1
                · have hc' := Lib.hid hc
                  go_wp2_with fail
                  go_meet
                  rw [if_neg (by have := hc'.out; omega), if_neg (by have := hc'.out; omega)]
                  exact HI3
              case rest =>
                clear s0 s1 s2 s3 s4 s5 s6 s7 f0 f1 f2 f3 f4 f5 f6 f7 v0 v1
                clear HI3
                obtain ⟨A, hA⟩ : ∃ A, (if 0 < crossI x y m1 m2 then x else m1) = A := ⟨_, rfl⟩
                obtain ⟨B, hB⟩ : ∃ B, (if 0 < crossI x y m1 m2 then y else m2) = B := ⟨_, rfl⟩
                rw [hA, hB] at hcut HST
                have HI4 := hcut
                clear hcut hA hB
                obtain ⟨s0, s1, s2, s3, s4, s5, s6, s7⟩ := Blk8 HI4.out.s
                obtain ⟨f0, f1, f2, f3, f4, f5, f6, f7⟩ := Blk8f HI4.out.s
                obtain ⟨v0, v1⟩ := Blk2 HI4.out.n
                dsimp only at s0 s1 s2 s3 s4 s5 s6 s7
                have hq : Below wc.heap.size wc wc := Below.refl _ _
                have CC := Lib.hid (fun w => vcross_t m3 m4 x y w M3.out HSM.out)
                have HK := Lib.hid (show ∀ w1, Below wc.heap.size wc w1 → (w1.cell? ⟨g, 6, none⟩ = some (.int .i64 m3) ∧ w1.cell? ⟨g, 7, none⟩ = some (.int .i64 m4)) ∧ (w1.cell? ⟨v, 0, none⟩ = some (.int .i64 x) ∧ w1.cell? ⟨v, 1, none⟩ = some (.int .i64 y)) from
                  fun w1 h => ⟨⟨(HI4.out.s.kept h).cell 6 _ rfl, (HI4.out.s.kept h).cell 7 _ rfl⟩, Blk2 (HI4.out.n.kept h)⟩)
                obtain ⟨⟨a0, a1⟩, b0, b1⟩ := HK.out _ (Below.refl _ _)
                clear s0 s1 s2 s3 s4 s5 s6 s7 f0 f1 f2 f3 f4 f5 f6 f7 v0 v1
                go_wp2_with fail
                go_region_held3 (fun w' => (w'.cell? ⟨g, 6, none⟩ = some (.int .i64 m3) ∧ w'.cell? ⟨g, 7, none⟩ = some (.int .i64 m4)) ∧ (w'.cell? ⟨v, 0, none⟩ = some (.int .i64 x) ∧ w'.cell? ⟨v, 1, none⟩ = some (.int .i64 y)))
                  (first | exact ⟨⟨a0, a1⟩, b0, b1⟩ | exact HK.out _ hq)
                  (first
                    | (go_at_call 49; refine (CC.out _).mono ?_; rintro e x1 ⟨rfl, hx1⟩; have hq : Below wc.heap.size wc x1 := (by first | exact hq.trans (hx1.mono hq.size) | exact hq.trans (below_undrew (hx1.mono hq.size))))
                    | fail "no arm")
                have HI3 := Lib.hid (HI4.out.kept hq)
                clear a0 a1 b0 b1 HK CC hx1 hq HI4
                obtain ⟨s0, s1, s2, s3, s4, s5, s6, s7⟩ := Blk8 HI3.out.s
                obtain ⟨f0, f1, f2, f3, f4, f5, f6, f7⟩ := Blk8f HI3.out.s
                obtain ⟨v0, v1⟩ := Blk2 HI3.out.n
                dsimp only at s0 s1 s2 s3 s4 s5 s6 s7
                have HM2 := Lib.hid (show n - (k + 1) < n - k by omega)
                have HK1 := Lib.hid (show k + 1 ≤ n by omega)
                by_cases hc : 0 < crossI m3 m4 x y
                · rw [if_pos hc, if_pos hc] at HST
                  go_wp2_with fail
                  have t0 : InRound w _ g v r #[.int .i64 ux, .int .i64 uy, .int .i64 px, .int .i64 py, .int .i64 A, .int .i64 B, .int .i64 x, .int .i64 m4] x y := InRound.put HI3.out HGO.out hne hrne 6 (.int .i64 x)
                  have t1 : InRound w _ g v r #[.int .i64 ux, .int .i64 uy, .int .i64 px, .int .i64 py, .int .i64 A, .int .i64 B, .int .i64 x, .int .i64 y] x y := InRound.put t0 HGO.out hne hrne 7 (.int .i64 y)
                  go_roundw
                  case rel => exact ⟨k + 1, HK1.out, by go_num, by rw [HST.out]; exact Lib.hid t1.s, Lib.hid t1.r, Lib.hid t1.b⟩
                  case measure => simp [intOf]; omega
                · rw [if_neg hc, if_neg hc] at HST
                  go_wp2_with fail
                  go_roundw
                  case rel => exact ⟨k + 1, HK1.out, by go_num, by rw [HST.out]; exact Lib.hid HI3.out.s, Lib.hid HI3.out.r, Lib.hid HI3.out.b⟩
                  case measure => simp [intOf]; omega
      · obtain ⟨m1, m2, m3, m4, e1, e2, e3, e4, E⟩ := half_step ux uy px py x y
        rw [show Both.step ⟨⟨ux, uy, px, py⟩, ⟨dx, dy, qx, qy⟩⟩ x y = ⟨Half.step ⟨ux, uy, px, py⟩ x y, ⟨dx, dy, qx, qy⟩⟩ from if_neg hl, E] at HST
        have E1 := Lib.hid e1; have E2 := Lib.hid e2; have E3 := Lib.hid e3; have E4 := Lib.hid e4; have HLO := Lib.hid hl
        have M1 : Hid (Sm m1 m2) := Lib.hid (by rw [e1, e2]; exact sm_if HSM.out HPM.out.a)
        have M3 : Hid (Sm m3 m4) := Lib.hid (by rw [e3, e4]; exact sm_if HSM.out HPM.out.b)
        clear e1 e2 e3 e4 E hl
        go_upto_region 6 with fail
        go_cut [28] from 16 to 28 (fun s28 wx => s28 = .bool false ∧ wx = wr.alloc (.cells #[.int .i64 x, .int .i64 y] 41))
        case first =>
          have hy1 : ¬ y < 0 := fun h => HLO.out (Or.inl h)
          by_cases hy : y = 0
          · have hx1 : ¬ x < 0 := fun h => HLO.out (Or.inr ⟨hy, h⟩)
            subst hy
            go_wp2_with fail
            go_meet
            exact ⟨rfl, rfl⟩
          · go_wp2_with fail
            go_meet
            exact ⟨rfl, rfl⟩
        case rest =>
          obtain ⟨rfl, rfl⟩ := hcut
          obtain ⟨v, hv⟩ : ∃ v, wr.heap.size = v := ⟨_, rfl⟩
          rw [hv] at HIN ⊢
          have hne : v ≠ g := by omega
          have hne2 : g ≠ v := by omega
          have hrne : r ≠ g := by have := HG.out; omega
          clear hv
          generalize World.alloc wr _ = w4 at *
          clear hS hR hwr c0 c1 z0
          obtain ⟨Z, hZ⟩ : ∃ Z, decide (ux = 0 ∧ uy = 0) = Z := ⟨_, rfl⟩
          have HZ := Lib.hid hZ
          clear hZ
          obtain ⟨s0, s1, s2, s3, s4, s5, s6, s7⟩ := Blk8 HIN.out.s
          obtain ⟨f0, f1, f2, f3, f4, f5, f6, f7⟩ := Blk8f HIN.out.s
          obtain ⟨v0, v1⟩ := Blk2 HIN.out.n
          dsimp only at s0 s1 s2 s3 s4 s5 s6 s7
          go_upto_region 8 with fail
          go_cut [35] from 31 to 35 (fun s35 wx => s35 = .bool Z ∧ wx = w4)
          case first =>
            by_cases h1 : ux = 0
            · subst h1
              by_cases h2 : uy = 0
              · subst h2
                go_wp2_with fail
                go_meet
                exact ⟨congrArg Value.bool HZ.out, rfl⟩
              · have e : decide ((0 : Int) = 0 ∧ uy = 0) = false := decide_eq_false (fun h => h2 h.2)
                have E := Lib.hid (e.symm.trans HZ.out)
                clear e
                go_wp2_with fail
                go_meet
                exact ⟨congrArg Value.bool E.out, rfl⟩
            · have e : decide (ux = 0 ∧ uy = 0) = false := decide_eq_false (fun h => h1 h.1)
              have E := Lib.hid (e.symm.trans HZ.out)
              clear e
              go_wp2_with fail
              go_meet
              exact ⟨congrArg Value.bool E.out, rfl⟩
          case rest =>
            obtain ⟨rfl, rfl⟩ := hcut
            go_upto_if 35 with fail
            go_cut [] from 36 to 41 (fun wx => Hid (InRound w wx g v r (Both.cells ⟨⟨m1, m2, m3, m4⟩, ⟨dx, dy, qx, qy⟩⟩) x y))
            case first =>
              cases Z with
              | true =>
                have hz := of_decide_eq_true HZ.out
                go_wp2_with fail
                go_region
                go_wp2_with fail
                have t0 : InRound w _ g v r #[.int .i64 x, .int .i64 uy, .int .i64 px, .int .i64 py, .int .i64 dx, .int .i64 dy, .int .i64 qx, .int .i64 qy] x y := InRound.put HIN.out HGO.out hne hrne 0 (.int .i64 x)
                have t1 : InRound w _ g v r #[.int .i64 x, .int .i64 y, .int .i64 px, .int .i64 py, .int .i64 dx, .int .i64 dy, .int .i64 qx, .int .i64 qy] x y := InRound.put t0 HGO.out hne hrne 1 (.int .i64 y)
                have t2 : InRound w _ g v r #[.int .i64 x, .int .i64 y, .int .i64 x, .int .i64 py, .int .i64 dx, .int .i64 dy, .int .i64 qx, .int .i64 qy] x y := InRound.put t1 HGO.out hne hrne 2 (.int .i64 x)
                have t3 : InRound w _ g v r #[.int .i64 x, .int .i64 y, .int .i64 x, .int .i64 y, .int .i64 dx, .int .i64 dy, .int .i64 qx, .int .i64 qy] x y := InRound.put t2 HGO.out hne hrne 3 (.int .i64 y)
                have q1 : m1 = x := E1.out.trans (if_pos hz)
                have q2 : m2 = y := E2.out.trans (if_pos hz)
                have q3 : m3 = x := E3.out.trans (if_pos hz)
                have q4 : m4 = y := E4.out.trans (if_pos hz)
                clear HZ hz
                have Q1 := Lib.hid q1; have Q2 := Lib.hid q2; have Q3 := Lib.hid q3; have Q4 := Lib.hid q4
                clear q1 q2 q3 q4
                go_meet
                rw [Q1.out, Q2.out, Q3.out, Q4.out]
                exact Lib.hid t3.drew
              | false =>
                have hz := of_decide_eq_false HZ.out
                have q1 : m1 = ux := E1.out.trans (if_neg hz)
                have q2 : m2 = uy := E2.out.trans (if_neg hz)
                have q3 : m3 = px := E3.out.trans (if_neg hz)
                have q4 : m4 = py := E4.out.trans (if_neg hz)
                have Q1 := Lib.hid q1; have Q2 := Lib.hid q2; have Q3 := Lib.hid q3; have Q4 := Lib.hid q4
                clear q1 q2 q3 q4 hz
                go_wp2_with fail
                go_meet
                rw [Q1.out, Q2.out, Q3.out, Q4.out]
                exact HIN
            case rest =>
              clear s0 s1 s2 s3 s4 s5 s6 s7 f0 f1 f2 f3 f4 f5 f6 f7 v0 v1
              have HI2 := hcut
              clear hcut HIN
              obtain ⟨s0, s1, s2, s3, s4, s5, s6, s7⟩ := Blk8 HI2.out.s
              obtain ⟨f0, f1, f2, f3, f4, f5, f6, f7⟩ := Blk8f HI2.out.s
              obtain ⟨v0, v1⟩ := Blk2 HI2.out.n
              dsimp only at s0 s1 s2 s3 s4 s5 s6 s7
              have hq : Below wc.heap.size wc wc := Below.refl _ _
              have CC := Lib.hid (fun w => vcross_t x y m1 m2 w HSM.out M1.out)
              have HK := Lib.hid (show ∀ w1, Below wc.heap.size wc w1 → (w1.cell? ⟨g, 0, none⟩ = some (.int .i64 m1) ∧ w1.cell? ⟨g, 1, none⟩ = some (.int .i64 m2)) ∧ (w1.cell? ⟨v, 0, none⟩ = some (.int .i64 x) ∧ w1.cell? ⟨v, 1, none⟩ = some (.int .i64 y)) from
                fun w1 h => ⟨⟨(HI2.out.s.kept h).cell 0 _ rfl, (HI2.out.s.kept h).cell 1 _ rfl⟩, Blk2 (HI2.out.n.kept h)⟩)
              obtain ⟨⟨a0, a1⟩, b0, b1⟩ := HK.out _ (Below.refl _ _)
              clear s0 s1 s2 s3 s4 s5 s6 s7 f0 f1 f2 f3 f4 f5 f6 f7 v0 v1
              go_wp2_with fail
              go_region_held3 (fun w' => (w'.cell? ⟨g, 0, none⟩ = some (.int .i64 m1) ∧ w'.cell? ⟨g, 1, none⟩ = some (.int .i64 m2)) ∧ (w'.cell? ⟨v, 0, none⟩ = some (.int .i64 x) ∧ w'.cell? ⟨v, 1, none⟩ = some (.int .i64 y)))
                (first | exact ⟨⟨a0, a1⟩, b0, b1⟩ | exact HK.out _ hq)
                (first
                  | (go_at_call 49; refine (CC.out _).mono ?_; rintro e x1 ⟨rfl, hx1⟩; have hq : Below wc.heap.size wc x1 := (by first | exact hq.trans (hx1.mono hq.size) | exact hq.trans (below_undrew (hx1.mono hq.size))))
                  | fail "no arm")
              have HI3 := Lib.hid (HI2.out.kept hq)
              clear a0 a1 b0 b1 HK CC hx1 hq HI2
              obtain ⟨s0, s1, s2, s3, s4, s5, s6, s7⟩ := Blk8 HI3.out.s
              obtain ⟨f0, f1, f2, f3, f4, f5, f6, f7⟩ := Blk8f HI3.out.s
              obtain ⟨v0, v1⟩ := Blk2 HI3.out.n
              dsimp only at s0 s1 s2 s3 s4 s5 s6 s7
              go_upto_if 47 with fail
              go_cut [] from 48 to 50 (fun wx => Hid (InRound w wx g v r (Both.cells ⟨⟨if 0 < crossI x y m1 m2 then x else m1, if 0 < crossI x y m1 m2 then y else m2, m3, m4⟩, ⟨dx, dy, qx, qy⟩⟩) x y))
              case first =>
                by_cases hc : 0 < crossI x y m1 m2
                · have hc' := Lib.hid hc
                  go_wp2_with fail
                  have t0 : InRound w _ g v r #[.int .i64 x, .int .i64 m2, .int .i64 m3, .int .i64 m4, .int .i64 dx, .int .i64 dy, .int .i64 qx, .int .i64 qy] x y := InRound.put HI3.out HGO.out hne hrne 0 (.int .i64 x)
                  have t1 : InRound w _ g v r #[.int .i64 x, .int .i64 y, .int .i64 m3, .int .i64 m4, .int .i64 dx, .int .i64 dy, .int .i64 qx, .int .i64 qy] x y := InRound.put t0 HGO.out hne hrne 1 (.int .i64 y)
                  go_meet
                  rw [if_pos hc'.out, if_pos hc'.out]
                  exact Lib.hid t1
                · have hc' := Lib.hid hc
                  go_wp2_with fail
                  go_meet
                  rw [if_neg (by have := hc'.out; omega), if_neg (by have := hc'.out; omega)]
                  exact HI3
              case rest =>
                clear s0 s1 s2 s3 s4 s5 s6 s7 f0 f1 f2 f3 f4 f5 f6 f7 v0 v1
                clear HI3
                obtain ⟨A, hA⟩ : ∃ A, (if 0 < crossI x y m1 m2 then x else m1) = A := ⟨_, rfl⟩
                obtain ⟨B, hB⟩ : ∃ B, (if 0 < crossI x y m1 m2 then y else m2) = B := ⟨_, rfl⟩
                rw [hA, hB] at hcut HST
                have HI4 := hcut
                clear hcut hA hB
                obtain ⟨s0, s1, s2, s3, s4, s5, s6, s7⟩ := Blk8 HI4.out.s
                obtain ⟨f0, f1, f2, f3, f4, f5, f6, f7⟩ := Blk8f HI4.out.s
                obtain ⟨v0, v1⟩ := Blk2 HI4.out.n
                dsimp only at s0 s1 s2 s3 s4 s5 s6 s7
                have hq : Below wc.heap.size wc wc := Below.refl _ _
                have CC := Lib.hid (fun w => vcross_t m3 m4 x y w M3.out HSM.out)
                have HK := Lib.hid (show ∀ w1, Below wc.heap.size wc w1 → (w1.cell? ⟨g, 2, none⟩ = some (.int .i64 m3) ∧ w1.cell? ⟨g, 3, none⟩ = some (.int .i64 m4)) ∧ (w1.cell? ⟨v, 0, none⟩ = some (.int .i64 x) ∧ w1.cell? ⟨v, 1, none⟩ = some (.int .i64 y)) from
                  fun w1 h => ⟨⟨(HI4.out.s.kept h).cell 2 _ rfl, (HI4.out.s.kept h).cell 3 _ rfl⟩, Blk2 (HI4.out.n.kept h)⟩)
                obtain ⟨⟨a0, a1⟩, b0, b1⟩ := HK.out _ (Below.refl _ _)
                clear s0 s1 s2 s3 s4 s5 s6 s7 f0 f1 f2 f3 f4 f5 f6 f7 v0 v1
                go_wp2_with fail
                go_region_held3 (fun w' => (w'.cell? ⟨g, 2, none⟩ = some (.int .i64 m3) ∧ w'.cell? ⟨g, 3, none⟩ = some (.int .i64 m4)) ∧ (w'.cell? ⟨v, 0, none⟩ = some (.int .i64 x) ∧ w'.cell? ⟨v, 1, none⟩ = some (.int .i64 y)))
                  (first | exact ⟨⟨a0, a1⟩, b0, b1⟩ | exact HK.out _ hq)
                  (first
                    | (go_at_call 49; refine (CC.out _).mono ?_; rintro e x1 ⟨rfl, hx1⟩; have hq : Below wc.heap.size wc x1 := (by first | exact hq.trans (hx1.mono hq.size) | exact hq.trans (below_undrew (hx1.mono hq.size))))
                    | fail "no arm")
                have HI3 := Lib.hid (HI4.out.kept hq)
                clear a0 a1 b0 b1 HK CC hx1 hq HI4
                obtain ⟨s0, s1, s2, s3, s4, s5, s6, s7⟩ := Blk8 HI3.out.s
                obtain ⟨f0, f1, f2, f3, f4, f5, f6, f7⟩ := Blk8f HI3.out.s
                obtain ⟨v0, v1⟩ := Blk2 HI3.out.n
                dsimp only at s0 s1 s2 s3 s4 s5 s6 s7
                have HM2 := Lib.hid (show n - (k + 1) < n - k by omega)
                have HK1 := Lib.hid (show k + 1 ≤ n by omega)
                by_cases hc : 0 < crossI m3 m4 x y
                · rw [if_pos hc, if_pos hc] at HST
                  go_wp2_with fail
                  have t0 : InRound w _ g v r #[.int .i64 A, .int .i64 B, .int .i64 x, .int .i64 m4, .int .i64 dx, .int .i64 dy, .int .i64 qx, .int .i64 qy] x y := InRound.put HI3.out HGO.out hne hrne 2 (.int .i64 x)
                  have t1 : InRound w _ g v r #[.int .i64 A, .int .i64 B, .int .i64 x, .int .i64 y, .int .i64 dx, .int .i64 dy, .int .i64 qx, .int .i64 qy] x y := InRound.put t0 HGO.out hne hrne 3 (.int .i64 y)
                  go_roundw
                  case rel => exact ⟨k + 1, HK1.out, by go_num, by rw [HST.out]; exact Lib.hid t1.s, Lib.hid t1.r, Lib.hid t1.b⟩
                  case measure => simp [intOf]; omega
                · rw [if_neg hc, if_neg hc] at HST
                  go_wp2_with fail
                  go_roundw
                  case rel => exact ⟨k + 1, HK1.out, by go_num, by rw [HST.out]; exact Lib.hid HI3.out.s, Lib.hid HI3.out.r, Lib.hid HI3.out.b⟩
                  case measure => simp [intOf]; omega
    · obtain rfl : k = n := by omega
      have HGR := Lib.hid (show w.heap.size ≤ r by have := HR.out; omega)
      have hng : g ≠ r := by have := HG.out; omega
      have hng2 : r ≠ g := by have := HG.out; omega
      obtain ⟨s0, s1, s2, s3, s4, s5, s6, s7⟩ := Blk8 hS.out
      obtain ⟨r0, r1, r2, r3, r4, r5, r6, r7⟩ := Blk8 hR.out
      obtain ⟨f0, f1, f2, f3, f4, f5, f6, f7⟩ := Blk8f hR.out
      clear hkn hk
      go_wp2_with fail
      refine bodyPost_ret (blk_res rfl _ rfl (blk_set8 hR.out) Try.underlying91 rfl (by rfl)) rfl ⟨rfl, below_set8 hwr.out HGR.out⟩
end Go.Proofs.Ytdgfmkideghhaaa

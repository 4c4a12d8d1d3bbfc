/-
  The reference's Value: a polynomial at n / 2^e.
-/
import Derived.Test.YtmfmbglacebeiaaPoSame
import Derived.Test.YtmfmbglacebeiaaSoLast
import Derived.IntWalk
namespace PO
open Go Go.RowKit PB
/-- The sum of the d highest coefficients, as Value has it. -/
def hv (l : List Int) (x : Int) (e : Nat) : Nat → Int
  | 0 => 0
  | d + 1 => hv l x e d * x + at0 l (l.length - 1 - d) * (2^(e * d) : Nat)
theorem hv_succ (l : List Int) (x : Int) (e d : Nat) : hv l x e (d + 1) = hv l x e d * x + at0 l (l.length - 1 - d) * (2^(e * d) : Nat) := rfl
/-- All numbers on the way are of ordinary size. -/
structure HvOk (l : List Int) (x : Int) (e : Nat) : Prop where
  xs : nl x.natAbs ≤ 100000
  len : l.length ≤ 1000
  es : e ≤ 1000
  v : ∀ d, d ≤ l.length → nl (hv l x e d).natAbs ≤ 100000
  vx : ∀ d, d < l.length → nl (hv l x e d * x).natAbs ≤ 100000
  c : ∀ d, d < l.length → nl (at0 l (l.length - 1 - d)).natAbs ≤ 100000
  up : ∀ d, d < l.length → nl (at0 l (l.length - 1 - d) * (2^(e * d) : Nat)).natAbs ≤ 100000
end PO
namespace Go.Proofs.Ytmfmbglacebeiaa
open Go.RowKit PB PO
set_option maxRecDepth 100000 in
set_option maxHeartbeats 16000000 in
theorem pval_any (base : Option Addr) (n c : Nat) (l : List Int) (vx : Value) (x : Int) (e : Nat) (w : World) (h : RdP w (.slice base n c) l) (hx : IsInt w vx x) (hok : HvOk (trimL l) x e) (hn : n ≤ 1000000) :
    Calls Try.prog 36 #[.slice base n c, vx, .int .i64 e] w (RetInt w (hv (trimL l) x e (trimL l).length)) := by
  have HTR := Lib.hid (fun W (hW : Below w.heap.size w W) => ptrim_ref base n c l W (h.kept hW) hn)
  obtain ⟨sx, qx, bx, ox, mx, cx, X, rfl, hx1, hx2, hx3, hx4, hx5⟩ := hx
  have HX := Lib.hid (show IsInt w (.agg #[.bool sx, .slice qx mx cx]) x from ⟨sx, qx, bx, ox, mx, cx, X, rfl, hx1, hx2, hx3, hx4, hx5⟩)
  have HOK := Lib.hid hok
  have hlen := hok.len
  have hee := hok.es
  clear h hx1 hx2 hx3 hx4 hx5 hok
  generalize trimL l = t at *
  go_enter Try.func36, Try.ntmps36
  go_wp2_with fail
  refine (HTR.out _ (by exact ((Below.refl _ _).alloc (Nat.le_refl _) _).alloc (by simp) _)).mono ?_
  rintro ee w2 ⟨vt, rfl, hct, hw2⟩
  have X2 : Blk w2 w.heap.size #[.bool sx, .slice qx mx cx] := ((blk_new rfl).alloc _).kept hw2
  have R2 : Blk w2 (w.heap.size + 1) #[.bool false, .slice none 0 0] := (blk_new (by simp)).kept hw2
  have q2 : Below w.heap.size w w2 := by
    have h1 : Below w.heap.size w ((w.alloc (.cells #[.bool sx, .slice qx mx cx] 50)).alloc (.cells #[.bool false, .slice none 0 0] 50)) := ((Below.refl _ _).alloc (Nat.le_refl _) _).alloc (by simp) _
    exact h1.trans (hw2.mono h1.size)
  obtain ⟨tb, tg, tof, tc, rfl, htb, htl, -, htc, hte⟩ := hct
  have hx2 := HX.out.kept q2
  have HTB := Lib.hid htb
  have HTL := Lib.hid htl
  have HTE := Lib.hid (fun (j : Nat) (hj : j < t.length) => hte j _ (at0_lt hj))
  have HX2 := Lib.hid X2
  have HR2 := Lib.hid R2
  have HQ2 := Lib.hid q2
  have HXI := Lib.hid hx2
  have lx := X2.lt
  have lr := R2.lt
  clear hw2 X2 R2 q2 htb htl hte hx2 HX HTR
  have HV0 := Lib.hid (show hv t x e 0 = 0 from rfl)
  have HVS := Lib.hid (fun d => hv_succ t x e d)
  obtain ⟨m, hm⟩ : ∃ m, t.length = m := ⟨_, rfl⟩
  have HM := Lib.hid hm
  rw [hm] at hlen htc ⊢
  clear hm
  go_wp2_with fail
  go_loopw [9] (fun i wr => ∃ d : Nat, d ≤ m ∧ i = .int .i64 ((m : Int) - 1 - d) ∧ Hid (∃ s q mm k, Blk wr w2.heap.size #[.bool s, .slice q mm k] ∧ IsCan (w2.heap.size + 1) wr (.agg #[.bool s, .slice q mm k]) (hv t x e d)) ∧ Hid (Below w2.heap.size w2 wr)) (fun i _ => (intOf i + 1).toNat)
  case atStart =>
    refine ⟨0, Nat.zero_le _, by simp, Lib.hid ⟨false, none, 0, 0, blk_new rfl, ?_⟩, Lib.hid ((Below.refl _ _).alloc (Nat.le_refl _) _)⟩
    rw [HV0.out]
    exact can_zero _ _
  case round =>
    obtain ⟨d, hd, rfl, hI, hq⟩ := hrel
    obtain ⟨s8, q8, m8, k8, hB8, hC8⟩ := hI.out
    by_cases hdm : d < m
    · obtain ⟨j, hj⟩ : ∃ j : Nat, j + 1 + d = m := ⟨m - 1 - d, by omega⟩
      obtain rfl := HTB.out (by rw [HM.out]; omega)
      have hlt := HTL.out (by rw [HM.out]; omega)
      obtain ⟨sj, qj, mj, kj, c0, c1, hij⟩ := (HTE.out j (by rw [HM.out]; omega)).kept hq.out hlt
      have ejd : t.length - 1 - d = j := by rw [HM.out]; omega
      have u1 := HOK.out.v d (by rw [HM.out]; omega)
      have u2 := HOK.out.xs
      have u3 := HOK.out.vx d (by rw [HM.out]; omega)
      have u4 := HOK.out.c d (by rw [HM.out]; omega)
      have u5 := HOK.out.up d (by rw [HM.out]; omega)
      have HS := Lib.hid (HVS.out d)
      rw [ejd] at u4 u5 HS
      generalize at0 t j = y at *
      obtain ⟨ed, hed⟩ : ∃ ed, e * d = ed := ⟨_, rfl⟩
      have hed1 : ed ≤ 1000000 := by rw [← hed]; exact Nat.le_trans (Nat.mul_le_mul hee (show d ≤ 1000 by omega)) (by decide)
      have hei : ((e : Int) * d) = ed := by rw [← hed]; simp
      rw [hed] at u5 HS
      obtain ⟨iv, hiv⟩ : ∃ iv : Int, (m : Int) - 1 - d = iv := ⟨_, rfl⟩
      have hjv : iv = j := by omega
      have heq : IntKind.i64.wrap ((e : Int) * IntKind.i64.wrap (IntKind.i64.wrap ((m : Int) - 1) - (j : Int))) = (ed : Int) := by
        rw [IntWalk.i64_in ((m : Int) - 1) (by omega), IntWalk.i64_in ((m : Int) - 1 - (j : Int)) (by omega), show (m : Int) - 1 - (j : Int) = d by omega, hei]
        exact IntWalk.i64_in _ (by omega)
      obtain ⟨V1, hV1⟩ : ∃ V1, hv t x e (d + 1) = V1 := ⟨_, rfl⟩
      rw [hV1] at HS
      have HV1 := Lib.hid hV1
      clear hV1
      generalize hv t x e d = V0 at *
      have hxr := HXI.out.kept hq.out
      have TT := Lib.hid (fun W (hW : Below wr.heap.size wr W) => times_ref _ _ V0 x W (hC8.int.kept hW) (hxr.kept hW) u1 u2)
      have TU := Lib.hid (fun W (hW : Below wr.heap.size wr W) => up_ref _ y ed W (hij.int.kept hW) u4 (by omega))
      have TP := Lib.hid (fun W v1 v2 (h1 : IsInt W v1 (V0 * x)) (h2 : IsInt W v2 (y * (2^ed : Nat))) => plus_ref v1 v2 _ _ W h1 h2 u3 u5)
      obtain ⟨x0, x1⟩ := Blk2 (HX2.out.kept hq.out)
      obtain ⟨v0, v1⟩ := Blk2 hB8
      obtain ⟨f0, f1⟩ := Blk2f hB8
      have lt8 := hB8.lt
      have lxr := Nat.lt_of_lt_of_le lx hq.out.size
      have ltr := Nat.lt_of_lt_of_le hlt hq.out.size
      have HK := Lib.hid (fun w' (h : Below wr.heap.size wr w') => (⟨Blk2 (hB8.kept h), Blk2 ((HX2.out.kept hq.out).kept h), by rw [h.cell (p := ⟨tg, _, none⟩) ltr]; exact c0, by rw [h.cell (p := ⟨tg, _, none⟩) ltr]; exact c1⟩ : (w'.cell? ⟨w2.heap.size, 0, none⟩ = some (.bool s8) ∧ w'.cell? ⟨w2.heap.size, 1, none⟩ = some (.slice q8 m8 k8)) ∧ (w'.cell? ⟨w.heap.size, 0, none⟩ = some (.bool sx) ∧ w'.cell? ⟨w.heap.size, 1, none⟩ = some (.slice qx mx cx)) ∧ w'.cell? ⟨tg, tof + j * 2, none⟩ = some (.bool sj) ∧ w'.cell? ⟨tg, tof + j * 2 + 1, none⟩ = some (.slice qj mj kj)))
      have HB8 := Lib.hid hB8
      have hdt : (m : Int) - 1 - d = (j : Int) := by omega
      have j0 : (0 : Int) ≤ (j : Int) := by omega
      have j1 : (j : Int) < (m : Int) := by omega
      rw [hdt]
      have HD := Lib.hid (show (j : Int) - 1 = (m : Int) - 1 - ((d + 1 : Nat) : Int) by omega)
      have HJM := Lib.hid hdt
      clear hdt hiv hjv hei hed hij hC8 hI hB8 u1 u2 u3 u4 u5 hxr ejd hee lt8 lxr
      go_upto_region 6 with fail
      have hb0 : Below wr.heap.size wr wr.drew := PB.below_drewN (Below.refl _ _) 1
      refine wp_region_last (L := 16) (n := 16) (S := fun w' => (w'.cell? ⟨w2.heap.size, 0, none⟩ = some (.bool s8) ∧ w'.cell? ⟨w2.heap.size, 1, none⟩ = some (.slice q8 m8 k8)) ∧ (w'.cell? ⟨w.heap.size, 0, none⟩ = some (.bool sx) ∧ w'.cell? ⟨w.heap.size, 1, none⟩ = some (.slice qx mx cx)) ∧ w'.cell? ⟨tg, tof + j * 2, none⟩ = some (.bool sj) ∧ w'.cell? ⟨tg, tof + j * 2 + 1, none⟩ = some (.slice qj mj kj)) (by kernel_rfl) (by kernel_rfl) rfl (HK.out _ hb0) (fun hHeld => ?_)
      try simp only [Act.put, List.setIfInBounds_toArray, List.set_cons_zero, List.set_cons_succ]
      refine wpAnyH_take (i := 0) (oi := { dst := some 20, op := Go.Op.load 50 (Go.Operand.tmp 8), type := 50, pos := "ref.go:120", after := #[], guard := none }) (v := ?v1_0) rfl (by kernel_rfl) (by kernel_rfl) (by kernel_rfl) (fun _ _ _ h => h) (Or.inl ⟨by rfl, ?hy1_0⟩) (by assumption) ?rest1_0
      case hy1_0 => ((intro w hSw; (try dsimp only at hSw); go_simp); (try (with_reducible rfl)))
      try simp only [Act.put, List.setIfInBounds_toArray, List.set_cons_zero, List.set_cons_succ]
      refine wpAnyH_take (i := 1) (oi := { dst := some 21, op := Go.Op.load 50 (Go.Operand.tmp 4), type := 50, pos := "ref.go:120", after := #[], guard := none }) (v := ?v1_1) rfl (by kernel_rfl) (by kernel_rfl) (by kernel_rfl) (fun _ _ _ h => h) (Or.inl ⟨by rfl, ?hy1_1⟩) (by assumption) ?rest1_1
      case hy1_1 => ((intro w hSw; (try dsimp only at hSw); go_simp); (try (with_reducible rfl)))
      try simp only [Act.put, List.setIfInBounds_toArray, List.set_cons_zero, List.set_cons_succ]
      refine wpAnyH_take (i := 3) (oi := { dst := some 23, op := Go.Op.move (Go.Operand.tmp 7), type := 30, pos := "ref.go:120", after := #[], guard := none }) (v := ?v1_3) rfl (by kernel_rfl) (by kernel_rfl) (by kernel_rfl) (fun _ _ _ h => h) (Or.inl ⟨by rfl, ?hy1_3⟩) (by assumption) ?rest1_3
      case hy1_3 => ((intro w hSw; (try dsimp only at hSw); go_simp); (try (with_reducible rfl)))
      try simp only [Act.put, List.setIfInBounds_toArray, List.set_cons_zero, List.set_cons_succ]
      refine wpAnyH_take (i := 4) (oi := { dst := some 24, op := Go.Op.move (Go.Operand.tmp 9), type := 3, pos := "ref.go:120", after := #[], guard := none }) (v := ?v1_4) rfl (by kernel_rfl) (by kernel_rfl) (by kernel_rfl) (fun _ _ _ h => h) (Or.inl ⟨by rfl, ?hy1_4⟩) (by assumption) ?rest1_4
      case hy1_4 => ((intro w hSw; (try dsimp only at hSw); go_simp); (try (with_reducible rfl)))
      try simp only [Act.put, List.setIfInBounds_toArray, List.set_cons_zero, List.set_cons_succ]
      refine wpAnyH_take (i := 5) (oi := { dst := some 25, op := Go.Op.indexAddr 30 (Go.Operand.tmp 23) (Go.Operand.tmp 24), type := 0, pos := "ref.go:120", after := #[{ on := 3, ground := Go.Ground.data }, { on := 4, ground := Go.Ground.data }], guard := none }) (v := ?v1_5) rfl (by kernel_rfl) (by kernel_rfl) (by kernel_rfl) (fun _ _ _ h => h) (Or.inl ⟨by rfl, ?hy1_5⟩) (by assumption) ?rest1_5
      case hy1_5 => ((intro w hSw; (try dsimp only at hSw); go_simp); (try (with_reducible rfl)))
      try simp only [Act.put, List.setIfInBounds_toArray, List.set_cons_zero, List.set_cons_succ]
      refine wpAnyH_take (i := 6) (oi := { dst := some 26, op := Go.Op.load 50 (Go.Operand.tmp 25), type := 50, pos := "ref.go:120", after := #[{ on := 5, ground := Go.Ground.data }], guard := none }) (v := ?v1_6) rfl (by kernel_rfl) (by kernel_rfl) (by kernel_rfl) (fun _ _ _ h => h) (Or.inl ⟨by rfl, ?hy1_6⟩) (by assumption) ?rest1_6
      case hy1_6 => ((intro w hSw; (try dsimp only at hSw); go_simp); (try (with_reducible rfl)))
      try simp only [Act.put, List.setIfInBounds_toArray, List.set_cons_zero, List.set_cons_succ]
      refine wpAnyH_take (i := 7) (oi := { dst := some 27, op := Go.Op.move (Go.Operand.tmp 2), type := 3, pos := "ref.go:120", after := #[], guard := none }) (v := ?v1_7) rfl (by kernel_rfl) (by kernel_rfl) (by kernel_rfl) (fun _ _ _ h => h) (Or.inl ⟨by rfl, ?hy1_7⟩) (by assumption) ?rest1_7
      case hy1_7 => ((intro w hSw; (try dsimp only at hSw); go_simp); (try (with_reducible rfl)))
      try simp only [Act.put, List.setIfInBounds_toArray, List.set_cons_zero, List.set_cons_succ]
      refine wpAnyH_take (i := 8) (oi := { dst := some 28, op := Go.Op.move (Go.Operand.tmp 7), type := 30, pos := "ref.go:120", after := #[], guard := none }) (v := ?v1_8) rfl (by kernel_rfl) (by kernel_rfl) (by kernel_rfl) (fun _ _ _ h => h) (Or.inl ⟨by rfl, ?hy1_8⟩) (by assumption) ?rest1_8
      case hy1_8 => ((intro w hSw; (try dsimp only at hSw); go_simp); (try (with_reducible rfl)))
      try simp only [Act.put, List.setIfInBounds_toArray, List.set_cons_zero, List.set_cons_succ]
      refine wpAnyH_take (i := 9) (oi := { dst := some 29, op := Go.Op.call { callee := Go.Callee.builtin Go.Builtin.len, args := #[Go.Operand.tmp 28], argTypes := #[30] }, type := 3, pos := "ref.go:120", after := #[{ on := 8, ground := Go.Ground.data }], guard := none }) (v := ?v1_9) rfl (by kernel_rfl) (by kernel_rfl) (by kernel_rfl) (fun _ _ _ h => h) (Or.inl ⟨by rfl, ?hy1_9⟩) (by assumption) ?rest1_9
      case hy1_9 => ((intro w hSw; (try dsimp only at hSw); go_simp); (try (with_reducible rfl)))
      try simp only [Act.put, List.setIfInBounds_toArray, List.set_cons_zero, List.set_cons_succ]
      refine wpAnyH_take (i := 10) (oi := { dst := some 30, op := Go.Op.binOp Go.BinOp.sub 3 (Go.Operand.tmp 29) (Go.Operand.const (Go.Value.int Go.IntKind.i64 1)) 3, type := 3, pos := "ref.go:120", after := #[{ on := 9, ground := Go.Ground.data }], guard := none }) (v := ?v1_10) rfl (by kernel_rfl) (by kernel_rfl) (by kernel_rfl) (fun _ _ _ h => h) (Or.inl ⟨by rfl, ?hy1_10⟩) (by assumption) ?rest1_10
      case hy1_10 => ((intro w hSw; (try dsimp only at hSw); go_simp); (try (with_reducible rfl)))
      try simp only [Act.put, List.setIfInBounds_toArray, List.set_cons_zero, List.set_cons_succ]
      refine wpAnyH_take (i := 11) (oi := { dst := some 31, op := Go.Op.move (Go.Operand.tmp 9), type := 3, pos := "ref.go:120", after := #[], guard := none }) (v := ?v1_11) rfl (by kernel_rfl) (by kernel_rfl) (by kernel_rfl) (fun _ _ _ h => h) (Or.inl ⟨by rfl, ?hy1_11⟩) (by assumption) ?rest1_11
      case hy1_11 => ((intro w hSw; (try dsimp only at hSw); go_simp); (try (with_reducible rfl)))
      try simp only [Act.put, List.setIfInBounds_toArray, List.set_cons_zero, List.set_cons_succ]
      refine wpAnyH_take (i := 12) (oi := { dst := some 32, op := Go.Op.binOp Go.BinOp.sub 3 (Go.Operand.tmp 30) (Go.Operand.tmp 31) 3, type := 3, pos := "ref.go:120", after := #[{ on := 10, ground := Go.Ground.data }, { on := 11, ground := Go.Ground.data }], guard := none }) (v := ?v1_12) rfl (by kernel_rfl) (by kernel_rfl) (by kernel_rfl) (fun _ _ _ h => h) (Or.inl ⟨by rfl, ?hy1_12⟩) (by assumption) ?rest1_12
      case hy1_12 => ((intro w hSw; (try dsimp only at hSw); go_simp); (try (with_reducible rfl)))
      try simp only [Act.put, List.setIfInBounds_toArray, List.set_cons_zero, List.set_cons_succ]
      refine wpAnyH_take (i := 13) (oi := { dst := some 33, op := Go.Op.binOp Go.BinOp.mul 3 (Go.Operand.tmp 27) (Go.Operand.tmp 32) 3, type := 3, pos := "ref.go:120", after := #[{ on := 7, ground := Go.Ground.data }, { on := 12, ground := Go.Ground.data }], guard := none }) (v := ?v1_13) rfl (by kernel_rfl) (by kernel_rfl) (by kernel_rfl) (fun _ _ _ h => h) (Or.inl ⟨by rfl, ?hy1_13⟩) (by assumption) ?rest1_13
      case hy1_13 => ((intro w hSw; (try dsimp only at hSw); go_simp); (try (with_reducible rfl)))
      try simp only [Act.put, List.setIfInBounds_toArray, List.set_cons_zero, List.set_cons_succ]
      refine wpAnyH_ready (rs := [2]) (by kernel_rfl) (by simp) ?_
      refine AllReadyH.cons (o := { dst := some 22, op := Go.Op.call { callee := Go.Callee.value (Go.Operand.func 47), args := #[Go.Operand.tmp 20, Go.Operand.tmp 21], argTypes := #[50, 50] }, type := 50, pos := "ref.go:120", after := #[{ on := 0, ground := Go.Ground.data }, { on := 1, ground := Go.Ground.data }], guard := none }) rfl (fun K hK => ?_) AllReadyH.nil
      go_simp
      refine (TT.out _ hb0).mono ?_
      rintro ee y1 ⟨r1, rfl, hr1, hy1⟩
      obtain ⟨s1, p1, n1, d1, g1, rfl, -, -⟩ := can_elt hr1
      have hb1 := pnext hb0 hy1
      go_simp
      refine hK.out _ _ (HK.out _ hb1) (fun hHeld => ?_)
      clear hK K
      try simp only [Act.put, List.setIfInBounds_toArray, List.set_cons_zero, List.set_cons_succ]
      refine wpAnyH_ready (rs := [14]) (by kernel_rfl) (by simp) ?_
      refine AllReadyH.cons (o := { dst := some 34, op := Go.Op.call { callee := Go.Callee.value (Go.Operand.func 38), args := #[Go.Operand.tmp 26, Go.Operand.tmp 33], argTypes := #[50, 3] }, type := 50, pos := "ref.go:120", after := #[{ on := 6, ground := Go.Ground.data }, { on := 13, ground := Go.Ground.data }, { on := 2, ground := Go.Ground.chain }], guard := none }) rfl (fun K hK => ?_) AllReadyH.nil
      go_simp
      try rw [heq]
      refine (TU.out _ hb1).mono ?_
      rintro ee y2 ⟨r2, rfl, hr2, hy2⟩
      obtain ⟨s2, p2, n2, d2, g2, rfl, -, -⟩ := can_elt hr2
      have hb2 := pnext hb1 hy2
      have ir1 := hr1.int.kept hy2
      go_simp
      refine hK.out _ _ (HK.out _ hb2) (fun hHeld => ?_)
      clear hK K
      try simp only [Act.put, List.setIfInBounds_toArray, List.set_cons_zero, List.set_cons_succ]
      refine wpAnyH_ready (rs := [15]) (by kernel_rfl) (by simp) ?_
      refine AllReadyH.cons (o := { dst := some 35, op := Go.Op.call { callee := Go.Callee.value (Go.Operand.func 46), args := #[Go.Operand.tmp 22, Go.Operand.tmp 34], argTypes := #[50, 50] }, type := 50, pos := "ref.go:120", after := #[{ on := 2, ground := Go.Ground.data }, { on := 14, ground := Go.Ground.data }, { on := 14, ground := Go.Ground.chain }], guard := none }) rfl (fun K hK => ?_) AllReadyH.nil
      go_simp
      refine (TP.out _ _ _ ir1 hr2.int).mono ?_
      rintro ee y3 ⟨r3, rfl, hr3, hy3⟩
      obtain ⟨s3, p3, n3, d3, g3, rfl, -, -⟩ := can_elt hr3
      have hb3 := pnext hb2 hy3
      obtain ⟨F0, F1⟩ := Blk2f (HB8.out.kept hb3)
      obtain ⟨G0, G1⟩ := Blk2 (HB8.out.kept hb3)
      go_simp
      refine hK.out _ _ (HK.out _ hb3) (fun hHeld => ?_)
      clear hK K
      try simp only [Act.put, List.setIfInBounds_toArray, List.set_cons_zero, List.set_cons_succ]
      refine wpAnyH_done (by kernel_rfl) ?_ _
      refine QLast.normal ?_
      refine wpOp_step (o := { dst := none, op := Go.Op.store 50 (Go.Operand.tmp 8) (Go.Operand.tmp 35), type := 0, pos := "ref.go:120", after := #[{ on := 15, ground := Go.Ground.data }, { on := 15, ground := Go.Ground.chain }, { on := 0, ground := Go.Ground.phase }, { on := 1, ground := Go.Ground.phase }, { on := 2, ground := Go.Ground.phase }, { on := 3, ground := Go.Ground.phase }, { on := 4, ground := Go.Ground.phase }, { on := 5, ground := Go.Ground.phase }, { on := 6, ground := Go.Ground.phase }, { on := 7, ground := Go.Ground.phase }, { on := 8, ground := Go.Ground.phase }, { on := 9, ground := Go.Ground.phase }, { on := 10, ground := Go.Ground.phase }, { on := 11, ground := Go.Ground.phase }, { on := 12, ground := Go.Ground.phase }, { on := 13, ground := Go.Ground.phase }, { on := 14, ground := Go.Ground.phase }, { on := 15, ground := Go.Ground.phase }], guard := none }) rfl (fun K hK => ?_)
      go_simp
      refine hK _ _ ?_
      clear hK K
      have HB3 := Lib.hid (HB8.out.kept hb3)
      have HC3 := Lib.hid (hr3.mono (show w2.heap.size + 1 ≤ y2.heap.size from Nat.le_trans HB8.out.lt hb2.size))
      have HQ3 := Lib.hid (hq.out.trans (hb3.mono hq.out.size))
      clear hr1 hr2 ir1 hr3 hb0 hb1 hb2 hb3 hy1 hy2 hy3
      go_wp2_with fail
      go_roundw
      case rel =>
        refine ⟨d + 1, by omega, by rw [← HD.out], Lib.hid ⟨_, _, _, _, blk_set2 HB3.out, ?_⟩, Lib.hid ((HQ3.out.setCell (Nat.le_refl _) _).setCell (Nat.le_refl _) _)⟩
        rw [HV1.out, HS.out]
        exact (HC3.out.set (Nat.lt_succ_self _) _).set (Nat.lt_succ_self _) _
      case measure => simp [intOf]
    · obtain rfl : d = m := by omega
      have hi1 : (d : Int) - 1 - d = -1 := by omega
      rw [hi1]
      have HR := Lib.hid (HR2.out.kept hq.out)
      obtain ⟨r0, r1⟩ := Blk2 HR.out
      obtain ⟨f0, f1⟩ := Blk2f HR.out
      obtain ⟨v0, v1⟩ := Blk2 hB8
      have HB8 := Lib.hid hB8
      have HC8 := Lib.hid hC8
      clear hB8 hC8 hI
      go_wp2_with fail
      refine bodyPost_ret (blk_res rfl _ rfl (blk_set2 HR.out) Try.underlying50 rfl (by rfl)) rfl ⟨_, rfl, ?_, ((HQ2.out.trans (hq.out.mono HQ2.out.size)).setCell (Nat.le_succ _) _).setCell (Nat.le_succ _) _⟩
      rw [HM.out]
      exact ((HC8.out.set (show w.heap.size + 1 < w2.heap.size + 1 by omega) _).set (show w.heap.size + 1 < w2.heap.size + 1 by omega) _).mono (Nat.le_succ_of_le HQ2.out.size)
end Go.Proofs.Ytmfmbglacebeiaa

/-
  Motions: the components as polynomials, on both sides.
-/
import Derived.Test.YtmfmbglacebeiaaPoSame
import Derived.Test.YtmfmbglacebeiaaFlE
namespace FL
open Go Go.RowKit PB VB PO
theorem rdi_new {W : World} {a b c : Int} {T : TypeId} {g : Nat} (hg : g = W.heap.size) : RdI (W.alloc (.cells #[.int .i64 a, .int .i64 b, .int .i64 c] T)) (.slice (some ⟨g, 0, none⟩) 3 3) [a, b, c] := by
  subst hg
  refine ⟨_, W.heap.size, 0, 3, rfl, fun _ => rfl, fun _ => by simp, fun j z hz => ?_⟩
  refine cell_new _ _ _ _ _ _ rfl ?_
  have hj := (List.getElem?_eq_some_iff.1 hz).1
  match j, hj with
  | 0, _ => simp at hz; subst hz; rfl
  | 1, _ => simp at hz; subst hz; rfl
  | 2, _ => simp at hz; subst hz; rfl
theorem bs_dr {N : Nat} {w w' : World} (h : Below N w w') : Below N w w'.drew := ⟨h.os, h.tape, h.output, h.size, h.block⟩
theorem sz1 (w : World) (o : Obj) : w.heap.size + 1 = (w.alloc o).heap.size := by simp
theorem rdi_alloc {W : World} {v : Value} {l : List Int} (h : RdI W v l) (o : Obj) : RdI (W.alloc o) v l := h.kept ((Below.refl _ _).alloc (Nat.le_refl _) _)
theorem rdi_drew {W : World} {v : Value} {l : List Int} (h : RdI W v l) : RdI W.drew v l := h
theorem alli3 {a b c : Int} (h1 : -9223372036854775808 ≤ a) (h1' : a ≤ 9223372036854775807) (h2 : -9223372036854775808 ≤ b) (h2' : b ≤ 9223372036854775807) (h3 : -9223372036854775808 ≤ c) (h3' : c ≤ 9223372036854775807) : AllI [a, b, c] := by
  intro j z hz
  have hj := (List.getElem?_eq_some_iff.1 hz).1
  match j, hj with
  | 0, _ => simp at hz; subst hz; exact ⟨h1, h1'⟩
  | 1, _ => simp at hz; subst hz; exact ⟨h2, h2'⟩
  | 2, _ => simp at hz; subst hz; exact ⟨h3, h3'⟩
end FL
namespace Go.Proofs.Ytmfmbglacebeiaa
open Go.RowKit PB VB FL PO
/-- The call returns two polynomials in canonical form. -/
def RetPolys (w : World) (l m : List Int) (e : Ending) (w' : World) : Prop := ∃ v u, e = .returned (.tuple #[v, u]) ∧ CanP w.heap.size w' v l ∧ CanP w.heap.size w' u m ∧ Below w.heap.size w w'
set_option maxRecDepth 100000 in
set_option maxHeartbeats 4000000 in
theorem fpolys_f (px py vx vy hx hy : Int) (w : World) (hv : ¬ VM px py vx vy hx hy) : Calls Try.prog 10 #[mo px py vx vy hx hy] w (RetPolys w [] []) := by
  have H1 := Lib.hid (fun W => fvalid_any px py vx vy hx hy W)
  rw [vmB_f hv] at H1
  clear hv
  go_enter Try.func10, Try.ntmps10
  go_wp2_with fail
  refine (H1.out _).mono ?_
  rintro e w1 ⟨rfl, hw1⟩
  have q1 := in1 hw1
  clear hw1
  go_wp2_with fail
  go_ret2
  exact ⟨_, _, rfl, canp_nil _ _, canp_nil _ _, q1⟩
set_option maxRecDepth 100000 in
set_option maxHeartbeats 4000000 in
theorem rpolys_f (px py vx vy hx hy : Int) (w : World) (hv : ¬ VM px py vx vy hx hy) : Calls Try.prog 11 #[mo px py vx vy hx hy] w (RetPolys w [] []) := by
  have H1 := Lib.hid (fun W => rvalid_any px py vx vy hx hy W)
  rw [vmB_f hv] at H1
  clear hv
  go_enter Try.func11, Try.ntmps11
  go_wp2_with fail
  refine (H1.out _).mono ?_
  rintro e w1 ⟨rfl, hw1⟩
  have q1 := in1 hw1
  clear hw1
  go_wp2_with fail
  go_ret2
  exact ⟨_, _, rfl, canp_nil _ _, canp_nil _ _, q1⟩
set_option maxRecDepth 100000 in
set_option maxHeartbeats 8000000 in
theorem fpolys_t (px py vx vy hx hy : Int) (w : World) (hv : VM px py vx vy hx hy) : Calls Try.prog 10 #[mo px py vx vy hx hy] w (RetPolys w (trimL [px, vx, hx]) (trimL [py, vy, hy])) := by
  have H1 := Lib.hid (fun W => fvalid_any px py vx vy hx hy W)
  rw [vmB_t hv] at H1
  obtain ⟨⟨p1, p2, p3, p4⟩, ⟨v1, v2, v3, v4⟩, ⟨h1, h2, h3, h4⟩⟩ := hv
  have HX := Lib.hid (fun g W (h : RdI W (.slice (some ⟨g, 0, none⟩) 3 3) [px, vx, hx]) => pof_any (some ⟨g, 0, none⟩) 3 3 [px, vx, hx] W h (by decide) (alli3 (by omega) (by omega) (by omega) (by omega) (by omega) (by omega)))
  have HY := Lib.hid (fun g W (h : RdI W (.slice (some ⟨g, 0, none⟩) 3 3) [py, vy, hy]) => pof_any (some ⟨g, 0, none⟩) 3 3 [py, vy, hy] W h (by decide) (alli3 (by omega) (by omega) (by omega) (by omega) (by omega) (by omega)))
  clear p1 p2 p3 p4 v1 v2 v3 v4 h1 h2 h3 h4
  go_enter Try.func10, Try.ntmps10
  go_wp2_with fail
  refine (H1.out _).mono ?_
  rintro e w1 ⟨rfl, hw1⟩
  have M1 : Blk w1 w.heap.size #[.int .i64 px, .int .i64 py, .int .i64 vx, .int .i64 vy, .int .i64 hx, .int .i64 hy] := (blk_new rfl).kept hw1
  have q1 := in1 hw1
  obtain ⟨m0, m1, m2, m3, m4, m5⟩ := Blk6 M1
  clear hw1
  have HK := Lib.hid (fun w' (h : Below w1.heap.size w1 w') => Blk6 (M1.kept h))
  have HQ := Lib.hid q1
  have hqq : Below w1.heap.size w1 w1 := Below.refl _ _
  have hqd : Below w1.heap.size w1 w1.drew := bs_dr hqq
  clear M1 q1
  go_upto_region 3 with fail
  go_region_held3 (fun w' => w'.cell? ⟨w.heap.size, 0, none⟩ = some (.int .i64 px) ∧ w'.cell? ⟨w.heap.size, 1, none⟩ = some (.int .i64 py) ∧ w'.cell? ⟨w.heap.size, 2, none⟩ = some (.int .i64 vx) ∧ w'.cell? ⟨w.heap.size, 3, none⟩ = some (.int .i64 vy) ∧ w'.cell? ⟨w.heap.size, 4, none⟩ = some (.int .i64 hx) ∧ w'.cell? ⟨w.heap.size, 5, none⟩ = some (.int .i64 hy))
    (first | with_reducible exact HK.out _ hqq | with_reducible exact HK.out _ hqd | with_reducible exact HK.out _ (bs_alloc hqq _) | with_reducible exact HK.out _ (bs_dr (bs_alloc hqq _)) | with_reducible exact HK.out _ (bs_dr (bs_alloc (bs_alloc hqq _) _)) | fail)
    (first
      | (go_at_call 26; (with_reducible refine (HY.out _ _ hA2).mono ?_); rintro e x2 ⟨vy1, rfl, hcy, hx2⟩; have hcy := hcy.mono (Nat.le_trans HQ.out.size hqq.size); have hcx := hcx.kept hx2; have hqq : Below w1.heap.size w1 x2 := hqq.trans (hx2.mono hqq.size); clear hx2)
      | (go_at_call 26; (with_reducible refine (HY.out _ _ (rdi_new rfl)).mono ?_); rintro e x2 ⟨vy1, rfl, hcy, hx2⟩; have hW := bs_alloc hqq (Obj.cells #[.int .i64 py, .int .i64 vy, .int .i64 hy] 3); have hcy := hcy.mono (Nat.le_trans HQ.out.size hW.size); have hcx := (hcx.kept (bs_alloc (Below.refl _ _) _)).kept hx2; have hqq : Below w1.heap.size w1 x2 := hW.trans (hx2.mono hW.size); clear hW hx2)
      | (go_at_call 26; (with_reducible refine (HX.out _ _ (rdi_drew (rdi_new rfl))).mono ?_); rintro e x1 ⟨vx1, rfl, hcx, hx1⟩; have hW := bs_dr (bs_alloc hqq (Obj.cells #[.int .i64 px, .int .i64 vx, .int .i64 hx] 3)); have hcx := hcx.mono (Nat.le_trans HQ.out.size hW.size); have hqq : Below w1.heap.size w1 x1 := hW.trans (hx1.mono hW.size); clear hW hx1)
      | (go_at_call 26; (with_reducible refine (HX.out _ _ (rdi_drew (rdi_alloc (rdi_new rfl) (Obj.cells #[.int .i64 py, .int .i64 vy, .int .i64 hy] 3)))).mono ?_); rintro e x1 ⟨vx1, rfl, hcx, hx1⟩; have hW := bs_dr (bs_alloc (bs_alloc hqq (Obj.cells #[.int .i64 px, .int .i64 vx, .int .i64 hx] 3)) (Obj.cells #[.int .i64 py, .int .i64 vy, .int .i64 hy] 3)); have hcx := hcx.mono (Nat.le_trans HQ.out.size hW.size); have hA2 := (rdi_drew (rdi_new (a := py) (b := vy) (c := hy) (sz1 w1 _))).kept hx1; have hqq : Below w1.heap.size w1 x1 := hW.trans (hx1.mono hW.size); clear hW hx1)
      | (go_at_call 26; (with_reducible refine (HX.out _ _ (rdi_drew (rdi_new (sz1 w1 (Obj.cells #[.int .i64 py, .int .i64 vy, .int .i64 hy] 3))))).mono ?_); rintro e x1 ⟨vx1, rfl, hcx, hx1⟩; have hW := bs_dr (bs_alloc (bs_alloc hqq (Obj.cells #[.int .i64 py, .int .i64 vy, .int .i64 hy] 3)) (Obj.cells #[.int .i64 px, .int .i64 vx, .int .i64 hx] 3)); have hcx := hcx.mono (Nat.le_trans HQ.out.size hW.size); have hA2 := (rdi_drew (rdi_alloc (rdi_new (a := py) (b := vy) (c := hy) (W := w1) rfl) _)).kept hx1; have hqq : Below w1.heap.size w1 x1 := hW.trans (hx1.mono hW.size); clear hW hx1)
      | (trace_state; fail "no arm"))
  all_goals (go_wp2_with fail; go_ret2; exact ⟨_, _, rfl, hcx, hcy, HQ.out.trans (hqq.mono HQ.out.size)⟩)
set_option maxRecDepth 100000 in
set_option maxHeartbeats 8000000 in
theorem rpolys_t (px py vx vy hx hy : Int) (w : World) (hv : VM px py vx vy hx hy) : Calls Try.prog 11 #[mo px py vx vy hx hy] w (RetPolys w (trimL [px, vx, hx]) (trimL [py, vy, hy])) := by
  have H1 := Lib.hid (fun W => rvalid_any px py vx vy hx hy W)
  rw [vmB_t hv] at H1
  obtain ⟨⟨p1, p2, p3, p4⟩, ⟨v1, v2, v3, v4⟩, ⟨h1, h2, h3, h4⟩⟩ := hv
  have HX := Lib.hid (fun g W (h : RdI W (.slice (some ⟨g, 0, none⟩) 3 3) [px, vx, hx]) => rof_any (some ⟨g, 0, none⟩) 3 3 [px, vx, hx] W h (by decide) (alli3 (by omega) (by omega) (by omega) (by omega) (by omega) (by omega)))
  have HY := Lib.hid (fun g W (h : RdI W (.slice (some ⟨g, 0, none⟩) 3 3) [py, vy, hy]) => rof_any (some ⟨g, 0, none⟩) 3 3 [py, vy, hy] W h (by decide) (alli3 (by omega) (by omega) (by omega) (by omega) (by omega) (by omega)))
  clear p1 p2 p3 p4 v1 v2 v3 v4 h1 h2 h3 h4
  go_enter Try.func11, Try.ntmps11
  go_wp2_with fail
  refine (H1.out _).mono ?_
  rintro e w1 ⟨rfl, hw1⟩
  have M1 : Blk w1 w.heap.size #[.int .i64 px, .int .i64 py, .int .i64 vx, .int .i64 vy, .int .i64 hx, .int .i64 hy] := (blk_new rfl).kept hw1
  have q1 := in1 hw1
  obtain ⟨m0, m1, m2, m3, m4, m5⟩ := Blk6 M1
  clear hw1
  have HK := Lib.hid (fun w' (h : Below w1.heap.size w1 w') => Blk6 (M1.kept h))
  have HQ := Lib.hid q1
  have hqq : Below w1.heap.size w1 w1 := Below.refl _ _
  have hqd : Below w1.heap.size w1 w1.drew := bs_dr hqq
  clear M1 q1
  go_upto_region 3 with fail
  go_region_held3 (fun w' => w'.cell? ⟨w.heap.size, 0, none⟩ = some (.int .i64 px) ∧ w'.cell? ⟨w.heap.size, 1, none⟩ = some (.int .i64 py) ∧ w'.cell? ⟨w.heap.size, 2, none⟩ = some (.int .i64 vx) ∧ w'.cell? ⟨w.heap.size, 3, none⟩ = some (.int .i64 vy) ∧ w'.cell? ⟨w.heap.size, 4, none⟩ = some (.int .i64 hx) ∧ w'.cell? ⟨w.heap.size, 5, none⟩ = some (.int .i64 hy))
    (first | with_reducible exact HK.out _ hqq | with_reducible exact HK.out _ hqd | with_reducible exact HK.out _ (bs_alloc hqq _) | with_reducible exact HK.out _ (bs_dr (bs_alloc hqq _)) | with_reducible exact HK.out _ (bs_dr (bs_alloc (bs_alloc hqq _) _)) | fail)
    (first
      | (go_at_call 27; (with_reducible refine (HY.out _ _ hA2).mono ?_); rintro e x2 ⟨vy1, rfl, hcy, hx2⟩; have hcy := hcy.mono (Nat.le_trans HQ.out.size hqq.size); have hcx := hcx.kept hx2; have hqq : Below w1.heap.size w1 x2 := hqq.trans (hx2.mono hqq.size); clear hx2)
      | (go_at_call 27; (with_reducible refine (HY.out _ _ (rdi_new rfl)).mono ?_); rintro e x2 ⟨vy1, rfl, hcy, hx2⟩; have hW := bs_alloc hqq (Obj.cells #[.int .i64 py, .int .i64 vy, .int .i64 hy] 3); have hcy := hcy.mono (Nat.le_trans HQ.out.size hW.size); have hcx := (hcx.kept (bs_alloc (Below.refl _ _) _)).kept hx2; have hqq : Below w1.heap.size w1 x2 := hW.trans (hx2.mono hW.size); clear hW hx2)
      | (go_at_call 27; (with_reducible refine (HX.out _ _ (rdi_drew (rdi_new rfl))).mono ?_); rintro e x1 ⟨vx1, rfl, hcx, hx1⟩; have hW := bs_dr (bs_alloc hqq (Obj.cells #[.int .i64 px, .int .i64 vx, .int .i64 hx] 3)); have hcx := hcx.mono (Nat.le_trans HQ.out.size hW.size); have hqq : Below w1.heap.size w1 x1 := hW.trans (hx1.mono hW.size); clear hW hx1)
      | (go_at_call 27; (with_reducible refine (HX.out _ _ (rdi_drew (rdi_alloc (rdi_new rfl) (Obj.cells #[.int .i64 py, .int .i64 vy, .int .i64 hy] 3)))).mono ?_); rintro e x1 ⟨vx1, rfl, hcx, hx1⟩; have hW := bs_dr (bs_alloc (bs_alloc hqq (Obj.cells #[.int .i64 px, .int .i64 vx, .int .i64 hx] 3)) (Obj.cells #[.int .i64 py, .int .i64 vy, .int .i64 hy] 3)); have hcx := hcx.mono (Nat.le_trans HQ.out.size hW.size); have hA2 := (rdi_drew (rdi_new (a := py) (b := vy) (c := hy) (sz1 w1 _))).kept hx1; have hqq : Below w1.heap.size w1 x1 := hW.trans (hx1.mono hW.size); clear hW hx1)
      | (go_at_call 27; (with_reducible refine (HX.out _ _ (rdi_drew (rdi_new (sz1 w1 (Obj.cells #[.int .i64 py, .int .i64 vy, .int .i64 hy] 3))))).mono ?_); rintro e x1 ⟨vx1, rfl, hcx, hx1⟩; have hW := bs_dr (bs_alloc (bs_alloc hqq (Obj.cells #[.int .i64 py, .int .i64 vy, .int .i64 hy] 3)) (Obj.cells #[.int .i64 px, .int .i64 vx, .int .i64 hx] 3)); have hcx := hcx.mono (Nat.le_trans HQ.out.size hW.size); have hA2 := (rdi_drew (rdi_alloc (rdi_new (a := py) (b := vy) (c := hy) (W := w1) rfl) _)).kept hx1; have hqq : Below w1.heap.size w1 x1 := hW.trans (hx1.mono hW.size); clear hW hx1)
      | (trace_state; fail "no arm"))
  all_goals (go_wp2_with fail; go_ret2; exact ⟨_, _, rfl, hcx, hcy, HQ.out.trans (hqq.mono HQ.out.size)⟩)
end Go.Proofs.Ytmfmbglacebeiaa

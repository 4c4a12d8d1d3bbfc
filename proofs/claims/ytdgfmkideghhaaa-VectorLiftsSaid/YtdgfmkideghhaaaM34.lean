/-
  The verifier's Trim, Neg, Of.
  The verifier's addMag.
  The verifier's subMag.
  The verifier's mulMag.
-/
import Derived.Test.YtdgfmkideghhaaaM18
import Derived.Test.YtdgfmkideghhaaaM28
import Derived.Test.YtdgfmkideghhaaaM33
namespace Go.Proofs.Ytdgfmkideghhaaa
open Go.RowKit PB

set_option maxHeartbeats 1600000 in
set_option maxRecDepth 100000 in
theorem trim_ref (v : Value) (z : Int) (w : World) (h : IsInt w v z) :
    Calls Try.prog 27 #[v] w (RetInt w z) := by
  obtain ⟨s, base, b, off, n, c, X, rfl, hb, hX, hn, hl, rfl⟩ := h
  have HM := Lib.hid (fun W (h : Below w.heap.size w W) => make1_any s base b off n c X W hb (hX.kept h) hn hl)
  clear hb
  go_enter Try.func27, Try.ntmps27
  go_upto_region 1 with fail
  generalize hW : World.alloc _ _ = W
  have B0 : Blk W w.heap.size #[.bool s, .slice base n c] := by rw [← hW]; exact (blk_new rfl).alloc _
  have B1 : Blk W (w.heap.size + 1) #[.bool false, .slice none 0 0] := by rw [← hW]; exact blk_new (by simp)
  have hbW : Below w.heap.size w W := by rw [← hW]; exact bs_alloc (bs_alloc (Below.refl _ _) _) _
  have HS := Lib.hid (show W.heap.size = w.heap.size + 2 by rw [← hW]; simp)
  obtain ⟨a0, a1⟩ := Blk2 B0
  clear hW
  go_wp2_with fail
  refine (HM.out W hbW).mono ?_
  rintro e w1 ⟨u, rfl, hcan, hb1⟩
  obtain ⟨s1, q1, c1, rfl⟩ := can_agg hcan
  obtain ⟨r0, r1⟩ := Blk2 (B1.kept hb1)
  obtain ⟨f0, f1⟩ := Blk2f (B1.kept hb1)
  have HC := Lib.hid hcan
  have HB1 := Lib.hid (bs_trans hbW hb1)
  clear hcan hb1 hbW HM B0 B1
  go_wp2_with fail
  have h1 := HS.out
  exact bodyPost_ret (v := .agg #[.bool s1, .slice q1 _ c1]) (by simp [results, Try.results27, go_sem, r0, r1]) rfl
    ⟨_, rfl, ((HC.out.set (by show w.heap.size + 1 < W.heap.size; omega) _).set (by show w.heap.size + 1 < W.heap.size; omega) _).mono (by omega), bs_set (bs_set HB1.out (by show w.heap.size ≤ w.heap.size + 1; omega) _) (by show w.heap.size ≤ w.heap.size + 1; omega) _⟩

set_option maxHeartbeats 1600000 in
set_option maxRecDepth 100000 in
theorem neg_ref (v : Value) (z : Int) (w : World) (h : IsInt w v z) :
    Calls Try.prog 29 #[v] w (RetInt w (-z)) := by
  obtain ⟨s, base, b, off, n, c, X, rfl, hb, hX, hn, hl, hz⟩ := h
  have hsg : (-z) = sg (!s) X := by subst hz; unfold sg; cases s <;> simp
  rw [hsg]
  have HM := Lib.hid (fun W (h : Below w.heap.size w W) => make1_any (!s) base b off n c X W hb (hX.kept h) hn hl)
  clear hb hz hsg
  go_enter Try.func29, Try.ntmps29
  go_upto_region 1 with fail
  generalize hW : World.alloc _ _ = W
  have B0 : Blk W w.heap.size #[.bool s, .slice base n c] := by rw [← hW]; exact (blk_new rfl).alloc _
  have B1 : Blk W (w.heap.size + 1) #[.bool false, .slice none 0 0] := by rw [← hW]; exact blk_new (by simp)
  have hbW : Below w.heap.size w W := by rw [← hW]; exact bs_alloc (bs_alloc (Below.refl _ _) _) _
  have HS := Lib.hid (show W.heap.size = w.heap.size + 2 by rw [← hW]; simp)
  obtain ⟨a0, a1⟩ := Blk2 B0
  clear hW
  go_wp2_with fail
  refine (HM.out W hbW).mono ?_
  rintro e w1 ⟨u, rfl, hcan, hb1⟩
  obtain ⟨s1, q1, c1, rfl⟩ := can_agg hcan
  obtain ⟨r0, r1⟩ := Blk2 (B1.kept hb1)
  obtain ⟨f0, f1⟩ := Blk2f (B1.kept hb1)
  have HC := Lib.hid hcan
  have HB1 := Lib.hid (bs_trans hbW hb1)
  clear hcan hb1 hbW HM B0 B1
  go_wp2_with fail
  have h1 := HS.out
  exact bodyPost_ret (v := .agg #[.bool s1, .slice q1 _ c1]) (by simp [results, Try.results29, go_sem, r0, r1]) rfl
    ⟨_, rfl, ((HC.out.set (by show w.heap.size + 1 < W.heap.size; omega) _).set (by show w.heap.size + 1 < W.heap.size; omega) _).mono (by omega), bs_set (bs_set HB1.out (by show w.heap.size ≤ w.heap.size + 1; omega) _) (by show w.heap.size ≤ w.heap.size + 1; omega) _⟩
end Go.Proofs.Ytdgfmkideghhaaa

namespace PB
open Go Go.RowKit
theorem addm_step {X Y S c k T : Nat} (h : S + c * B^k = X % B^k + Y % B^k) (hT : c + dg X k + dg Y k = T) :
    (S + T % B * B^k) + T / B * B^(k+1) = X % B^(k+1) + Y % B^(k+1) := by
  have e1 := Nat.div_add_mod T B
  rw [mod_succ X, mod_succ Y, pow_succ]
  have e2 : (T % B + T / B * B) * B^k = (c + dg X k + dg Y k) * B^k := by
    rw [hT, Nat.mul_comm (T / B) B, Nat.add_comm, e1]
  rw [Nat.add_mul, Nat.add_mul, Nat.add_mul, Nat.mul_assoc, Nat.mul_comm B] at e2
  omega
theorem num_word {P : Nat} {w : World} {E : TypeId} {d : Nat} (hd : d < B) (hP : w.heap.size = P) : Num (w.alloc (Obj.cells #[.int .u32 d] E)) P 0 1 d := by
  subst hP
  refine ⟨by rw [Nat.pow_one]; exact hd, fun i hi => ?_⟩
  obtain rfl : i = 0 := by omega
  rw [show dg d 0 = d by unfold dg; rw [Nat.pow_zero, Nat.div_one, Nat.mod_eq_of_lt hd]]
  exact cell_new _ _ _ _ _ _ rfl rfl
end PB
namespace Go.Proofs.Ytdgfmkideghhaaa
open Go.RowKit PB

set_option maxHeartbeats 3200000 in
set_option maxRecDepth 100000 in
theorem addmag_any (basex basey : Option Addr) (bx ox n X cx by_ oy m Y cy : Nat) (w : World) (hbx : n ≠ 0 → basex = some ⟨bx, ox, none⟩) (hby : m ≠ 0 → basey = some ⟨by_, oy, none⟩)
    (hX : Num w bx ox n X) (hY : Num w by_ oy m Y) (hn : n ≤ 1000000000) (hm : m ≤ 1000000000) :
    Calls Try.prog 126 #[.slice basex n cx, .slice basey m cy] w (RetWid 77 w.heap.size w (X + Y) (max n m + 1)) := by
  obtain ⟨i0, hi, hz0, hz1, hz2⟩ := info_parts info51
  have HBX := Lib.hid hbx
  have HBY := Lib.hid hby
  have HXL := Lib.hid hX.lt
  have HYL := Lib.hid hY.lt
  obtain ⟨M, hM⟩ : ∃ M, max n m = M := ⟨_, rfl⟩
  have hnM : n ≤ M := by omega
  have hmM : m ≤ M := by omega
  have hMM : M ≤ 1000000000 := by omega
  rw [hM]
  clear hbx hby hM
  go_enter Try.func126, Try.ntmps126
  go_wp2_with fail
  go_loopw [5, 6, 7] (fun o c i wr => ∃ k cc S : Nat, k ≤ M + 1 ∧ cc ≤ 1 ∧ c = .int .u64 cc ∧ i = .int .i64 k ∧ Hid (S + cc * B^k = X % B^k + Y % B^k) ∧ OwnL 77 w.heap.size wr o k S ∧ Below w.heap.size w wr) (fun _ _ i _ => M + 1 - (intOf i).toNat)
  case atStart => exact ⟨0, 0, 0, by omega, by omega, rfl, rfl, Lib.hid (by simp [Nat.mod_one]), OwnL.nil _ _ _, Below.refl _ _⟩
  case round =>
    obtain ⟨k, cc, S, hk, hcc, rfl, rfl, hE, hO, hb⟩ := hrel
    have hS := hO.1
    have hx := dg_lt X k
    have hy := dg_lt Y k
    have hgr := hb.size
    have HX1 := Lib.hid (show k < n → wr.cell? ⟨bx, ox + k, none⟩ = some (.int .u32 (dg X k)) from fun h => (hX.kept hb).cell h)
    have HY1 := Lib.hid (show k < m → wr.cell? ⟨by_, oy + k, none⟩ = some (.int .u32 (dg Y k)) from fun h => (hY.kept hb).cell h)
    obtain ⟨T, hT⟩ : ∃ T, cc + dg X k + dg Y k = T := ⟨_, rfl⟩
    have HT := Lib.hid hT
    have HST := Lib.hid (addm_step hE.out hT)
    have HTB := Lib.hid (show T / B ≤ 1 by unfold B at *; omega)
    have HOUT := Lib.hid (show n ≤ k → m ≤ k → cc = 0 → S = X + Y from fun h1 h2 h3 => by
      have h := hE.out
      rw [Nat.mod_eq_of_lt (Nat.lt_of_lt_of_le HXL.out (Nat.pow_le_pow_right (by decide) h1)), Nat.mod_eq_of_lt (Nat.lt_of_lt_of_le HYL.out (Nat.pow_le_pow_right (by decide) h2)), h3] at h
      omega)
    have HGO := Lib.hid (show k = M + 1 → cc = 0 from fun h => by
      subst h
      have h := hE.out
      have a1 := Nat.lt_of_lt_of_le HXL.out (Nat.pow_le_pow_right (show 0 < B by decide) hnM)
      have a2 := Nat.lt_of_lt_of_le HYL.out (Nat.pow_le_pow_right (show 0 < B by decide) hmM)
      have a3 : B^(M+1) = B^M * B := pow_succ _
      have a4 : B^M * 2 ≤ B^M * B := Nat.mul_le_mul_left _ (by decide)
      rw [Nat.mod_eq_of_lt (show X < B^(M+1) by omega), Nat.mod_eq_of_lt (show Y < B^(M+1) by omega)] at h
      apply Nat.eq_zero_of_not_pos
      intro h0
      have a5 : 1 * B^(M+1) ≤ cc * B^(M+1) := Nat.mul_le_mul_right _ h0
      omega)
    have t1 : (cc : Int) ≤ 1 := by omega
    have t2 : (dg X k : Int) < 4294967296 := by unfold B at *; omega
    have t3 : (dg Y k : Int) < 4294967296 := by unfold B at *; omega
    have t4 : (k : Int) ≤ 1000000001 := by omega
    have t5 : (0 : Int) ≤ k := by omega
    have HTM := Lib.hid (show (T : Int) % 4294967296 = ((T % B : Nat) : Int) from (Int.natCast_emod _ _).symm)
    have HTD := Lib.hid (show (T : Int) / 4294967296 = ((T / B : Nat) : Int) from (Int.natCast_ediv _ _).symm)
    have DX0 := Lib.hid (show n ≤ k → dg X k = 0 from fun h => dg_of_lt HXL.out h)
    have DY0 := Lib.hid (show m ≤ k → dg Y k = 0 from fun h => dg_of_lt HYL.out h)
    clear hE hT
    by_cases kn : k < n
    · have i1 : (k : Int) < n := by omega
      have c1 := HX1.out kn
      obtain rfl := HBX.out (by omega)
      by_cases km : k < m
      · have i2 : (k : Int) < m := by omega
        have c2 := HY1.out km
        obtain rfl := HBY.out (by omega)
        have e0 : (cc : Int) + dg X k + dg Y k = (T : Nat) := by  have := HT.out; omega
        have hk1 : k < M + 1 := by omega
        clear HX1 HY1
        go_wp2_with (at_builtin; refine wpList_append_limbs _ rfl _ _ 22 rfl 77 i0 Try.underlying22 hi hz0 hz1 hz2 w.heap.size _ k S rfl ⟨hO.1, hO.2.alloc _⟩ (some ⟨wr.heap.size, 0, none⟩) wr.heap.size 0 1 1 (T % B) rfl (fun _ => rfl) ?e1 (by omega) (by simp; omega) ?_)
        case e1 => first | (rw [HTM.out]; exact num_word (Nat.mod_lt _ (by decide)) rfl) | (rw [Nat.mod_eq_of_lt (show T < B by unfold B; omega)]; exact num_word (by unfold B; omega) rfl)
        intro v' w' hown hbl
        have hb2 := (hb.alloc hgr _).trans hbl
        clear hO hgr hbl
        go_wp2_with fail
        go_roundw
        case rel =>
          rw [HTD.out]
          exact ⟨k + 1, T / B, _, by omega, HTB.out, rfl, by go_num, Lib.hid HST.out, hown, hb2⟩
        case measure => simp [intOf]; omega
      · have i2 : ¬ (k : Int) < m := by omega
        have e0 : (cc : Int) + dg X k = (T : Nat) := by have d0 := DY0.out (by omega);  have := HT.out; omega
        have hk1 : k < M + 1 := by omega
        clear HX1 HY1
        go_wp2_with (at_builtin; refine wpList_append_limbs _ rfl _ _ 22 rfl 77 i0 Try.underlying22 hi hz0 hz1 hz2 w.heap.size _ k S rfl ⟨hO.1, hO.2.alloc _⟩ (some ⟨wr.heap.size, 0, none⟩) wr.heap.size 0 1 1 (T % B) rfl (fun _ => rfl) ?e1 (by omega) (by simp; omega) ?_)
        case e1 => first | (rw [HTM.out]; exact num_word (Nat.mod_lt _ (by decide)) rfl) | (rw [Nat.mod_eq_of_lt (show T < B by unfold B; omega)]; exact num_word (by unfold B; omega) rfl)
        intro v' w' hown hbl
        have hb2 := (hb.alloc hgr _).trans hbl
        clear hO hgr hbl
        go_wp2_with fail
        go_roundw
        case rel =>
          rw [HTD.out]
          exact ⟨k + 1, T / B, _, by omega, HTB.out, rfl, by go_num, Lib.hid HST.out, hown, hb2⟩
        case measure => simp [intOf]; omega
    · have i1 : ¬ (k : Int) < n := by omega
      by_cases km : k < m
      · have i2 : (k : Int) < m := by omega
        have c2 := HY1.out km
        obtain rfl := HBY.out (by omega)
        have e0 : (cc : Int) + dg Y k = (T : Nat) := by have d0 := DX0.out (by omega);  have := HT.out; omega
        have hk1 : k < M + 1 := by omega
        clear HX1 HY1
        go_wp2_with (at_builtin; refine wpList_append_limbs _ rfl _ _ 22 rfl 77 i0 Try.underlying22 hi hz0 hz1 hz2 w.heap.size _ k S rfl ⟨hO.1, hO.2.alloc _⟩ (some ⟨wr.heap.size, 0, none⟩) wr.heap.size 0 1 1 (T % B) rfl (fun _ => rfl) ?e1 (by omega) (by simp; omega) ?_)
        case e1 => first | (rw [HTM.out]; exact num_word (Nat.mod_lt _ (by decide)) rfl) | (rw [Nat.mod_eq_of_lt (show T < B by unfold B; omega)]; exact num_word (by unfold B; omega) rfl)
        intro v' w' hown hbl
        have hb2 := (hb.alloc hgr _).trans hbl
        clear hO hgr hbl
        go_wp2_with fail
        go_roundw
        case rel =>
          rw [HTD.out]
          exact ⟨k + 1, T / B, _, by omega, HTB.out, rfl, by go_num, Lib.hid HST.out, hown, hb2⟩
        case measure => simp [intOf]; omega
      · have i2 : ¬ (k : Int) < m := by omega
        by_cases hz : cc = 0
        · have HV := Lib.hid (HOUT.out (by omega) (by omega) hz)
          have i3 : ¬ (0 : Int) < cc := by omega
          have i4 : ¬ 0 < cc := by omega
          clear hz
          go_wp2_with fail
          go_ret
          rw [← HV.out]
          exact ⟨_, k, rfl, hO, by omega, hb⟩
        · have i3 : (0 : Int) < cc := by omega
          have i4 : 0 < cc := by omega
          obtain rfl : T = cc := by have d0 := DX0.out (by omega); have d1 := DY0.out (by omega);  have := HT.out; omega
          have hk1 : k < M + 1 := by have := HGO.out; omega
          clear HX1 HY1
          go_wp2_with (at_builtin; refine wpList_append_limbs _ rfl _ _ 22 rfl 77 i0 Try.underlying22 hi hz0 hz1 hz2 w.heap.size _ k S rfl ⟨hO.1, hO.2.alloc _⟩ (some ⟨wr.heap.size, 0, none⟩) wr.heap.size 0 1 1 (T % B) rfl (fun _ => rfl) ?e1 (by omega) (by simp; omega) ?_)
          case e1 => first | (rw [HTM.out]; exact num_word (Nat.mod_lt _ (by decide)) rfl) | (rw [Nat.mod_eq_of_lt (show T < B by unfold B; omega)]; exact num_word (by unfold B; omega) rfl)
          intro v' w' hown hbl
          have hb2 := (hb.alloc hgr _).trans hbl
          clear hO hgr hbl
          go_wp2_with fail
          go_roundw
          case rel =>
            rw [HTD.out]
            exact ⟨k + 1, T / B, _, by omega, HTB.out, rfl, by go_num, Lib.hid HST.out, hown, hb2⟩
          case measure => simp [intOf]; omega
end Go.Proofs.Ytdgfmkideghhaaa

namespace PB
open Go Go.RowKit
theorem subm_step {X Y S c k d c' : Nat} (h : X % B^k + c * B^k = S + Y % B^k) (hT : dg X k + c' * B = d + dg Y k + c) :
    X % B^(k+1) + c' * B^(k+1) = (S + d * B^k) + Y % B^(k+1) := by
  rw [mod_succ X, mod_succ Y, pow_succ]
  have e2 : (dg X k + c' * B) * B^k = (d + dg Y k + c) * B^k := by rw [hT]
  rw [Nat.add_mul, Nat.add_mul, Nat.add_mul, Nat.mul_assoc, Nat.mul_comm B] at e2
  omega
end PB
namespace Go.Proofs.Ytdgfmkideghhaaa
open Go.RowKit PB

set_option maxHeartbeats 3200000 in
set_option maxRecDepth 100000 in
theorem submag_any (basex basey : Option Addr) (bx ox n X cx by_ oy m Y cy : Nat) (w : World) (hbx : n ≠ 0 → basex = some ⟨bx, ox, none⟩) (hby : m ≠ 0 → basey = some ⟨by_, oy, none⟩)
    (hX : Num w bx ox n X) (hY : Num w by_ oy m Y) (hn : n ≤ 1000000000) (hle : Y ≤ X) :
    Calls Try.prog 127 #[.slice basex n cx, .slice basey m cy] w (RetWid 77 w.heap.size w (X - Y) n) := by
  obtain ⟨i0, hi, hz0, hz1, hz2⟩ := info_parts info51
  have HBX := Lib.hid hbx
  have HBY := Lib.hid hby
  have HXL := Lib.hid hX.lt
  have HYL := Lib.hid hY.lt
  have HLE := Lib.hid hle
  clear hbx hby hle
  go_enter Try.func127, Try.ntmps127
  go_wp2_with fail
  go_loopw [5, 6, 7] (fun o c i wr => ∃ k cc S : Nat, k ≤ n ∧ cc ≤ 1 ∧ c = .int .u64 cc ∧ i = .int .i64 k ∧ Hid (X % B^k + cc * B^k = S + Y % B^k) ∧ OwnL 77 w.heap.size wr o k S ∧ Below w.heap.size w wr) (fun _ _ i _ => n - (intOf i).toNat)
  case atStart => exact ⟨0, 0, 0, by omega, by omega, rfl, rfl, Lib.hid (by simp [Nat.mod_one]), OwnL.nil _ _ _, Below.refl _ _⟩
  case round =>
    obtain ⟨k, cc, S, hk, hcc, rfl, rfl, hE, hO, hb⟩ := hrel
    have hS := hO.1
    have hgr := hb.size
    by_cases kn : k < n
    · have i1 : (k : Int) < n := by omega
      have c1 := (hX.kept hb).cell kn
      obtain rfl := HBX.out (by omega)
      have HY1 := Lib.hid (show k < m → wr.cell? ⟨by_, oy + k, none⟩ = some (.int .u32 (dg Y k)) from fun h => (hY.kept hb).cell h)
      have t4 : (k : Int) ≤ 1000000000 := by omega
      have t5 : (0 : Int) ≤ k := by omega
      have hx := dg_lt X k
      have hy := dg_lt Y k
      have hkn : k + 1 ≤ n := by omega
      obtain ⟨d, c', hT, hd, hc', hw1⟩ : ∃ d c' : Nat, dg X k + c' * B = d + dg Y k + cc ∧ d < B ∧ c' ≤ 1 ∧ ∃ D : Nat, IntKind.u64.wrap (IntKind.u64.wrap ((dg X k : Int) - dg Y k) - cc) = (D : Int) ∧ (D : Int) % 4294967296 = (d : Int) ∧ (D : Int) / 9223372036854775808 = (c' : Int) := by
        by_cases h : dg Y k + cc ≤ dg X k
        · refine ⟨dg X k - (dg Y k + cc), 0, by omega, by omega, by omega, dg X k - (dg Y k + cc), ?_, ?_, ?_⟩
          · rw [IntKind.wrap_u64, IntKind.wrap_u64]; unfold B at *; omega
          · unfold B at *; omega
          · unfold B at *; omega
        · refine ⟨dg X k + B - (dg Y k + cc), 1, by unfold B at *; omega, by unfold B at *; omega, by omega, dg X k + 18446744073709551616 - (dg Y k + cc), ?_, ?_, ?_⟩
          · rw [IntKind.wrap_u64, IntKind.wrap_u64]; unfold B at *; omega
          · unfold B at *; omega
          · unfold B at *; omega
      obtain ⟨D, hw, hw2, hw3⟩ := hw1
      have t2 : (dg X k : Int) < 4294967296 := by unfold B at *; omega
      have t3 : (dg Y k : Int) < 4294967296 := by unfold B at *; omega
      have HST := Lib.hid (subm_step hE.out hT)
      have DY0 := Lib.hid (show m ≤ k → dg Y k = 0 from fun h => dg_of_lt HYL.out h)
      have HC := Lib.hid hc'
      have HD := Lib.hid hd
      have HW := Lib.hid hw
      have HW2 := Lib.hid hw2
      have HW3 := Lib.hid hw3
      clear hE hT hx hw hw2 hw3 hd hc'
      by_cases km : k < m
      · have i2 : (k : Int) < m := by omega
        have c2 := HY1.out km
        obtain rfl := HBY.out (by omega)
        clear HY1
        go_wp2_with (at_builtin; rw [HW.out, HW2.out]; refine wpList_append_limbs _ rfl _ _ 22 rfl 77 i0 Try.underlying22 hi hz0 hz1 hz2 w.heap.size _ k S rfl ⟨hO.1, hO.2.alloc _⟩ (some ⟨wr.heap.size, 0, none⟩) wr.heap.size 0 1 1 d rfl (fun _ => rfl) ?e1 (by omega) (by simp; omega) ?_)
        case e1 => exact num_word HD.out rfl
        intro v' w' hown hbl
        have hb2 := (hb.alloc hgr _).trans hbl
        clear hO hgr hbl
        go_wp2_with fail
        go_roundw
        case rel =>
          rw [HW3.out]
          exact ⟨k + 1, c', _, by omega, HC.out, rfl, by go_num, Lib.hid HST.out, hown, hb2⟩
        case measure => simp [intOf]; omega
      · have i2 : ¬ (k : Int) < m := by omega
        have d0 := DY0.out (by omega)
        rw [d0] at HW
        have HW' := HW.out
        simp only [Int.natCast_zero, Int.sub_zero] at HW'
        rw [show IntKind.u64.wrap (dg X k : Int) = (dg X k : Int) by rw [IntKind.wrap_u64]; omega] at HW'
        have HW := Lib.hid HW'
        clear HY1 d0 HW'
        go_wp2_with (at_builtin; rw [HW.out, HW2.out]; refine wpList_append_limbs _ rfl _ _ 22 rfl 77 i0 Try.underlying22 hi hz0 hz1 hz2 w.heap.size _ k S rfl ⟨hO.1, hO.2.alloc _⟩ (some ⟨wr.heap.size, 0, none⟩) wr.heap.size 0 1 1 d rfl (fun _ => rfl) ?e1 (by omega) (by simp; omega) ?_)
        case e1 => exact num_word HD.out rfl
        intro v' w' hown hbl
        have hb2 := (hb.alloc hgr _).trans hbl
        clear hO hgr hbl
        go_wp2_with fail
        go_roundw
        case rel =>
          rw [HW3.out]
          exact ⟨k + 1, c', _, by omega, HC.out, rfl, by go_num, Lib.hid HST.out, hown, hb2⟩
        case measure => simp [intOf]; omega
    · obtain rfl : k = n := by omega
      have i1 : ¬ (k : Int) < k := by omega
      have HV := Lib.hid (show X - Y = S by
        have h := hE.out
        have a1 := HXL.out
        have a2 := HLE.out
        rw [Nat.mod_eq_of_lt a1, Nat.mod_eq_of_lt (show Y < B^k by omega)] at h
        have : cc = 0 := by
          apply Nat.eq_zero_of_not_pos
          intro h0
          have a5 : 1 * B^k ≤ cc * B^k := Nat.mul_le_mul_right _ h0
          omega
        subst this
        omega)
      clear hE
      go_wp2_with fail
      go_ret
      rw [HV.out]
      exact ⟨_, k, rfl, hO, by omega, hb⟩
end Go.Proofs.Ytdgfmkideghhaaa

namespace PB
open Go
theorem mul_wraps2 {m y d c : Nat} (hm : m < B) (hy : y < B) (hd : d < B) (hc : c < B) :
    IntKind.u64.wrap ((c : Int) + IntKind.u64.wrap (IntKind.u64.wrap (d : Int) + IntKind.u64.wrap (IntKind.u64.wrap (m : Int) * IntKind.u64.wrap (y : Int)))) = ((c + (m * y + d) : Nat) : Int) := by
  rw [Int.add_comm (IntKind.u64.wrap (d : Int))]
  exact mul_wraps hm hy hd hc
theorem mul_wraps2_lo {m y d c : Nat} (hm : m < B) (hy : y < B) (hd : d < B) (hc : c < B) :
    IntKind.u64.wrap ((c : Int) + IntKind.u64.wrap (IntKind.u64.wrap (d : Int) + IntKind.u64.wrap (IntKind.u64.wrap (m : Int) * IntKind.u64.wrap (y : Int)))) % 4294967296 = (mulLo m y d c : Nat) := by
  rw [mul_wraps2 hm hy hd hc]; exact (Int.natCast_emod _ _).symm
theorem mul_wraps2_hi {m y d c : Nat} (hm : m < B) (hy : y < B) (hd : d < B) (hc : c < B) :
    IntKind.u64.wrap ((c : Int) + IntKind.u64.wrap (IntKind.u64.wrap (d : Int) + IntKind.u64.wrap (IntKind.u64.wrap (m : Int) * IntKind.u64.wrap (y : Int)))) / 4294967296 = (mulHi m y d c : Nat) := by
  rw [mul_wraps2 hm hy hd hc]; exact (Int.natCast_ediv _ _).symm
end PB
namespace Go.Proofs.Ytdgfmkideghhaaa
open Go.RowKit PB

set_option maxRecDepth 100000 in
set_option maxHeartbeats 1600000 in
theorem mulmag_any (basex basey : Option Addr) (bx ox nx cx X by_ oy ny cy Y : Nat) (w : World) (hbx : nx ≠ 0 → basex = some ⟨bx, ox, none⟩) (hby : ny ≠ 0 → basey = some ⟨by_, oy, none⟩)
    (hX : Num w bx ox nx X) (hY : Num w by_ oy ny Y) (hc : nx ≤ 500000000000) (hc' : ny ≤ 500000000000) :
    Calls Try.prog 128 #[.slice basex nx cx, .slice basey ny cy] w fun e w' => e = .returned (.slice (some ⟨w.heap.size, 0, none⟩) (nx + ny) (nx + ny)) ∧ Fresh w w' w.heap.size (nx + ny) (X * Y) := by
  have HB := Lib.hid hbx
  have HB' := Lib.hid hby
  clear hbx hby
  go_enter Try.func128, Try.ntmps128
  go_wp2_with (at_make; refine wpList_make_num _ rfl _ _ 22 rfl 77 info51 Try.underlying22 .i64 .i64 _ _ (nx + ny) rfl rfl (by omega) (by omega) (by omega) ?_)
  intro w1 hb1 hz1 hS1 hF1 _
  have HN := Lib.hid hz1
  clear hz1
  go_wp2_with fail
  go_loopw [6] (fun i wr => ∃ k : Nat, k ≤ nx ∧ i = .int .i64 k ∧ Below w.heap.size w wr ∧ Num wr w.heap.size 0 (nx + ny) ((X % B^k) * Y) ∧ Free wr w.heap.size 0 (nx + ny) ∧ Hid (w1.heap.size ≤ wr.heap.size)) (fun i _ => nx - (intOf i).toNat)
  case atStart => exact ⟨0, by omega, rfl, hb1, hS1.val (by simp [Nat.mod_one]), hF1, show _ from Nat.le_refl _⟩
  case round =>
    obtain ⟨k, hk, rfl, hbr, hSr, hFr, hzr⟩ := hrel
    by_cases hlt : k < nx
    · obtain rfl := HB.out (by omega)
      have c1 := (hX.kept hbr).cell (i := k) (by omega)
      have i1 : (k : Int) < nx := by omega
      have i4 : (0 : Int) ≤ k := by omega
      have i5 : ¬ (nx + ny = k) := by omega
      have i6 : (k : Int) ≤ nx + ny := by omega
      obtain ⟨m, hm⟩ : ∃ m, dg X k = m := ⟨_, rfl⟩
      have hmB : m < B := hm ▸ dg_lt X k
      rw [hm] at c1
      have HM := Lib.hid hm
      clear hm
      have hP0 : X % B^k * Y < B^(k + ny) := by
        rw [pow_add]; exact Nat.mul_lt_mul'' (mod_lt_pow _ _) hY.lt
      obtain ⟨P0, hP0e⟩ : ∃ P0, X % B^k * Y = P0 := ⟨_, rfl⟩
      rw [hP0e] at hSr hP0
      have HP := Lib.hid hP0e
      clear hP0e
      go_wp2_with fail
      go_loopw [7, 8] (fun c i wr => ∃ j cc P : Nat, j ≤ ny ∧ cc < B ∧ c = .int .u64 cc ∧ i = .int .i64 j ∧ P < B^(k + ny) ∧ Hid (P + cc * B^(k + j) = P0 + m * (Y % B^j) * B^k) ∧ Below w.heap.size w wr ∧ Num wr w.heap.size 0 (nx + ny) P ∧ Free wr w.heap.size 0 (nx + ny) ∧ Hid (w1.heap.size ≤ wr.heap.size)) (fun _ i _ => ny - (intOf i).toNat)
      case atStart => exact ⟨0, 0, P0, by omega, by decide, rfl, rfl, hP0, Lib.hid (by simp [Nat.mod_one]), hbr, hSr, hFr, hzr⟩
      case round =>
        clear hbr hSr hFr hzr
        obtain ⟨j, cc, P, hj, hcc, rfl, rfl, hP, hE, hbr, hSr, hFr, hzr⟩ := hrel
        by_cases hlt2 : j < ny
        · obtain rfl := HB'.out (by omega)
          have c2 := (hY.kept hbr).cell (i := j) (by omega)
          have cX := (hX.kept hbr).cell (i := k) hlt
          rw [HM.out] at cX
          have c3 := hSr.cell0 (i := k + j) (by omega)
          have f3 := hFr.at0 (i := k + j) (by omega)
          obtain ⟨y, hy⟩ : ∃ y, dg Y j = y := ⟨_, rfl⟩
          have hyB : y < B := hy ▸ dg_lt Y j
          rw [hy] at c2
          obtain ⟨d, hd⟩ : ∃ d, dg P (k + j) = d := ⟨_, rfl⟩
          have hdB : d < B := hd ▸ dg_lt P (k + j)
          rw [hd] at c3
          have HY := Lib.hid hy
          have HD := Lib.hid hd
          clear hy hd
          have j1 : (j : Int) < ny := by omega
          have j2 : (0 : Int) ≤ j := by omega
          have j3 : (j : Int) < nx + ny - k := by omega
          obtain ⟨q, hq⟩ : ∃ q, k + j = q := ⟨_, rfl⟩
          have jq : (k : Int) + (j : Int) = (q : Nat) := by omega
          have j4 : (q : Int) < nx + ny := by omega
          have j5 : (0 : Int) ≤ q := by omega
          have j6 : IntKind.i64.wrap (q : Int) = (q : Int) := by rw [IntKind.wrap_i64]; omega
          rw [hq] at c3 f3 HD
          have HQ := Lib.hid hq
          clear hq
          go_wp2_with fail
          go_quiet (fail)
          go_wp2_with fail
          go_roundw
          case rel =>
            rw [mul_wraps2_lo hmB hyB hdB hcc, mul_wraps2_hi hmB hyB hdB hcc]
            rw [← HQ.out]
            refine ⟨j + 1, mulHi m y d cc, put P (k + j) (mulLo m y d cc), by omega, mulHi_lt hmB hyB hdB hcc, rfl, by go_num, put_lt (mulLo_lt _ _ _ _) hP (by omega), Lib.hid ?_,
              (below_drewN hbr _).setCell (Nat.le_refl _) _, hSr.drewN.set0 (by omega) (mulLo_lt _ _ _ _), Free.set (fun i hi => (by rw [World.frozen?_drewN]; exact hFr i hi)) _ _, Lib.hid ?_⟩
            · rw [mod_succ Y, HY.out, ← Nat.add_assoc, pow_succ (k + j)]
              have hp := put_eq P (k + j) (mulLo m y d cc)
              rw [show dg P (k + j) = d by rw [HQ.out]; exact HD.out] at hp
              exact mul_step hE.out (mul_lo_hi m y d cc) hp (pow_add k j)
            · simpa using hzr.out
          case measure => simp [intOf]; omega
        · obtain rfl : j = ny := by omega
          have c3 := hSr.cell0 (i := k + j) (by omega)
          have f3 := hFr.at0 (i := k + j) (by omega)
          have hd0 : dg P (k + j) = 0 := dg_of_lt hP (by omega)
          have HD := Lib.hid hd0
          clear hd0
          have j1 : (0 : Int) ≤ j := by omega
          have j2 : (j : Int) < nx + j - k := by omega
          have j3 : (cc : Int) < 4294967296 := by unfold B at hcc; omega
          go_wp2_with fail
          go_roundw
          case rel =>
            refine ⟨k + 1, by omega, by go_num, hbr.setCell (Nat.le_refl _) _, ?_, hFr.set _ _, Lib.hid ?_⟩
            · refine (hSr.set0 (by omega) hcc).val ?_
              have hp := put_eq P (k + j) cc
              rw [HD.out, Nat.zero_mul, Nat.add_zero] at hp
              rw [hp, hE.out, mod_succ X, HM.out, mod_of_lt hY.lt, ← HP.out, Nat.add_mul]
              congr 1
              exact Nat.mul_right_comm _ _ _
            · simpa using hzr.out
          case measure => simp [intOf]; omega
    · obtain rfl : k = nx := by omega
      have hv := hSr.val (show (X % B^k) * Y = X * Y by rw [mod_of_lt hX.lt])
      have hlt2 := HN.out
      have hz2 := hzr.out
      clear HN hzr
      go_wp2_with fail
      go_ret
      exact ⟨rfl, hbr, hv, hFr, Nat.le_refl _, by omega⟩
end Go.Proofs.Ytdgfmkideghhaaa

/-
  Numbers of any size and their texts, as the reference has them: cut out of the texts of stage 1 (slice.py).
-/
import Derived.Deep.QuietTactic
import Derived.BigQuiet
import Derived.Deep.RegionHeld3
import Derived.Deep.DeepCutAuto
import Derived.Handy
import Derived.Lib.Strings
import Derived.Lib.Slices
import Derived.Lib.Small
import Derived.Lib.Walk
import Derived.Lib.BitFns
import Derived.Lib.ItoaNum
import Derived.Laws.ResultCell
import Derived.Laws.Rows
import Derived.BigRegion
import Derived.Lib.SmallJoins
import Derived.Deep.LoopGhost
import Derived.WalkSmall
import Derived.Laws.BytesArg
import Derived.WalkLawsBesides
import Derived.WalkSpells
import Derived.Lib.IndexBytes
import Derived.Deep.Upon
import Derived.Maps.AppendAt
import Derived.Deep.AppendLies
import Derived.Test.YtmfmbglacebeiaaProg
import Derived.Test.YtmfmbglacebeiaaChecked
import Derived.Test.YtmfmbglacebeiaaNum
import Derived.Test.YtmfmbglacebeiaaMem
import Derived.Test.YtmfmbglacebeiaaBlk
namespace Go.Proofs.Ytmfmbglacebeiaa
open Go.RowKit PB

theorem cut_any (base : Option Addr) (b off n c X : Nat) (w : World) (hb : n ≠ 0 → base = some ⟨b, off, none⟩) (hX : Num w b off n X) (hn : n ≤ c) (hc : n ≤ 1099511627776) :
    Calls Try.prog 58 #[.slice base n c] w fun e w' => e = .returned (.slice base (nl X) (nl X)) ∧ w = w' := by
  have hnl : nl X ≤ n := nl_le hX.lt
  have HB := Lib.hid hb
  clear hb
  go_enter Try.func58, Try.ntmps58
  go_wp2
  go_loop [3] (fun v => ∃ k : Nat, nl X ≤ k ∧ k ≤ n ∧ v = .int .i64 k) (fun v => (intOf v).toNat)
  case atStart => exact ⟨n, hnl, Nat.le_refl _, rfl⟩
  case round =>
    obtain ⟨k, hk1, hk2, rfl⟩ := hrel
    by_cases h0 : k = 0
    · subst h0
      have HX := Lib.hid (show nl X = 0 by omega)
      go_wp2
      go_ret
      exact ⟨by rw [HX.out]; rfl, rfl⟩
    · have hk0 : (0:Int) < k := by omega
      have hcell := hX.cell (i := k - 1) (by omega)
      have hI : ((k : Int) - 1).toNat = k - 1 := by omega
      have HD : nl X = k ∨ nl X < k := by omega
      obtain rfl := HB.out (by omega)
      rcases HD with HD | HD
      · have hd : ((dg X (k-1) : Int) == 0) = false := by
          have := nl_top (X := X) (by rintro rfl; rw [nl_zero] at HD; omega)
          rw [HD] at this
          simp; omega
        subst HD
        go_wp2
        go_ret
        exact ⟨rfl, rfl⟩
      · have hd : ((dg X (k-1) : Int) == 0) = true := by
          rw [dg_of_lt (lt_nl X) (by omega)]; rfl
        go_wp2
        go_round
        case rel => exact ⟨k - 1, by omega, by omega, by go_num⟩
        case measure => simp [intOf]; omega
end Go.Proofs.Ytmfmbglacebeiaa

namespace PB
/-- cmp.Compare. -/
def cmpi (x y : Int) : Int := if x < y then -1 else if y < x then 1 else 0
end PB
namespace Go.Proofs.Ytmfmbglacebeiaa
open Go.RowKit PB

end Go.Proofs.Ytmfmbglacebeiaa

namespace Go.Proofs.Ytmfmbglacebeiaa
open Go.RowKit PB

theorem info51 : (Try.prog.info? 60).map (fun i => (i.zero, i.size, i.bytes)) = some (some (.int .u32 0), 1, 4) := by kernel_rfl

end Go.Proofs.Ytmfmbglacebeiaa

namespace Go.Proofs.Ytmfmbglacebeiaa
open Go.RowKit PB
/-- What number returns: 0 without limbs, or a sign and cut limbs. -/
def intv (neg : Bool) (base : Option Addr) (X : Nat) : Value := if X = 0 then .agg #[.bool false, .slice none 0 0] else .agg #[.bool neg, .slice base (nl X) (nl X)]
theorem intv_zero (neg : Bool) (base : Option Addr) : intv neg base 0 = .agg #[.bool false, .slice none 0 0] := if_pos rfl
theorem intv_pos (neg : Bool) (base : Option Addr) {X : Nat} (h : X ≠ 0) : intv neg base X = .agg #[.bool neg, .slice base (nl X) (nl X)] := if_neg h
set_option maxRecDepth 100000 in
theorem number_any (neg : Bool) (base : Option Addr) (b off n c X : Nat) (w : World) (hb : n ≠ 0 → base = some ⟨b, off, none⟩) (hX : Num w b off n X) (hn : n ≤ c) (hc : n ≤ 1099511627776) :
    Calls Try.prog 50 #[.bool neg, .slice base n c] w fun e w' => e = .returned (intv neg base X) ∧ Below w.heap.size w w' := by
  by_cases h0 : X = 0
  · have HX := Lib.hid h0
    have hz : ((nl X : Int) == 0) = true := by rw [h0, nl_zero]; rfl
    clear h0
    go_enter Try.func50, Try.ntmps50
    go_wp2_with (go_at_call 58; refine (cut_any base b off n c X _ hb (hX.alloc _) hn hc).mono ?_; rintro e w' ⟨rfl, rfl⟩)
    refine bodyPost_ret (v := .agg #[.bool false, .slice none 0 0]) (by simp [results, Try.results50, go_sem]) rfl ⟨by rw [HX.out, intv_zero], ?_⟩
    exact ((Below.refl _ _).alloc (Nat.le_refl _) _)
  · have HX := Lib.hid h0
    have hz : ((nl X : Int) == 0) = false := by have := mt nl_eq_zero.1 h0; simp; omega
    clear h0
    go_enter Try.func50, Try.ntmps50
    go_wp2_with (go_at_call 58; refine (cut_any base b off n c X _ hb (hX.alloc _) hn hc).mono ?_; rintro e w' ⟨rfl, rfl⟩)
    refine bodyPost_ret (v := .agg #[.bool neg, .slice base (nl X) (nl X)]) (by simp [results, Try.results50, go_sem]) rfl ⟨by rw [intv_pos _ _ HX.out], ?_⟩
    exact ((Below.refl _ _).alloc (Nat.le_refl _) _)

end Go.Proofs.Ytmfmbglacebeiaa

namespace Go.Proofs.Ytmfmbglacebeiaa
open Go.RowKit PB

end Go.Proofs.Ytmfmbglacebeiaa

namespace Go.Proofs.Ytmfmbglacebeiaa
open Go.RowKit PB

end Go.Proofs.Ytmfmbglacebeiaa

namespace PB
open Go Go.RowKit

/-- The number that a sign and limbs stand for. -/
def sg (s : Bool) (X : Nat) : Int := if s then -(X : Int) else X
/-- v is an api.Int that stands for z. -/
def IsInt (w : World) (v : Value) (z : Int) : Prop :=
  ∃ (s : Bool) (base : Option Addr) (b off n c X : Nat), v = .agg #[.bool s, .slice base n c] ∧ (n ≠ 0 → base = some ⟨b, off, none⟩) ∧ Num w b off n X ∧ n ≤ c ∧ n ≤ 1000000000 ∧ z = sg s X
/-- .. in canonical form, its limbs in a block from N on. -/
def IsCan (N : Nat) (w : World) (v : Value) (z : Int) : Prop :=
  ∃ (s : Bool) (base : Option Addr) (b off X c : Nat), v = .agg #[.bool s, .slice base (nl X) c] ∧ (nl X ≠ 0 → base = some ⟨b, off, none⟩) ∧ Num w b off (nl X) X ∧ nl X ≤ c ∧ nl X ≤ 1000000000 ∧ z = sg s X ∧ (X = 0 → s = false) ∧ (nl X ≠ 0 → N ≤ b)
theorem IsCan.int {N : Nat} {w : World} {v : Value} {z : Int} (h : IsCan N w v z) : IsInt w v z := by
  obtain ⟨s, base, b, off, X, c, h1, h2, h3, h4, h5, h6, _⟩ := h
  exact ⟨s, base, b, off, nl X, c, X, h1, h2, h3, h4, h5, h6⟩
theorem IsInt.kept {w w' : World} {v : Value} {z : Int} (h : IsInt w v z) (hb : Below w.heap.size w w') : IsInt w' v z := by
  obtain ⟨s, base, b, off, n, c, X, h1, h2, h3, h4, h5, h6⟩ := h
  exact ⟨s, base, b, off, n, c, X, h1, h2, h3.kept hb, h4, h5, h6⟩
theorem IsCan.kept {N : Nat} {w w' : World} {v : Value} {z : Int} (h : IsCan N w v z) (hb : Below w.heap.size w w') : IsCan N w' v z := by
  obtain ⟨s, base, b, off, X, c, h1, h2, h3, h4, h5, h6, h7⟩ := h
  exact ⟨s, base, b, off, X, c, h1, h2, h3.kept hb, h4, h5, h6, h7⟩
theorem IsCan.mono {N N' : Nat} {w : World} {v : Value} {z : Int} (h : IsCan N w v z) (hN : N' ≤ N) : IsCan N' w v z := by
  obtain ⟨s, base, b, off, X, c, h1, h2, h3, h4, h5, h6, h7, h8⟩ := h
  exact ⟨s, base, b, off, X, c, h1, h2, h3, h4, h5, h6, h7, fun h => Nat.le_trans hN (h8 h)⟩
/-- A store below the limbs. -/
theorem IsCan.set {N : Nat} {w : World} {v : Value} {z : Int} (h : IsCan N w v z) {p : Addr} (hp : p.block < N) (u : Value) : IsCan N (w.setCell p u) v z := by
  obtain ⟨s, base, b, off, X, c, h1, h2, h3, h4, h5, h6, h7, h8⟩ := h
  exact ⟨s, base, b, off, X, c, h1, h2, h3.other u (fun hn e => by have := h8 hn; omega), h4, h5, h6, h7, h8⟩
theorem sg_natAbs (s : Bool) (X : Nat) : (sg s X).natAbs = X := by unfold sg; cases s <;> simp
theorem sg_zero {s : Bool} {X : Nat} : sg s X = 0 ↔ X = 0 := by unfold sg; cases s <;> simp
/-- The call returns a canonical Int that stands for z; nothing that was there has changed. -/
def RetInt (w : World) (z : Int) (e : Ending) (w' : World) : Prop := ∃ v, e = .returned v ∧ IsCan w.heap.size w' v z ∧ Below w.heap.size w w'
end PB
namespace Go.Proofs.Ytmfmbglacebeiaa
open Go.RowKit PB
theorem can_zero (N : Nat) (w : World) : IsCan N w (.agg #[.bool false, .slice none 0 0]) 0 :=
  ⟨false, none, 0, 0, 0, 0, by rw [nl_zero], fun h => absurd nl_zero h, ⟨Bp _, fun i hi => by rw [nl_zero] at hi; omega⟩, by rw [nl_zero]; omega, by rw [nl_zero]; omega, rfl, fun _ => rfl, fun h => absurd nl_zero h⟩
theorem can_intv {N : Nat} {w : World} {s : Bool} {base : Option Addr} {b off n X : Nat} (hb : n ≠ 0 → base = some ⟨b, off, none⟩) (hX : Num w b off n X) (hl : nl X ≤ 1000000000) (hN : n ≠ 0 → N ≤ b) : IsCan N w (intv s base X) (sg s X) := by
  by_cases h : X = 0
  · subst h
    rw [intv_zero, show sg s 0 = 0 from sg_zero.2 rfl]
    exact can_zero N w
  · rw [intv_pos _ _ h]
    have hn := nl_le hX.lt
    exact ⟨s, base, b, off, X, nl X, rfl, fun h => hb (by omega), hX.fewer hn (lt_nl X), Nat.le_refl _, hl, rfl, fun e => absurd e h, fun h => hN (by omega)⟩
theorem intv_form (s : Bool) (base : Option Addr) (X : Nat) : ∃ s' q m, intv s base X = .agg #[.bool s', .slice q m m] := by
  by_cases h : X = 0
  · exact ⟨false, none, 0, by subst h; exact intv_zero _ _⟩
  · exact ⟨s, base, nl X, intv_pos _ _ h⟩
end Go.Proofs.Ytmfmbglacebeiaa

namespace Go.Proofs.Ytmfmbglacebeiaa
open Go.RowKit PB

end Go.Proofs.Ytmfmbglacebeiaa

namespace Go.Proofs.Ytmfmbglacebeiaa
open Go.RowKit PB


end Go.Proofs.Ytmfmbglacebeiaa

namespace PB
open Go
theorem of_dg0 (X : Nat) : dg X 0 = X % 4294967296 := by simp [dg, B]
theorem of_dg1 {X : Nat} (h : X < 18446744073709551616) : dg X 1 = X / 4294967296 := by unfold dg B; rw [Nat.pow_one]; omega
end PB
namespace Go.Proofs.Ytmfmbglacebeiaa
open Go.RowKit PB
set_option maxHeartbeats 1600000 in
set_option maxRecDepth 100000 in
theorem of_nonneg (n : Nat) (w : World) (hn : Hid (n < 9223372036854775808)) :
    Calls Try.prog 41 #[.int .i64 n] w (RetInt w n) := by
  have h0 : ¬ ((n : Int) < 0) := by omega
  go_enter Try.func41, Try.ntmps41
  go_wp2_with fail
  have e0 : IntKind.u64.wrap (n : Int) % 4294967296 = (dg n 0 : Nat) := by
    have := hn.out; rw [of_dg0, IntKind.wrap_u64]; omega
  have e1 : IntKind.u64.wrap (n : Int) / 4294967296 % 4294967296 = (dg n 1 : Nat) := by
    have := hn.out; rw [of_dg1 (by omega), IntKind.wrap_u64]; omega
  rw [e0, e1]
  clear e0 e1
  generalize hW : World.alloc _ _ = W
  have B0 : Blk W w.heap.size #[.bool false, .slice none 0 0] := by rw [← hW]; exact (blk_new rfl).alloc _
  have B1 : Blk W (w.heap.size + 1) #[.int .u32 (dg n 0), .int .u32 (dg n 1)] := by rw [← hW]; exact blk_new (by simp)
  have hbW : Below w.heap.size w W := by rw [← hW]; exact ((Below.refl _ _).alloc (Nat.le_refl _) _).alloc (by simp) _
  have HS := Lib.hid (show W.heap.size = w.heap.size + 2 by rw [← hW]; simp)
  have hN : Num W (w.heap.size + 1) 0 2 n := ⟨by have := hn.out; show n < 18446744073709551616; omega, fun i hi => by
    have : i = 0 ∨ i = 1 := by omega
    rcases this with rfl | rfl
    · exact B1.cell 0 _ rfl
    · exact B1.cell 1 _ rfl⟩
  clear hW B1
  refine (number_any false _ (w.heap.size + 1) 0 2 2 n W (fun _ => rfl) hN (Nat.le_refl _) (by omega)).mono ?_
  rintro e w2 ⟨rfl, hb2⟩
  have hbw2 : Below w.heap.size w w2 := hbW.trans (hb2.mono (by have := HS.out; omega))
  obtain ⟨c0, c1⟩ := Blk2 (B0.kept hb2)
  obtain ⟨f0, f1⟩ := Blk2f (B0.kept hb2)
  have hN2 := hN.kept hb2
  obtain ⟨s', q, m, hv⟩ := intv_form false (some ⟨w.heap.size + 1, 0, none⟩) n
  rw [hv]
  have HV := Lib.hid hv
  clear hv B0
  go_wp2_with fail
  refine bodyPost_ret (v := .agg #[.bool s', .slice q m m]) (by simp [results, Try.results41, go_sem, c0, c1]) rfl ⟨_, rfl, ?_, (hbw2.setCell (Nat.le_refl _) _).setCell (Nat.le_refl _) _⟩
  rw [← HV.out]
  exact can_intv (n := 2) (fun _ => rfl) ((hN2.other _ (fun _ => by show w.heap.size + 1 ≠ w.heap.size; omega)).other _ (fun _ => by show w.heap.size + 1 ≠ w.heap.size; omega)) (by have := nl_le hN2.lt; omega) (fun _ => by omega)
set_option maxHeartbeats 1600000 in
set_option maxRecDepth 100000 in
theorem of_neg (n : Nat) (w : World) (h1 : 0 < n) (hn : Hid (n ≤ 9223372036854775808)) :
    Calls Try.prog 41 #[.int .i64 (-(n : Int))] w (RetInt w (-(n : Int))) := by
  have h0 : -(n : Int) < 0 := by omega
  go_enter Try.func41, Try.ntmps41
  go_wp2_with fail
  have e0 : IntKind.u64.wrap (-IntKind.u64.wrap (-(n : Int))) % 4294967296 = (dg n 0 : Nat) := by
    have := hn.out; rw [of_dg0, IntKind.wrap_u64, IntKind.wrap_u64]; omega
  have e1 : IntKind.u64.wrap (-IntKind.u64.wrap (-(n : Int))) / 4294967296 % 4294967296 = (dg n 1 : Nat) := by
    have := hn.out; rw [of_dg1 (by omega), IntKind.wrap_u64, IntKind.wrap_u64]; omega
  rw [e0, e1]
  clear e0 e1
  generalize hW : World.alloc _ _ = W
  have B0 : Blk W w.heap.size #[.bool false, .slice none 0 0] := by rw [← hW]; exact (blk_new rfl).alloc _
  have B1 : Blk W (w.heap.size + 1) #[.int .u32 (dg n 0), .int .u32 (dg n 1)] := by rw [← hW]; exact blk_new (by simp)
  have hbW : Below w.heap.size w W := by rw [← hW]; exact ((Below.refl _ _).alloc (Nat.le_refl _) _).alloc (by simp) _
  have HS := Lib.hid (show W.heap.size = w.heap.size + 2 by rw [← hW]; simp)
  have hN : Num W (w.heap.size + 1) 0 2 n := ⟨by have := hn.out; show n < 18446744073709551616; omega, fun i hi => by
    have : i = 0 ∨ i = 1 := by omega
    rcases this with rfl | rfl
    · exact B1.cell 0 _ rfl
    · exact B1.cell 1 _ rfl⟩
  clear hW B1
  refine (number_any true _ (w.heap.size + 1) 0 2 2 n W (fun _ => rfl) hN (Nat.le_refl _) (by omega)).mono ?_
  rintro e w2 ⟨rfl, hb2⟩
  have hbw2 : Below w.heap.size w w2 := hbW.trans (hb2.mono (by have := HS.out; omega))
  obtain ⟨c0, c1⟩ := Blk2 (B0.kept hb2)
  obtain ⟨f0, f1⟩ := Blk2f (B0.kept hb2)
  have hN2 := hN.kept hb2
  obtain ⟨s', q, m, hv⟩ := intv_form true (some ⟨w.heap.size + 1, 0, none⟩) n
  rw [hv]
  have HV := Lib.hid hv
  clear hv B0
  go_wp2_with fail
  refine bodyPost_ret (v := .agg #[.bool s', .slice q m m]) (by simp [results, Try.results41, go_sem, c0, c1]) rfl ⟨_, rfl, ?_, (hbw2.setCell (Nat.le_refl _) _).setCell (Nat.le_refl _) _⟩
  rw [← HV.out]
  exact can_intv (n := 2) (fun _ => rfl) ((hN2.other _ (fun _ => by show w.heap.size + 1 ≠ w.heap.size; omega)).other _ (fun _ => by show w.heap.size + 1 ≠ w.heap.size; omega)) (by have := nl_le hN2.lt; omega) (fun _ => by omega)
theorem of_any (n : Int) (w : World) (h1 : -9223372036854775808 ≤ n) (h2 : n ≤ 9223372036854775807) :
    Calls Try.prog 41 #[.int .i64 n] w (RetInt w n) := by
  by_cases h : 0 ≤ n
  · obtain ⟨k, rfl⟩ := Int.eq_ofNat_of_zero_le h
    exact of_nonneg k w (Lib.hid (by omega))
  · obtain ⟨k, hk⟩ := Int.eq_ofNat_of_zero_le (show 0 ≤ -n by omega)
    obtain rfl : n = -(k : Int) := by omega
    exact of_neg k w (by omega) (Lib.hid (by omega))
end Go.Proofs.Ytmfmbglacebeiaa

namespace PB
theorem sg_sign {s : Bool} {X : Nat} (h : X ≠ 0) : (sg s X).sign = if s then -1 else 1 := by
  unfold sg
  cases s
  · simp; omega
  · simp; omega
end PB
namespace Go.Proofs.Ytmfmbglacebeiaa
open Go.RowKit PB

set_option maxRecDepth 100000 in
theorem sign_any (v : Value) (z : Int) (w : World) (h : IsInt w v z) :
    Calls Try.prog 51 #[v] w fun e w' => e = .returned (.int .i64 z.sign) ∧ Below w.heap.size w w' := by
  obtain ⟨s, base, b, off, n, c, X, rfl, hb, hX, hn, hl, hz⟩ := h
  by_cases h0 : X = 0
  · have hz0 : z.sign = 0 := by subst hz h0; cases s <;> rfl
    rw [hz0]
    have ht : ((nl X : Int) == 0) = true := by rw [h0, nl_zero]; rfl
    clear hz hz0 h0
    go_enter Try.func51, Try.ntmps51
    go_wp2_with (go_at_call 58; refine (cut_any base b off n c X _ hb (by exact hX.alloc _) hn (by omega)).mono ?_; rintro e w' ⟨rfl, rfl⟩)
    go_ret
    exact ⟨rfl, (Below.refl _ _).alloc (Nat.le_refl _) _⟩
  · have hz0 := sg_sign (s := s) h0
    rw [← hz] at hz0
    rw [hz0]
    have ht : ((nl X : Int) == 0) = false := by have := mt nl_eq_zero.1 h0; simp; omega
    clear hz hz0 h0
    cases s
    · go_enter Try.func51, Try.ntmps51
      go_wp2_with (go_at_call 58; refine (cut_any base b off n c X _ hb (by exact hX.alloc _) hn (by omega)).mono ?_; rintro e w' ⟨rfl, rfl⟩)
      go_ret
      exact ⟨rfl, (Below.refl _ _).alloc (Nat.le_refl _) _⟩
    · go_enter Try.func51, Try.ntmps51
      go_wp2_with (go_at_call 58; refine (cut_any base b off n c X _ hb (by exact hX.alloc _) hn (by omega)).mono ?_; rintro e w' ⟨rfl, rfl⟩)
      go_ret
      exact ⟨rfl, (Below.refl _ _).alloc (Nat.le_refl _) _⟩
end Go.Proofs.Ytmfmbglacebeiaa

namespace PB
open Go Go.RowKit
/-- Only cells lo to hi - 1 of block b have changed. -/
structure Wr (w w' : World) (b lo hi : Nat) : Prop where
  os : w'.os = w.os
  tape : w'.tape = w.tape
  output : w'.output = w.output
  size : w'.heap.size = w.heap.size
  block : ∀ k, k ≠ b → w'.heap[k]? = w.heap[k]?
  cell : ∀ j, j < lo ∨ hi ≤ j → w'.cell? ⟨b, j, none⟩ = w.cell? ⟨b, j, none⟩
  frozen : ∀ a, w'.frozen? a = w.frozen? a
theorem Wr.refl (w : World) (b lo hi : Nat) : Wr w w b lo hi := ⟨rfl, rfl, rfl, rfl, fun _ _ => rfl, fun _ _ => rfl, fun _ => rfl⟩
theorem Wr.trans {w w' w'' : World} {b lo hi : Nat} (h : Wr w w' b lo hi) (k : Wr w' w'' b lo hi) : Wr w w'' b lo hi :=
  ⟨k.os.trans h.os, k.tape.trans h.tape, k.output.trans h.output, k.size.trans h.size, fun i hi => (k.block i hi).trans (h.block i hi), fun j hj => (k.cell j hj).trans (h.cell j hj), fun a => (k.frozen a).trans (h.frozen a)⟩
theorem Wr.mono {w w' : World} {b lo hi lo' hi' : Nat} (h : Wr w w' b lo hi) (h1 : lo' ≤ lo) (h2 : hi ≤ hi') : Wr w w' b lo' hi' :=
  ⟨h.os, h.tape, h.output, h.size, h.block, fun j hj => h.cell j (by omega), h.frozen⟩
theorem Wr.drewN {w w' : World} {b lo hi : Nat} (h : Wr w w' b lo hi) (n : Nat) : Wr w (w'.drewN n) b lo hi := ⟨h.os, h.tape, h.output, h.size, h.block, h.cell, h.frozen⟩
theorem Wr.drew {w w' : World} {b lo hi : Nat} (h : Wr w w' b lo hi) : Wr w w'.drew b lo hi := ⟨h.os, h.tape, h.output, h.size, h.block, h.cell, h.frozen⟩
theorem wr_setCell (w : World) (b j : Nat) (v : Value) {lo hi : Nat} (h1 : lo ≤ j) (h2 : j < hi) : Wr w (w.setCell ⟨b, j, none⟩ v) b lo hi := by
  refine ⟨rfl, rfl, rfl, by simp [World.setCell], fun k hk => Below.heap_setCell _ _ _ _ hk, fun i hi => ?_, fun a => frozen_setCell _ _ _ _⟩
  unfold World.cell? World.setCell
  simp only [Array.getElem?_modify, if_true]
  cases hb : w.heap[b]? with
  | none => rfl
  | some o =>
    cases o with
    | cells c t fr => simp only [Option.isSome_none, Bool.false_eq_true, if_false, Option.map_some]; rw [Array.getElem?_setIfInBounds, if_neg (by omega)]
    | _ => rfl
theorem Wr.set {w w' : World} {b lo hi : Nat} (h : Wr w w' b lo hi) (j : Nat) (v : Value) (h1 : lo ≤ j) (h2 : j < hi) : Wr w (w'.setCell ⟨b, j, none⟩ v) b lo hi := h.trans (wr_setCell _ _ _ _ h1 h2)
theorem Wr.below {w w' : World} {b lo hi N : Nat} (h : Wr w w' b lo hi) (hN : N ≤ b) : Below N w w' :=
  ⟨h.os, h.tape, h.output, by rw [h.size]; exact Nat.le_refl _, fun k hk => h.block k (by omega)⟩
theorem Wr.free {w w' : World} {b lo hi b' off n : Nat} (h : Wr w w' b lo hi) (k : Free w b' off n) : Free w' b' off n := fun i hi => by rw [h.frozen]; exact k i hi
/-- Limbs elsewhere stay. -/
theorem Wr.num {w w' : World} {b lo hi b' off n X : Nat} (h : Wr w w' b lo hi) (k : Num w b' off n X) (hd : n ≠ 0 → b' ≠ b ∨ off + n ≤ lo ∨ hi ≤ off) : Num w' b' off n X :=
  ⟨k.1, fun i hi => by
    have hk := k.2 i hi
    rcases hd (by omega) with h1 | h1
    · rw [World.cell?_of_block (w := w) (h.block b' h1)]; exact hk
    · by_cases hb : b' = b
      · subst hb; rw [h.cell _ (by omega)]; exact hk
      · rw [World.cell?_of_block (w := w) (h.block b' hb)]; exact hk⟩
end PB
namespace Go.Proofs.Ytmfmbglacebeiaa
open Go.RowKit PB

end Go.Proofs.Ytmfmbglacebeiaa

namespace Go.Proofs.Ytmfmbglacebeiaa
open Go.RowKit PB

end Go.Proofs.Ytmfmbglacebeiaa

namespace PB
/-- The low limb and the carry of m y + d + c. -/
def mulLo (m y d c : Nat) : Nat := (c + (m * y + d)) % 4294967296
def mulHi (m y d c : Nat) : Nat := (c + (m * y + d)) / 4294967296
theorem mul_lo_hi (m y d c : Nat) : mulLo m y d c + mulHi m y d c * B = m * y + d + c := by unfold mulLo mulHi B; omega
theorem mulLo_lt (m y d c : Nat) : mulLo m y d c < B := Nat.mod_lt _ (by decide)
theorem mul_le {m y : Nat} (hm : m < B) (hy : y < B) : m * y ≤ 18446744065119617025 := by
  unfold B at *
  have : m * y ≤ 4294967295 * 4294967295 := Nat.mul_le_mul (by omega) (by omega)
  omega
theorem mulHi_lt {m y d c : Nat} (hm : m < B) (hy : y < B) (hd : d < B) (hc : c < B) : mulHi m y d c < B := by
  have := mul_le hm hy
  unfold mulHi B at *; omega
theorem mul_step {P P0 c m y d lo c' p q Yl r P' : Nat} (h : P + c * p = P0 + m * Yl * q) (hd : lo + c' * B = m * y + d + c) (hp : P' + d * p = P + lo * p) (hr : p = q * r) :
    P' + c' * (p * B) = P0 + m * (Yl + y * r) * q := by
  have e : (lo + c' * B) * p = (m * y + d + c) * p := by rw [hd]
  have e1 : m * (Yl + y * r) * q = m * Yl * q + m * y * p := by subst hr; rw [Nat.mul_add, Nat.add_mul]; congr 1; simp only [Nat.mul_comm, Nat.mul_left_comm]
  have e2 : c' * (p * B) = c' * B * p := by rw [Nat.mul_assoc, Nat.mul_comm B p]
  rw [Nat.add_mul, Nat.add_mul, Nat.add_mul] at e
  omega
open Go in
theorem mul_wraps {m y d c : Nat} (hm : m < B) (hy : y < B) (hd : d < B) (hc : c < B) :
    IntKind.u64.wrap ((c : Int) + IntKind.u64.wrap (IntKind.u64.wrap (IntKind.u64.wrap (m : Int) * IntKind.u64.wrap (y : Int)) + IntKind.u64.wrap (d : Int))) = ((c + (m * y + d) : Nat) : Int) := by
  have := mul_le hm hy
  have e : (m : Int) * (y : Int) = ((m * y : Nat) : Int) := (Int.natCast_mul m y).symm
  have e1 : IntKind.u64.wrap (m : Int) = m := by rw [IntKind.wrap_u64]; unfold B at *; omega
  have e2 : IntKind.u64.wrap (y : Int) = y := by rw [IntKind.wrap_u64]; unfold B at *; omega
  have e3 : IntKind.u64.wrap (d : Int) = d := by rw [IntKind.wrap_u64]; unfold B at *; omega
  rw [e1, e2, e3, e]
  generalize m * y = p at *
  have e4 : IntKind.u64.wrap (p : Int) = p := by rw [IntKind.wrap_u64]; omega
  have e5 : IntKind.u64.wrap ((p : Int) + d) = (p : Int) + d := by rw [IntKind.wrap_u64]; unfold B at *; omega
  rw [e4, e5, IntKind.wrap_u64]
  unfold B at *; omega
end PB
namespace Go.Proofs.Ytmfmbglacebeiaa
open Go.RowKit PB

end Go.Proofs.Ytmfmbglacebeiaa

namespace Go.Proofs.Ytmfmbglacebeiaa
open Go.RowKit PB

end Go.Proofs.Ytmfmbglacebeiaa

namespace PB
theorem sg_mul (s t : Bool) (X Y : Nat) : sg s X * sg t Y = sg (s != t) (X * Y) := by
  unfold sg
  cases s <;> cases t <;> simp [Int.neg_mul, Int.mul_neg]
end PB
namespace Go.Proofs.Ytmfmbglacebeiaa
open Go.RowKit PB

end Go.Proofs.Ytmfmbglacebeiaa

namespace Go.Proofs.Ytmfmbglacebeiaa
open Go.RowKit PB

end Go.Proofs.Ytmfmbglacebeiaa



namespace Go.Proofs.Ytmfmbglacebeiaa
open Go.RowKit PB

end Go.Proofs.Ytmfmbglacebeiaa

namespace Go.Proofs.Ytmfmbglacebeiaa
open Go.RowKit PB

end Go.Proofs.Ytmfmbglacebeiaa

namespace Go.Proofs.Ytmfmbglacebeiaa
open Go.RowKit PB

end Go.Proofs.Ytmfmbglacebeiaa

namespace PB
open Go
theorem raise_wrap {d p : Nat} (hd : d < B) (hp : p < 32) : IntKind.u64.wrap (IntKind.u64.wrap (d : Int) * 2^p) = ((d * 2^p : Nat) : Int) := by
  have e1 : IntKind.u64.wrap (d : Int) = d := by rw [IntKind.wrap_u64]; unfold B at *; omega
  rw [e1]
  have h1 : (2:Nat)^p ≤ 2^31 := Nat.pow_le_pow_right (by decide) (by omega)
  have h2 : d * 2^p < B * 2^32 := by
    refine Nat.lt_of_lt_of_le (Nat.mul_lt_mul_of_pos_right hd (Nat.pow_pos (by decide))) (Nat.mul_le_mul_left _ (Nat.le_trans h1 (by decide)))
  have e2 : (d : Int) * 2^p = ((d * 2^p : Nat) : Int) := by rw [Int.natCast_mul]; rfl
  rw [e2, IntKind.wrap_u64]
  generalize d * 2^p = v at *
  unfold B at h2
  omega
end PB
namespace Go.Proofs.Ytmfmbglacebeiaa
open Go.RowKit PB

end Go.Proofs.Ytmfmbglacebeiaa

namespace Go.Proofs.Ytmfmbglacebeiaa
open Go.RowKit PB

end Go.Proofs.Ytmfmbglacebeiaa

namespace Go.Proofs.Ytmfmbglacebeiaa
open Go.RowKit PB

end Go.Proofs.Ytmfmbglacebeiaa


namespace Go.Proofs.Ytmfmbglacebeiaa
open Go.RowKit PB

end Go.Proofs.Ytmfmbglacebeiaa

namespace Go.Proofs.Ytmfmbglacebeiaa
open Go.RowKit PB

end Go.Proofs.Ytmfmbglacebeiaa

namespace Go.Proofs.Ytmfmbglacebeiaa
open Go.RowKit PB

end Go.Proofs.Ytmfmbglacebeiaa

namespace Go.Proofs.Ytmfmbglacebeiaa
open Go.RowKit PB

end Go.Proofs.Ytmfmbglacebeiaa

namespace Go.Proofs.Ytmfmbglacebeiaa
open Go.RowKit PB

end Go.Proofs.Ytmfmbglacebeiaa

namespace PB
open Go Go.RowKit
/-- The limbs of X as cells. -/
def limbs (X n : Nat) : List Value := (List.range n).map fun i => .int .u32 (dg X i)
theorem limbs_length (X n : Nat) : (limbs X n).length = n := by simp [limbs]
theorem limbs_get {X n i : Nat} (h : i < n) : (limbs X n)[i]? = some (.int .u32 (dg X i)) := by simp [limbs, h]
theorem limbs_snoc {X n d : Nat} (hX : X < B^n) (hd : d < B) : limbs X n ++ [.int .u32 d] = limbs (X + d * B^n) (n+1) := by
  apply List.ext_getElem?
  intro i
  by_cases h : i < n
  · rw [List.getElem?_append_left (by rw [limbs_length]; exact h), limbs_get h, limbs_get (by omega), dg_add_lo h]
  · by_cases e : i = n
    · subst e
      rw [List.getElem?_append_right (by rw [limbs_length]; omega), limbs_length, limbs_get (by omega), dg_add_eq hX hd]
      simp
    · rw [List.getElem?_append_right (by rw [limbs_length]; omega), List.getElem?_eq_none (by rw [limbs_length]; simp; omega), List.getElem?_eq_none (by rw [limbs_length]; omega)]
/-- The slice v owns a row, in a block from N on, of n limbs that hold X. -/
def OwnL (E : TypeId) (N : Nat) (w : World) (v : Value) (n X : Nat) : Prop := X < B^n ∧ w.ownsRow N E 1 v n (limbs X n)
theorem OwnL.nil (E : TypeId) (N : Nat) (w : World) : OwnL E N w (.slice none 0 0) 0 0 := ⟨Bp 0, World.ownsRow_nil w N E 1⟩
theorem OwnL.num {E : TypeId} {N : Nat} {w : World} {g n c X : Nat} (h : OwnL E N w (.slice (some ⟨g, 0, none⟩) n c) n X) : Num w g 0 n X :=
  ⟨h.1, fun i hi => by rw [Nat.zero_add, h.2.cellAt i (by omega), limbs_get hi]⟩
theorem OwnL.free {E : TypeId} {N : Nat} {w : World} {g n c X : Nat} (h : OwnL E N w (.slice (some ⟨g, 0, none⟩) n c) n X) : Free w g 0 n :=
  fun i _ => by rw [Nat.zero_add]; exact h.2.frozenAt i
/-- What widen returns. -/
def RetWid (E : TypeId) (N : Nat) (w : World) (X lim : Nat) (e : Ending) (w' : World) : Prop :=
  ∃ v n, e = .returned v ∧ OwnL E N w' v n X ∧ n ≤ lim ∧ Below N w w'
end PB
namespace Go.Proofs.Ytmfmbglacebeiaa
open Go.RowKit PB

end Go.Proofs.Ytmfmbglacebeiaa

namespace PB
/-- Decimal digit i of X as a character. -/
def dch (X i : Nat) : Nat := X / 10^i % 10 + 48
end PB

namespace Go.Proofs.Ytmfmbglacebeiaa
open Go.RowKit PB

end Go.Proofs.Ytmfmbglacebeiaa

namespace PB
open Go Go.RowKit
def dcs (X m : Nat) : List Value := (List.range m).map fun i => .int .u8 (dch X i)
/-- The slice v owns the first m characters of X. -/
def OwnT (E : TypeId) (N : Nat) (w : World) (v : Value) (m X : Nat) : Prop := w.ownsRow N E 1 v m (dcs X m)
/-- What is known of a world behind the beginning of Text. -/
structure TextInv (E : TypeId) (N g c : Nat) (w0 wr : World) (v : Value) (m Y X : Nat) : Prop where
  own : OwnT E N wr v m X
  num : Num wr g 0 (nl Y) Y
  free : Free wr g 0 (nl Y)
  below : Below g w0 wr
  cap : nl Y ≤ c
  lt : g < N
  ge : N ≤ wr.heap.size
end PB

namespace Go.Proofs.Ytmfmbglacebeiaa
open Go.RowKit PB

end Go.Proofs.Ytmfmbglacebeiaa


namespace Go.Proofs.Ytmfmbglacebeiaa
open Go.RowKit PB

end Go.Proofs.Ytmfmbglacebeiaa

namespace Go.Proofs.Ytmfmbglacebeiaa
open Go.RowKit PB

end Go.Proofs.Ytmfmbglacebeiaa

namespace Go.Proofs.Ytmfmbglacebeiaa
open Go.RowKit PB

end Go.Proofs.Ytmfmbglacebeiaa


namespace Go.Proofs.Ytmfmbglacebeiaa
open Go.RowKit PB

end Go.Proofs.Ytmfmbglacebeiaa

namespace Go.Proofs.Ytmfmbglacebeiaa
open Go.RowKit PB

end Go.Proofs.Ytmfmbglacebeiaa

namespace Go.Proofs.Ytmfmbglacebeiaa
open Go.RowKit PB

end Go.Proofs.Ytmfmbglacebeiaa

namespace PB
open Go Go.RowKit
theorem bs_alloc {w w' : World} (h : Below w.heap.size w w') (o : Obj) : Below w.heap.size w (w'.alloc o) := h.alloc h.size o
theorem bs_set {w w' : World} {g j : Nat} (h : Below w.heap.size w w') (hg : w.heap.size ≤ g) (v : Value) : Below w.heap.size w (w'.setCell ⟨g, j, none⟩ v) := h.setCell hg v
theorem bs_trans {a b c : World} (h : Below a.heap.size a b) (k : Below b.heap.size b c) : Below a.heap.size a c := h.trans (k.mono h.size)
theorem can_agg {N : Nat} {w : World} {v : Value} {z : Int} (h : IsCan N w v z) : ∃ (s : Bool) (q : Option Addr) (c : Nat), v = .agg #[.bool s, .slice q (nl z.natAbs) c] := by
  obtain ⟨s, base, b, off, X, c, rfl, _, _, _, _, rfl, _⟩ := h
  exact ⟨s, base, c, by rw [sg_natAbs]⟩
end PB
namespace Go.Proofs.Ytmfmbglacebeiaa
open Go.RowKit PB
variable {k : Nat} {neg : Bool} {v1 v2 : Value}
end Go.Proofs.Ytmfmbglacebeiaa

namespace PB
open Go Go.RowKit
/-- A row that is owned, as a slice. -/
theorem own_slice {E : TypeId} {N n X : Nat} {w : World} {v : Value} (h : OwnL E N w v n X) :
    ∃ (base : Option Addr) (g c : Nat), v = .slice base n c ∧ (n ≠ 0 → base = some ⟨g, 0, none⟩) ∧ n ≤ c ∧ Num w g 0 n X ∧ Free w g 0 n ∧ (n ≠ 0 → N ≤ g) := by
  have h' := h
  obtain ⟨hX, h1, h2⟩ := h
  rcases h2 with ⟨rfl, rfl⟩ | ⟨g, cap, cur, rfl, hg, hh, hw, hcap, hsz, htake⟩
  · exact ⟨none, 0, 0, rfl, fun h => absurd rfl h, Nat.le_refl _, ⟨hX, fun i hi => by omega⟩, fun i hi => by omega, fun h => absurd rfl h⟩
  · exact ⟨_, g, cap, rfl, fun _ => rfl, hw, h'.num, h'.free, fun _ => hg⟩
theorem limbs_append {X Y n m : Nat} (hX : X < B^n) : limbs X n ++ limbs Y m = limbs (X + Y * B^n) (n + m) := by
  apply List.ext_getElem?
  intro i
  by_cases h : i < n
  · rw [List.getElem?_append_left (by rw [limbs_length]; exact h), limbs_get h, limbs_get (by omega), dg_add_lo h]
  · rw [List.getElem?_append_right (by rw [limbs_length]; omega), limbs_length]
    by_cases e : i < n + m
    · obtain ⟨j, rfl⟩ : ∃ j, i = n + j := ⟨i - n, by omega⟩
      rw [limbs_get (by omega), limbs_get e, dg_add_hi hX, show n + j - n = j by omega]
    · rw [List.getElem?_eq_none (by rw [limbs_length]; omega), List.getElem?_eq_none (by rw [limbs_length]; omega)]
theorem OwnL.slice {E : TypeId} {N n X : Nat} {w : World} {v : Value} (h : OwnL E N w v n X) : ∃ base c, v = .slice base n c ∧ n ≤ c := by
  obtain ⟨base, g, c, h1, _, h3, _⟩ := own_slice h
  exact ⟨base, c, h1, h3⟩
/-- 'append(own, limbs...)'. -/
theorem run_append_limbs {P : Program} (w : World) (t ty E : TypeId) (i : TypeInfo) (ht : P.underlying t = some (.slice E)) (hi : P.info? E = some i) (hz : i.zero = some (.int .u32 0)) (hsize : i.size = 1) (hby : i.bytes = 4)
    (N : Nat) (v : Value) (n X : Nat) (hown : OwnL E N w v n X) (base : Option Addr) (b off m c Y : Nat) (hb : m ≠ 0 → base = some ⟨b, off, none⟩) (hY : Num w b off m Y) (hnm : n + m ≤ 2000000000) (hN : N ≤ w.heap.size) :
    ∃ v' w', (Builtin.append_ #[t, t] ty #[v, .slice base m c]).run P w = .ok v' w' ∧ OwnL E N w' v' (n + m) (X + Y * B^n) ∧ Below N w w' := by
  by_cases hm : m = 0
  · subst hm
    have hY0 : Y = 0 := by have := hY.lt; rw [Nat.pow_zero] at this; omega
    subst hY0
    obtain ⟨bs, cs, rfl, hcs⟩ := hown.slice
    refine ⟨_, w, run_append_nothing w t t ty E i ht hi bs n cs hcs (.slice base 0 c) ?_, by rw [Nat.zero_mul]; exact hown, Below.refl _ _⟩
    cases base with
    | none => exact Src.ofNil w ht c
    | some a => exact Src.ofSlice w ht a 0 c [] (by simp) (by intro j u h; simp at h) (by intro u h; simp at h)
  · obtain rfl := hb hm
    obtain ⟨v', w', h1, h2, h3, h4⟩ := run_append_own (P := P) w N t ty E i (.int .u32 0) 1 4 ht hi hz hsize hby rfl (by decide) v n (limbs X n) hown.2 ⟨b, off, none⟩ m c (limbs Y m) (by rw [limbs_length, Nat.mul_one])
      (by
        intro l u hu
        have hl := (List.getElem?_eq_some_iff.1 hu).1
        rw [limbs_length] at hl
        rw [limbs_get hl] at hu
        obtain rfl := Option.some.inj hu
        rw [Addr.add_lit]
        exact hY.cell hl)
      (by
        intro u hu
        obtain ⟨l, _, rfl⟩ := List.mem_map.1 hu
        rfl) (by unfold maxLen; omega) (by omega) hN
    rw [limbs_append hown.1] at h2
    refine ⟨v', w', h1, ⟨?_, h2⟩, (Below.refl _ _).grown h3 hN (fun q hq => (World.ownsRow.lt hown.2 q hq).1)⟩
    have a1 : (Y + 1) * B^n ≤ B^m * B^n := Nat.mul_le_mul_right _ hY.lt
    rw [← pow_add, Nat.add_comm m n, Nat.add_mul, Nat.one_mul] at a1
    have := hown.1
    omega
theorem wpList_append_limbs {P : Program} (w : World) {ops : Array Oper} {rest : List Oper} {o : Oper} {a : Act} {Q : Exit → Act → World → Prop} (hgd : o.guard = none) (s x : Operand) (t : TypeId)
    (ho : o.op = .call { callee := .builtin .append, args := #[s, x], argTypes := #[t, t] }) (E : TypeId) (i : TypeInfo) (ht : P.underlying t = some (.slice E)) (hi : P.info? E = some i) (hz : i.zero = some (.int .u32 0)) (hsize : i.size = 1) (hby : i.bytes = 4)
    (N : Nat) (v : Value) (n X : Nat) (hs : a.eval s = v) (hown : OwnL E N w v n X) (base : Option Addr) (b off m c Y : Nat) (hx : a.eval x = .slice base m c) (hb : m ≠ 0 → base = some ⟨b, off, none⟩) (hY : Num w b off m Y) (hnm : n + m ≤ 2000000000) (hN : N ≤ w.heap.size)
    (h : ∀ v' w', OwnL E N w' v' (n + m) (X + Y * B^n) → Below N w w' → wpList P ops Q rest (a.put o.dst v') w') : wpList P ops Q (o :: rest) a w := by
  refine wpList_plain hgd fun K hK => ?_
  obtain ⟨v', w', hr, h2, h3⟩ := run_append_limbs (P := P) w t o.type E i ht hi hz hsize hby N v n X hown base b off m c Y hb hY hnm hN
  unfold Oper.wp execOp
  simp only [ho, resolve, invoke, builtin, Sem.run_bind, Sem.run_pure, Result.andThen_ok, List.map_toArray, List.map_cons, List.map_nil, hs, hx, hr]
  exact hK _ _ (h v' w' h2 h3)
/-- The call returns a row of its own of the limbs of X. -/
def RetRow (E : TypeId) (w : World) (n X : Nat) (e : Ending) (w' : World) : Prop := ∃ v, e = .returned v ∧ OwnL E w.heap.size w' v n X ∧ Below w.heap.size w w'
end PB
namespace Go.Proofs.Ytmfmbglacebeiaa
open Go.RowKit PB

set_option maxHeartbeats 3200000 in
set_option maxRecDepth 100000 in
theorem mag_any (base : Option Addr) (b off n c X : Nat) (w : World) (hb : n ≠ 0 → base = some ⟨b, off, none⟩) (hX : Num w b off n X) (hn : n ≤ c) (hl : n ≤ 1000000000) :
    Calls Try.prog 49 #[.slice base n c] w (RetRow 60 w (nl X) X) := by
  obtain ⟨i0, hi, hz0, hz1, hz2⟩ := info_parts info51
  have HB := Lib.hid hb
  have HXL := Lib.hid hX.lt
  clear hb
  go_enter Try.func49, Try.ntmps49
  go_wp2_with fail
  go_loop [3] (fun i => ∃ k : Nat, k ≤ n ∧ X < B^k ∧ i = .int .i64 k) (fun i => (intOf i).toNat)
  case atStart => exact ⟨n, Nat.le_refl _, HXL.out, rfl⟩
  case round =>
    obtain ⟨k, hk, hXk, rfl⟩ := hrel
    have hnk : nl X ≤ k := nl_le hXk
    by_cases hkn : k = nl X
    · have HD : Hid (k = 0 ∨ ((dg X (k-1) : Int) == 0) = false) := Lib.hid (by
        by_cases h0 : k = 0
        · exact Or.inl h0
        · right
          have := nl_top (X := X) (by rintro rfl; rw [nl_zero] at hkn; omega)
          rw [← hkn] at this
          simp; omega)
      have hXf := hX.fewer (k := k) hk hXk
      have HKN := Lib.hid hkn
      have i1 : (k : Int) ≤ n := by omega
      have i2 : (k : Int) ≤ c := by omega
      clear hkn hnk hXk
      by_cases h0 : k = 0
      · subst h0
        clear HD
        go_wp2_with (at_builtin; refine wpList_append_limbs _ rfl _ _ 48 rfl 60 i0 Try.underlying48 hi hz0 hz1 hz2 w.heap.size _ 0 0 rfl (OwnL.nil _ _ _) base b off 0 c X rfl (fun h => absurd rfl h) hXf (by omega) (Nat.le_refl _) ?_)
        intro v' w' hown hbl
        have hown2 : OwnL 60 w.heap.size w' v' 0 X := by simpa using hown
        rw [HKN.out] at hown2
        clear hown
        go_wp2_with fail
        go_ret
        exact ⟨v', rfl, hown2, hbl⟩
      · have hk0 : (0 : Int) < k := by omega
        have c1 := hX.cell (i := k - 1) (by omega)
        have hI : ((k : Int) - 1).toNat = k - 1 := by omega
        have hd := HD.out.resolve_left h0
        obtain rfl := HB.out (by omega)
        clear HD
        go_wp2_with (at_builtin; refine wpList_append_limbs _ rfl _ _ 48 rfl 60 i0 Try.underlying48 hi hz0 hz1 hz2 w.heap.size _ 0 0 rfl (OwnL.nil _ _ _) (some ⟨b, off, none⟩) b off k c X rfl (fun _ => rfl) hXf (by omega) (Nat.le_refl _) ?_)
        intro v' w' hown hbl
        have hown2 : OwnL 60 w.heap.size w' v' k X := by simpa using hown
        rw [HKN.out] at hown2
        clear hown
        go_wp2_with fail
        go_ret
        exact ⟨v', rfl, hown2, hbl⟩
    · have hk0 : (0 : Int) < k := by omega
      have c1 := hX.cell (i := k - 1) (by omega)
      have hI : ((k : Int) - 1).toNat = k - 1 := by omega
      have hd : ((dg X (k-1) : Int) == 0) = true := by
        rw [dg_of_lt (lt_nl X) (by omega)]; rfl
      have hlt : X < B^(k-1) := nl_le_iff.1 (by omega)
      have HLT := Lib.hid hlt
      obtain rfl := HB.out (by omega)
      clear hlt hXk
      go_wp2_with fail
      go_round
      case rel => exact ⟨k - 1, by omega, HLT.out, by go_num⟩
      case measure => simp [intOf]; omega

set_option maxHeartbeats 3200000 in
set_option maxRecDepth 100000 in
theorem make1_any (neg : Bool) (base : Option Addr) (b off n c X : Nat) (w : World) (hb : n ≠ 0 → base = some ⟨b, off, none⟩) (hX : Num w b off n X) (hn : n ≤ c) (hl : n ≤ 1000000000) :
    Calls Try.prog 48 #[.bool neg, .slice base n c] w (RetInt w (sg neg X)) := by
  have hnl := nl_le hX.lt
  obtain ⟨s, hs⟩ : ∃ s, (if X = 0 then false else neg) = s := ⟨_, rfl⟩
  have HS : Hid (sg s X = sg neg X ∧ (X = 0 → s = false)) := Lib.hid (by
    rw [← hs]
    by_cases h : X = 0
    · subst h; simp [sg]
    · rw [if_neg h]; exact ⟨rfl, fun e => absurd e h⟩)
  have HD : Hid ((X = 0 ∧ s = false) ∨ (0 < nl X ∧ s = neg)) := Lib.hid (by
    rw [← hs]
    by_cases h : X = 0
    · exact Or.inl ⟨h, if_pos h⟩
    · exact Or.inr ⟨by have := mt nl_eq_zero.1 h; omega, if_neg h⟩)
  have HM := Lib.hid (fun W (h : Below w.heap.size w W) => mag_any base b off n c X W hb (hX.kept h) hn hl)
  clear hs hb
  go_enter Try.func48, Try.ntmps48
  go_upto_region 1 with fail
  generalize hW : World.alloc _ _ = W
  obtain ⟨R, hR⟩ : ∃ R, w.heap.size = R := ⟨_, rfl⟩
  have BR : Blk W R #[.bool false, .slice none 0 0] := by rw [← hW, ← hR]; exact blk_new rfl
  have hbW : Below w.heap.size w W := by rw [← hW]; exact bs_alloc (Below.refl _ _) _
  have HSZ : Hid (W.heap.size = R + 1) := Lib.hid (by rw [← hW, ← hR]; simp)
  rw [hR]
  have HR := Lib.hid hR
  clear hW hR
  go_wp2_with fail
  refine (HM.out W hbW).mono ?_
  rintro e w1 ⟨v, rfl, hown, hb1⟩
  obtain ⟨mb, mg, mc, rfl, hm1, hm2, hm3, hm4, hm5⟩ := own_slice hown
  have BR1 := BR.kept hb1
  have HB1 := Lib.hid (bs_trans hbW hb1)
  have HM1 := Lib.hid hm1
  have HM5 := Lib.hid hm5
  clear hown hb1 hbW BR HM hm1 hm5
  obtain ⟨r0, r1⟩ := Blk2 BR1
  obtain ⟨f0, f1⟩ := Blk2f BR1
  have fin : ∀ Z, Z = ((w1.setCell ⟨R, 0, none⟩ (.bool s)).setCell ⟨R, 1, none⟩ (.slice mb (nl X) mc)) → (Blk Z R #[.bool s, .slice mb (nl X) mc] ∧ IsCan w.heap.size Z (.agg #[.bool s, .slice mb (nl X) mc]) (sg neg X) ∧ Below w.heap.size w Z) := by
    rintro Z rfl
    refine ⟨(BR1.set 0 (.bool s)).set 1 (.slice mb (nl X) mc), ?_, bs_set (bs_set HB1.out (by have := HR.out; omega) _) (by have := HR.out; omega) _⟩
    refine ⟨s, mb, mg, 0, X, mc, rfl, HM1.out, (hm3.other _ (fun h => ?_)).other _ (fun h => ?_), hm2, by omega, HS.out.1.symm, HS.out.2, fun h => ?_⟩
    · have := HM5.out h; have := HSZ.out; show mg ≠ R; omega
    · have := HM5.out h; have := HSZ.out; show mg ≠ R; omega
    · have := HM5.out h; have := HSZ.out; have := HR.out; omega
  have FIN := Lib.hid fin
  clear fin
  rcases HD.out with ⟨h0, hs⟩ | ⟨h0, hs⟩
  · have i1 : decide (0 < nl X) = false := decide_eq_false (by rw [h0, nl_zero]; decide)
    subst hs
    clear h0 HD
    cases neg
    all_goals
      go_wp2_with fail
      obtain ⟨BZ, hC, hZ⟩ := FIN.out _ rfl
      generalize ((w1.setCell ⟨R, 0, none⟩ (.bool false)).setCell ⟨R, 1, none⟩ (.slice mb (nl X) mc)) = Z at *
      obtain ⟨z0, z1⟩ := Blk2 BZ
      exact bodyPost_ret (v := .agg #[.bool false, .slice mb (nl X) mc]) (by simp [results, Try.results48, go_sem, z0, z1]) rfl ⟨_, rfl, hC, hZ⟩
  · have i1 : decide (0 < nl X) = true := decide_eq_true (by omega)
    subst hs
    clear h0 HD
    cases s
    all_goals
      go_wp2_with fail
      obtain ⟨BZ, hC, hZ⟩ := FIN.out _ rfl
      generalize ((w1.setCell ⟨R, 0, none⟩ (.bool _)).setCell ⟨R, 1, none⟩ (.slice mb (nl X) mc)) = Z at *
      obtain ⟨z0, z1⟩ := Blk2 BZ
      exact bodyPost_ret (v := .agg #[.bool _, .slice mb (nl X) mc]) (by simp [results, Try.results48, go_sem, z0, z1]) rfl ⟨_, rfl, hC, hZ⟩
end Go.Proofs.Ytmfmbglacebeiaa

namespace PB
open Go Go.RowKit
theorem sg_inj {s t : Bool} {X Y : Nat} (h : sg s X = sg t Y) (hs : X = 0 → s = false) (ht : Y = 0 → t = false) : s = t ∧ X = Y := by
  have e : X = Y := by have := congrArg Int.natAbs h; rwa [sg_natAbs, sg_natAbs] at this
  subst e
  refine ⟨?_, rfl⟩
  by_cases h0 : X = 0
  · rw [hs h0, ht h0]
  · unfold sg at h
    cases s <;> cases t <;> simp at h <;> first | rfl | omega
end PB
namespace Go.Proofs.Ytmfmbglacebeiaa
open Go.RowKit PB

set_option maxHeartbeats 3200000 in
set_option maxRecDepth 100000 in
theorem same_ref (N1 N2 : Nat) (v1 v2 : Value) (z : Int) (w : World) (h1 : IsCan N1 w v1 z) (h2 : IsCan N2 w v2 z) :
    Calls Try.prog 30 #[v1, v2] w fun e w' => e = .returned (.bool true) ∧ Below w.heap.size w w' := by
  obtain ⟨s, base, b, off, X, c, rfl, hb, hX, hc, hl, rfl, hs, _⟩ := h1
  obtain ⟨t, base', b', off', Y, c', rfl, hb', hY, hc', hl', hz, ht, _⟩ := h2
  obtain ⟨rfl, rfl⟩ := sg_inj hz hs ht
  have HB := Lib.hid hb
  have HB' := Lib.hid hb'
  clear hb hb' hs ht hz
  go_enter Try.func30, Try.ntmps30
  go_upto_region 1 with fail
  generalize hW : World.alloc _ _ = W
  have B0 : Blk W w.heap.size #[.bool s, .slice base (nl X) c] := by rw [← hW]; exact (blk_new rfl).alloc _
  have B1 : Blk W (w.heap.size + 1) #[.bool s, .slice base' (nl X) c'] := by rw [← hW]; exact blk_new (by simp)
  have hbW : Below w.heap.size w W := by rw [← hW]; exact bs_alloc (bs_alloc (Below.refl _ _) _) _
  have hX1 := hX.kept hbW
  have hY1 := hY.kept hbW
  obtain ⟨a0, a1⟩ := Blk2 B0
  obtain ⟨b0, b1⟩ := Blk2 B1
  have HBW := Lib.hid hbW
  have t0 : (s != s) = false := by simp
  clear hW hX hY hbW B0 B1
  go_wp2_with fail
  go_loopw [5] (fun i wr => ∃ k m : Nat, k ≤ nl X ∧ i = .int .i64 k ∧ wr = W.drewN m) (fun i _ => nl X - (intOf i).toNat)
  case atStart => exact ⟨0, 0, by omega, rfl, rfl⟩
  case round =>
    obtain ⟨k, m, hk, rfl, rfl⟩ := hrel
    by_cases hlt : k < nl X
    · obtain rfl := HB.out (by omega)
      obtain rfl := HB'.out (by omega)
      have c1 := hX1.cell (i := k) hlt
      have c2 := hY1.cell (i := k) hlt
      have i1 : (k : Int) < nl X := by omega
      have i2 : (0 : Int) ≤ k := by omega
      have t1 : ((dg X k : Int) != (dg X k : Int)) = false := by simp
      go_wp2_with fail
      go_quiet (fail)
      go_wp2_with fail
      go_roundw
      case rel => exact ⟨k + 1, _, by omega, by go_num, rfl⟩
      case measure => simp [intOf]; omega
    · have i1 : ¬ (k : Int) < nl X := by omega
      go_wp2_with fail
      go_ret
      exact ⟨rfl, below_drewN HBW.out _⟩

set_option maxHeartbeats 1600000 in
set_option maxRecDepth 100000 in
theorem sign_ref (v : Value) (z : Int) (w : World) (h : IsInt w v z) :
    Calls Try.prog 52 #[v] w fun e w' => e = .returned (.int .i64 z.sign) ∧ Below w.heap.size w w' := by
  obtain ⟨s, base, b, off, n, c, X, rfl, hb, hX, hn, hl, hz⟩ := h
  have HM := Lib.hid (fun W (h : Below w.heap.size w W) => mag_any base b off n c X W hb (hX.kept h) hn hl)
  clear hb
  have hbW : Below w.heap.size w (w.alloc (Obj.cells #[.bool s, .slice base n c] 50)) := bs_alloc (Below.refl _ _) _
  by_cases h0 : X = 0
  · have hz0 : z.sign = 0 := by subst hz h0; cases s <;> rfl
    rw [hz0]
    have ht : ((nl X : Int) == 0) = true := by rw [h0, nl_zero]; rfl
    clear hz hz0 h0
    go_enter Try.func52, Try.ntmps52
    go_wp2_with fail
    refine (HM.out _ hbW).mono ?_
    rintro e w1 ⟨v, rfl, hown, hb1⟩
    obtain ⟨mb, mg, mc, rfl, _⟩ := own_slice hown
    have HB1 := bs_trans hbW hb1
    clear hown hb1 hbW HM
    go_wp2_with fail
    go_ret
    exact ⟨rfl, HB1⟩
  · have hz0 := sg_sign (s := s) h0
    rw [← hz] at hz0
    rw [hz0]
    have ht : ((nl X : Int) == 0) = false := by have := mt nl_eq_zero.1 h0; simp; omega
    clear hz hz0 h0
    cases s
    all_goals
      go_enter Try.func52, Try.ntmps52
      go_wp2_with fail
      refine (HM.out _ hbW).mono ?_
      rintro e w1 ⟨v, rfl, hown, hb1⟩
      obtain ⟨mb, mg, mc, rfl, _⟩ := own_slice hown
      have HB1 := bs_trans hbW hb1
      have hbb := (Blk.kept (blk_new rfl) hb1)
      obtain ⟨z0, z1⟩ := Blk2 hbb
      clear hown hb1 hbW HM hbb
      go_wp2_with fail
      go_ret
      exact ⟨rfl, HB1⟩

set_option maxHeartbeats 1600000 in
set_option maxRecDepth 100000 in
theorem cmpmag_any (basex basey : Option Addr) (bx ox X cx by_ oy Y cy : Nat) (w : World) (hbx : nl X ≠ 0 → basex = some ⟨bx, ox, none⟩) (hby : nl Y ≠ 0 → basey = some ⟨by_, oy, none⟩)
    (hX : Num w bx ox (nl X) X) (hY : Num w by_ oy (nl Y) Y) (hc : nl X ≤ 1000000000) (_hc' : nl Y ≤ 1000000000) :
    Calls Try.prog 55 #[.slice basex (nl X) cx, .slice basey (nl Y) cy] w fun e w' => e = .returned (.int .i64 (cmpi X Y)) ∧ ∃ m, w' = w.drewN m := by
  by_cases h : nl X = nl Y
  · have hne : ((nl X : Int) != (nl Y : Int)) = false := by simp [h]
    have HB := Lib.hid hbx
    have HB' := Lib.hid hby
    obtain ⟨n, hn⟩ : ∃ n, n = nl X := ⟨_, rfl⟩
    have hX' := lt_nl X
    have hY' := lt_nl Y
    rw [← h] at hY' hY HB' hne ⊢
    rw [← hn] at hX hY hX' hY' HB HB' hne hc ⊢
    clear h hn hbx hby
    go_enter Try.func55, Try.ntmps55
    go_wp2_with fail
    go_loopw [5] (fun v wr => ∃ k q : Nat, k ≤ n ∧ v = .int .i64 ((k : Int) - 1) ∧ wr = w.drewN q ∧ X / B^k = Y / B^k) (fun v _ => (intOf v + 1).toNat)
    case atStart => exact ⟨n, 0, by omega, rfl, rfl, by rw [Nat.div_eq_of_lt hX', Nat.div_eq_of_lt hY']⟩
    case round =>
      obtain ⟨k, q, hk, rfl, rfl, heq⟩ := hrel
      have HE := Lib.hid heq
      clear heq
      by_cases h0 : k = 0
      · subst h0
        have hEq : X = Y := by simpa using HE.out
        subst hEq
        have hz : decide ((0 : Int) ≤ ((0 : Nat) : Int) - 1) = false := by decide
        go_wp2_with fail
        go_ret
        exact ⟨by rw [cmpi, if_neg (by omega), if_neg (by omega)]; rfl, q, rfl⟩
      · obtain ⟨j, rfl⟩ : ∃ j, k = j + 1 := ⟨k - 1, by omega⟩
        obtain rfl := HB.out (by omega)
        obtain rfl := HB'.out (by omega)
        have e1 : (((j + 1 : Nat) : Int) - 1) = j := by omega
        rw [e1]
        clear e1
        have c1 := hX.cell (i := j) (by omega)
        have c2 := hY.cell (i := j) (by omega)
        have i1 : (j : Int) < n := by omega
        have i2 : (0 : Int) ≤ j := by omega
        by_cases hd : dg X j = dg Y j
        · have ht : ((dg X j : Int) != dg Y j) = false := by simp [hd]
          have HD := Lib.hid hd
          clear hd
          go_wp2_with fail
          go_quiet (fail)
          go_wp2_with fail
          go_roundw
          case rel => exact ⟨j, _, by omega, rfl, rfl, div_eq_of_dg HE.out HD.out⟩
          case measure => simp [intOf]
        · have ht : ((dg X j : Int) != dg Y j) = true := by simp; omega
          rcases Nat.lt_or_gt_of_ne hd with h1 | h1
          · have HC := Lib.hid (show cmpi X Y = -1 by
              have := lt_of_dg HE.out h1
              unfold cmpi
              rw [if_pos (by omega)])
            have t1 : decide (dg X j < dg Y j) = true := decide_eq_true h1
            clear hd
            go_wp2_with fail
            go_quiet (fail)
            go_wp2_with fail
            go_quiet (fail)
            go_wp2_with fail
            go_ret
            exact ⟨by rw [HC.out]; rfl, _, by rw [World.drewN_drewN, World.drewN_drewN]⟩
          · have HC := Lib.hid (show cmpi X Y = 1 by
              have := lt_of_dg HE.out.symm h1
              unfold cmpi
              rw [if_neg (by omega), if_pos (by omega)])
            have t1 : decide (dg X j < dg Y j) = false := decide_eq_false (by omega)
            clear hd h1
            go_wp2_with fail
            go_quiet (fail)
            go_wp2_with fail
            go_quiet (fail)
            go_wp2_with fail
            go_ret
            exact ⟨by rw [HC.out]; rfl, _, by rw [World.drewN_drewN, World.drewN_drewN]⟩
  · have hne : ((nl X : Int) != (nl Y : Int)) = true := by simp; omega
    rcases Nat.lt_or_gt_of_ne h with h1 | h1
    · have HC := Lib.hid (show cmpi X Y = -1 by
        have := lt_of_nl_lt h1
        unfold cmpi
        rw [if_pos (by omega)])
      have t1 : decide (nl X < nl Y) = true := decide_eq_true h1
      clear h
      go_enter Try.func55, Try.ntmps55
      go_wp2_with fail
      go_ret
      exact ⟨by rw [HC.out]; rfl, 0, rfl⟩
    · have HC := Lib.hid (show cmpi X Y = 1 by
        have := lt_of_nl_lt h1
        unfold cmpi
        rw [if_neg (by omega), if_pos (by omega)])
      have t1 : decide (nl X < nl Y) = false := decide_eq_false (by omega)
      clear h h1
      go_enter Try.func55, Try.ntmps55
      go_wp2_with fail
      go_ret
      exact ⟨by rw [HC.out]; rfl, 0, rfl⟩
end Go.Proofs.Ytmfmbglacebeiaa

namespace Go.Proofs.Ytmfmbglacebeiaa
open Go.RowKit PB

end Go.Proofs.Ytmfmbglacebeiaa

namespace Go.Proofs.Ytmfmbglacebeiaa
open Go.RowKit PB

set_option maxHeartbeats 1600000 in
set_option maxRecDepth 100000 in
theorem trim_ref (v : Value) (z : Int) (w : World) (h : IsInt w v z) :
    Calls Try.prog 53 #[v] w (RetInt w z) := by
  obtain ⟨s, base, b, off, n, c, X, rfl, hb, hX, hn, hl, rfl⟩ := h
  have HM := Lib.hid (fun W (h : Below w.heap.size w W) => make1_any s base b off n c X W hb (hX.kept h) hn hl)
  clear hb
  go_enter Try.func53, Try.ntmps53
  go_upto_region 1 with fail
  generalize hW : World.alloc _ _ = W
  have B0 : Blk W w.heap.size #[.bool s, .slice base n c] := by rw [← hW]; exact (blk_new rfl).alloc _
  have B1 : Blk W (w.heap.size + 1) #[.bool false, .slice none 0 0] := by rw [← hW]; exact blk_new (by simp)
  have hbW : Below w.heap.size w W := by rw [← hW]; exact bs_alloc (bs_alloc (Below.refl _ _) _) _
  have HS := Lib.hid (show W.heap.size = w.heap.size + 2 by rw [← hW]; simp)
  obtain ⟨a0, a1⟩ := Blk2 B0
  clear hW
  go_wp2_with fail
  refine (HM.out W hbW).mono ?_
  rintro e w1 ⟨u, rfl, hcan, hb1⟩
  obtain ⟨s1, q1, c1, rfl⟩ := can_agg hcan
  obtain ⟨r0, r1⟩ := Blk2 (B1.kept hb1)
  obtain ⟨f0, f1⟩ := Blk2f (B1.kept hb1)
  have HC := Lib.hid hcan
  have HB1 := Lib.hid (bs_trans hbW hb1)
  clear hcan hb1 hbW HM B0 B1
  go_wp2_with fail
  have h1 := HS.out
  exact bodyPost_ret (v := .agg #[.bool s1, .slice q1 _ c1]) (by simp [results, Try.results53, go_sem, r0, r1]) rfl
    ⟨_, rfl, ((HC.out.set (by show w.heap.size + 1 < W.heap.size; omega) _).set (by show w.heap.size + 1 < W.heap.size; omega) _).mono (by omega), bs_set (bs_set HB1.out (by show w.heap.size ≤ w.heap.size + 1; omega) _) (by show w.heap.size ≤ w.heap.size + 1; omega) _⟩

end Go.Proofs.Ytmfmbglacebeiaa

namespace PB
open Go Go.RowKit
theorem addm_step {X Y S c k T : Nat} (h : S + c * B^k = X % B^k + Y % B^k) (hT : c + dg X k + dg Y k = T) :
    (S + T % B * B^k) + T / B * B^(k+1) = X % B^(k+1) + Y % B^(k+1) := by
  have e1 := Nat.div_add_mod T B
  rw [mod_succ X, mod_succ Y, pow_succ]
  have e2 : (T % B + T / B * B) * B^k = (c + dg X k + dg Y k) * B^k := by
    rw [hT, Nat.mul_comm (T / B) B, Nat.add_comm, e1]
  rw [Nat.add_mul, Nat.add_mul, Nat.add_mul, Nat.mul_assoc, Nat.mul_comm B] at e2
  omega
theorem num_word {P : Nat} {w : World} {E : TypeId} {d : Nat} (hd : d < B) (hP : w.heap.size = P) : Num (w.alloc (Obj.cells #[.int .u32 d] E)) P 0 1 d := by
  subst hP
  refine ⟨by rw [Nat.pow_one]; exact hd, fun i hi => ?_⟩
  obtain rfl : i = 0 := by omega
  rw [show dg d 0 = d by unfold dg; rw [Nat.pow_zero, Nat.div_one, Nat.mod_eq_of_lt hd]]
  exact cell_new _ _ _ _ _ _ rfl rfl
end PB
namespace Go.Proofs.Ytmfmbglacebeiaa
open Go.RowKit PB

set_option maxHeartbeats 3200000 in
set_option maxRecDepth 100000 in
theorem addmag_any (basex basey : Option Addr) (bx ox n X cx by_ oy m Y cy : Nat) (w : World) (hbx : n ≠ 0 → basex = some ⟨bx, ox, none⟩) (hby : m ≠ 0 → basey = some ⟨by_, oy, none⟩)
    (hX : Num w bx ox n X) (hY : Num w by_ oy m Y) (hn : n ≤ 1000000000) (hm : m ≤ 1000000000) :
    Calls Try.prog 54 #[.slice basex n cx, .slice basey m cy] w (RetWid 60 w.heap.size w (X + Y) (max n m + 1)) := by
  obtain ⟨i0, hi, hz0, hz1, hz2⟩ := info_parts info51
  have HBX := Lib.hid hbx
  have HBY := Lib.hid hby
  have HXL := Lib.hid hX.lt
  have HYL := Lib.hid hY.lt
  obtain ⟨M, hM⟩ : ∃ M, max n m = M := ⟨_, rfl⟩
  have hnM : n ≤ M := by omega
  have hmM : m ≤ M := by omega
  have hMM : M ≤ 1000000000 := by omega
  rw [hM]
  clear hbx hby hM
  go_enter Try.func54, Try.ntmps54
  go_wp2_with fail
  go_loopw [5, 6, 7] (fun o c i wr => ∃ k cc S : Nat, k ≤ M + 1 ∧ cc ≤ 1 ∧ c = .int .u64 cc ∧ i = .int .i64 k ∧ Hid (S + cc * B^k = X % B^k + Y % B^k) ∧ OwnL 60 w.heap.size wr o k S ∧ Below w.heap.size w wr) (fun _ _ i _ => M + 1 - (intOf i).toNat)
  case atStart => exact ⟨0, 0, 0, by omega, by omega, rfl, rfl, Lib.hid (by simp [Nat.mod_one]), OwnL.nil _ _ _, Below.refl _ _⟩
  case round =>
    obtain ⟨k, cc, S, hk, hcc, rfl, rfl, hE, hO, hb⟩ := hrel
    have hS := hO.1
    have hx := dg_lt X k
    have hy := dg_lt Y k
    have hgr := hb.size
    have HX1 := Lib.hid (show k < n → wr.cell? ⟨bx, ox + k, none⟩ = some (.int .u32 (dg X k)) from fun h => (hX.kept hb).cell h)
    have HY1 := Lib.hid (show k < m → wr.cell? ⟨by_, oy + k, none⟩ = some (.int .u32 (dg Y k)) from fun h => (hY.kept hb).cell h)
    obtain ⟨T, hT⟩ : ∃ T, cc + dg X k + dg Y k = T := ⟨_, rfl⟩
    have HT := Lib.hid hT
    have HST := Lib.hid (addm_step hE.out hT)
    have HTB := Lib.hid (show T / B ≤ 1 by unfold B at *; omega)
    have HOUT := Lib.hid (show n ≤ k → m ≤ k → cc = 0 → S = X + Y from fun h1 h2 h3 => by
      have h := hE.out
      rw [Nat.mod_eq_of_lt (Nat.lt_of_lt_of_le HXL.out (Nat.pow_le_pow_right (by decide) h1)), Nat.mod_eq_of_lt (Nat.lt_of_lt_of_le HYL.out (Nat.pow_le_pow_right (by decide) h2)), h3] at h
      omega)
    have HGO := Lib.hid (show k = M + 1 → cc = 0 from fun h => by
      subst h
      have h := hE.out
      have a1 := Nat.lt_of_lt_of_le HXL.out (Nat.pow_le_pow_right (show 0 < B by decide) hnM)
      have a2 := Nat.lt_of_lt_of_le HYL.out (Nat.pow_le_pow_right (show 0 < B by decide) hmM)
      have a3 : B^(M+1) = B^M * B := pow_succ _
      have a4 : B^M * 2 ≤ B^M * B := Nat.mul_le_mul_left _ (by decide)
      rw [Nat.mod_eq_of_lt (show X < B^(M+1) by omega), Nat.mod_eq_of_lt (show Y < B^(M+1) by omega)] at h
      apply Nat.eq_zero_of_not_pos
      intro h0
      have a5 : 1 * B^(M+1) ≤ cc * B^(M+1) := Nat.mul_le_mul_right _ h0
      omega)
    have t1 : (cc : Int) ≤ 1 := by omega
    have t2 : (dg X k : Int) < 4294967296 := by unfold B at *; omega
    have t3 : (dg Y k : Int) < 4294967296 := by unfold B at *; omega
    have t4 : (k : Int) ≤ 1000000001 := by omega
    have t5 : (0 : Int) ≤ k := by omega
    have HTM := Lib.hid (show (T : Int) % 4294967296 = ((T % B : Nat) : Int) from (Int.natCast_emod _ _).symm)
    have HTD := Lib.hid (show (T : Int) / 4294967296 = ((T / B : Nat) : Int) from (Int.natCast_ediv _ _).symm)
    have DX0 := Lib.hid (show n ≤ k → dg X k = 0 from fun h => dg_of_lt HXL.out h)
    have DY0 := Lib.hid (show m ≤ k → dg Y k = 0 from fun h => dg_of_lt HYL.out h)
    clear hE hT
    by_cases kn : k < n
    · have i1 : (k : Int) < n := by omega
      have c1 := HX1.out kn
      obtain rfl := HBX.out (by omega)
      by_cases km : k < m
      · have i2 : (k : Int) < m := by omega
        have c2 := HY1.out km
        obtain rfl := HBY.out (by omega)
        have e0 : (cc : Int) + dg X k + dg Y k = (T : Nat) := by  have := HT.out; omega
        have hk1 : k < M + 1 := by omega
        clear HX1 HY1
        go_wp2_with (at_builtin; refine wpList_append_limbs _ rfl _ _ 48 rfl 60 i0 Try.underlying48 hi hz0 hz1 hz2 w.heap.size _ k S rfl ⟨hO.1, hO.2.alloc _⟩ (some ⟨wr.heap.size, 0, none⟩) wr.heap.size 0 1 1 (T % B) rfl (fun _ => rfl) ?e1 (by omega) (by simp; omega) ?_)
        case e1 => first | (rw [HTM.out]; exact num_word (Nat.mod_lt _ (by decide)) rfl) | (rw [Nat.mod_eq_of_lt (show T < B by unfold B; omega)]; exact num_word (by unfold B; omega) rfl)
        intro v' w' hown hbl
        have hb2 := (hb.alloc hgr _).trans hbl
        clear hO hgr hbl
        go_wp2_with fail
        go_roundw
        case rel =>
          rw [HTD.out]
          exact ⟨k + 1, T / B, _, by omega, HTB.out, rfl, by go_num, Lib.hid HST.out, hown, hb2⟩
        case measure => simp [intOf]; omega
      · have i2 : ¬ (k : Int) < m := by omega
        have e0 : (cc : Int) + dg X k = (T : Nat) := by have d0 := DY0.out (by omega);  have := HT.out; omega
        have hk1 : k < M + 1 := by omega
        clear HX1 HY1
        go_wp2_with (at_builtin; refine wpList_append_limbs _ rfl _ _ 48 rfl 60 i0 Try.underlying48 hi hz0 hz1 hz2 w.heap.size _ k S rfl ⟨hO.1, hO.2.alloc _⟩ (some ⟨wr.heap.size, 0, none⟩) wr.heap.size 0 1 1 (T % B) rfl (fun _ => rfl) ?e1 (by omega) (by simp; omega) ?_)
        case e1 => first | (rw [HTM.out]; exact num_word (Nat.mod_lt _ (by decide)) rfl) | (rw [Nat.mod_eq_of_lt (show T < B by unfold B; omega)]; exact num_word (by unfold B; omega) rfl)
        intro v' w' hown hbl
        have hb2 := (hb.alloc hgr _).trans hbl
        clear hO hgr hbl
        go_wp2_with fail
        go_roundw
        case rel =>
          rw [HTD.out]
          exact ⟨k + 1, T / B, _, by omega, HTB.out, rfl, by go_num, Lib.hid HST.out, hown, hb2⟩
        case measure => simp [intOf]; omega
    · have i1 : ¬ (k : Int) < n := by omega
      by_cases km : k < m
      · have i2 : (k : Int) < m := by omega
        have c2 := HY1.out km
        obtain rfl := HBY.out (by omega)
        have e0 : (cc : Int) + dg Y k = (T : Nat) := by have d0 := DX0.out (by omega);  have := HT.out; omega
        have hk1 : k < M + 1 := by omega
        clear HX1 HY1
        go_wp2_with (at_builtin; refine wpList_append_limbs _ rfl _ _ 48 rfl 60 i0 Try.underlying48 hi hz0 hz1 hz2 w.heap.size _ k S rfl ⟨hO.1, hO.2.alloc _⟩ (some ⟨wr.heap.size, 0, none⟩) wr.heap.size 0 1 1 (T % B) rfl (fun _ => rfl) ?e1 (by omega) (by simp; omega) ?_)
        case e1 => first | (rw [HTM.out]; exact num_word (Nat.mod_lt _ (by decide)) rfl) | (rw [Nat.mod_eq_of_lt (show T < B by unfold B; omega)]; exact num_word (by unfold B; omega) rfl)
        intro v' w' hown hbl
        have hb2 := (hb.alloc hgr _).trans hbl
        clear hO hgr hbl
        go_wp2_with fail
        go_roundw
        case rel =>
          rw [HTD.out]
          exact ⟨k + 1, T / B, _, by omega, HTB.out, rfl, by go_num, Lib.hid HST.out, hown, hb2⟩
        case measure => simp [intOf]; omega
      · have i2 : ¬ (k : Int) < m := by omega
        by_cases hz : cc = 0
        · have HV := Lib.hid (HOUT.out (by omega) (by omega) hz)
          have i3 : ¬ (0 : Int) < cc := by omega
          have i4 : ¬ 0 < cc := by omega
          clear hz
          go_wp2_with fail
          go_ret
          rw [← HV.out]
          exact ⟨_, k, rfl, hO, by omega, hb⟩
        · have i3 : (0 : Int) < cc := by omega
          have i4 : 0 < cc := by omega
          obtain rfl : T = cc := by have d0 := DX0.out (by omega); have d1 := DY0.out (by omega);  have := HT.out; omega
          have hk1 : k < M + 1 := by have := HGO.out; omega
          clear HX1 HY1
          go_wp2_with (at_builtin; refine wpList_append_limbs _ rfl _ _ 48 rfl 60 i0 Try.underlying48 hi hz0 hz1 hz2 w.heap.size _ k S rfl ⟨hO.1, hO.2.alloc _⟩ (some ⟨wr.heap.size, 0, none⟩) wr.heap.size 0 1 1 (T % B) rfl (fun _ => rfl) ?e1 (by omega) (by simp; omega) ?_)
          case e1 => first | (rw [HTM.out]; exact num_word (Nat.mod_lt _ (by decide)) rfl) | (rw [Nat.mod_eq_of_lt (show T < B by unfold B; omega)]; exact num_word (by unfold B; omega) rfl)
          intro v' w' hown hbl
          have hb2 := (hb.alloc hgr _).trans hbl
          clear hO hgr hbl
          go_wp2_with fail
          go_roundw
          case rel =>
            rw [HTD.out]
            exact ⟨k + 1, T / B, _, by omega, HTB.out, rfl, by go_num, Lib.hid HST.out, hown, hb2⟩
          case measure => simp [intOf]; omega
end Go.Proofs.Ytmfmbglacebeiaa

namespace PB
open Go Go.RowKit
theorem subm_step {X Y S c k d c' : Nat} (h : X % B^k + c * B^k = S + Y % B^k) (hT : dg X k + c' * B = d + dg Y k + c) :
    X % B^(k+1) + c' * B^(k+1) = (S + d * B^k) + Y % B^(k+1) := by
  rw [mod_succ X, mod_succ Y, pow_succ]
  have e2 : (dg X k + c' * B) * B^k = (d + dg Y k + c) * B^k := by rw [hT]
  rw [Nat.add_mul, Nat.add_mul, Nat.add_mul, Nat.mul_assoc, Nat.mul_comm B] at e2
  omega
end PB
namespace Go.Proofs.Ytmfmbglacebeiaa
open Go.RowKit PB

set_option maxHeartbeats 3200000 in
set_option maxRecDepth 100000 in
theorem submag_any (basex basey : Option Addr) (bx ox n X cx by_ oy m Y cy : Nat) (w : World) (hbx : n ≠ 0 → basex = some ⟨bx, ox, none⟩) (hby : m ≠ 0 → basey = some ⟨by_, oy, none⟩)
    (hX : Num w bx ox n X) (hY : Num w by_ oy m Y) (hn : n ≤ 1000000000) (hle : Y ≤ X) :
    Calls Try.prog 56 #[.slice basex n cx, .slice basey m cy] w (RetWid 60 w.heap.size w (X - Y) n) := by
  obtain ⟨i0, hi, hz0, hz1, hz2⟩ := info_parts info51
  have HBX := Lib.hid hbx
  have HBY := Lib.hid hby
  have HXL := Lib.hid hX.lt
  have HYL := Lib.hid hY.lt
  have HLE := Lib.hid hle
  clear hbx hby hle
  go_enter Try.func56, Try.ntmps56
  go_wp2_with fail
  go_loopw [5, 6, 7] (fun o c i wr => ∃ k cc S : Nat, k ≤ n ∧ cc ≤ 1 ∧ c = .int .u64 cc ∧ i = .int .i64 k ∧ Hid (X % B^k + cc * B^k = S + Y % B^k) ∧ OwnL 60 w.heap.size wr o k S ∧ Below w.heap.size w wr) (fun _ _ i _ => n - (intOf i).toNat)
  case atStart => exact ⟨0, 0, 0, by omega, by omega, rfl, rfl, Lib.hid (by simp [Nat.mod_one]), OwnL.nil _ _ _, Below.refl _ _⟩
  case round =>
    obtain ⟨k, cc, S, hk, hcc, rfl, rfl, hE, hO, hb⟩ := hrel
    have hS := hO.1
    have hgr := hb.size
    by_cases kn : k < n
    · have i1 : (k : Int) < n := by omega
      have c1 := (hX.kept hb).cell kn
      obtain rfl := HBX.out (by omega)
      have HY1 := Lib.hid (show k < m → wr.cell? ⟨by_, oy + k, none⟩ = some (.int .u32 (dg Y k)) from fun h => (hY.kept hb).cell h)
      have t4 : (k : Int) ≤ 1000000000 := by omega
      have t5 : (0 : Int) ≤ k := by omega
      have hx := dg_lt X k
      have hy := dg_lt Y k
      have hkn : k + 1 ≤ n := by omega
      obtain ⟨d, c', hT, hd, hc', hw1⟩ : ∃ d c' : Nat, dg X k + c' * B = d + dg Y k + cc ∧ d < B ∧ c' ≤ 1 ∧ ∃ D : Nat, IntKind.u64.wrap (IntKind.u64.wrap ((dg X k : Int) - dg Y k) - cc) = (D : Int) ∧ (D : Int) % 4294967296 = (d : Int) ∧ (D : Int) / 9223372036854775808 = (c' : Int) := by
        by_cases h : dg Y k + cc ≤ dg X k
        · refine ⟨dg X k - (dg Y k + cc), 0, by omega, by omega, by omega, dg X k - (dg Y k + cc), ?_, ?_, ?_⟩
          · rw [IntKind.wrap_u64, IntKind.wrap_u64]; unfold B at *; omega
          · unfold B at *; omega
          · unfold B at *; omega
        · refine ⟨dg X k + B - (dg Y k + cc), 1, by unfold B at *; omega, by unfold B at *; omega, by omega, dg X k + 18446744073709551616 - (dg Y k + cc), ?_, ?_, ?_⟩
          · rw [IntKind.wrap_u64, IntKind.wrap_u64]; unfold B at *; omega
          · unfold B at *; omega
          · unfold B at *; omega
      obtain ⟨D, hw, hw2, hw3⟩ := hw1
      have t2 : (dg X k : Int) < 4294967296 := by unfold B at *; omega
      have t3 : (dg Y k : Int) < 4294967296 := by unfold B at *; omega
      have HST := Lib.hid (subm_step hE.out hT)
      have DY0 := Lib.hid (show m ≤ k → dg Y k = 0 from fun h => dg_of_lt HYL.out h)
      have HC := Lib.hid hc'
      have HD := Lib.hid hd
      have HW := Lib.hid hw
      have HW2 := Lib.hid hw2
      have HW3 := Lib.hid hw3
      clear hE hT hx hw hw2 hw3 hd hc'
      by_cases km : k < m
      · have i2 : (k : Int) < m := by omega
        have c2 := HY1.out km
        obtain rfl := HBY.out (by omega)
        clear HY1
        go_wp2_with (at_builtin; rw [HW.out, HW2.out]; refine wpList_append_limbs _ rfl _ _ 48 rfl 60 i0 Try.underlying48 hi hz0 hz1 hz2 w.heap.size _ k S rfl ⟨hO.1, hO.2.alloc _⟩ (some ⟨wr.heap.size, 0, none⟩) wr.heap.size 0 1 1 d rfl (fun _ => rfl) ?e1 (by omega) (by simp; omega) ?_)
        case e1 => exact num_word HD.out rfl
        intro v' w' hown hbl
        have hb2 := (hb.alloc hgr _).trans hbl
        clear hO hgr hbl
        go_wp2_with fail
        go_roundw
        case rel =>
          rw [HW3.out]
          exact ⟨k + 1, c', _, by omega, HC.out, rfl, by go_num, Lib.hid HST.out, hown, hb2⟩
        case measure => simp [intOf]; omega
      · have i2 : ¬ (k : Int) < m := by omega
        have d0 := DY0.out (by omega)
        rw [d0] at HW
        have HW' := HW.out
        simp only [Int.natCast_zero, Int.sub_zero] at HW'
        rw [show IntKind.u64.wrap (dg X k : Int) = (dg X k : Int) by rw [IntKind.wrap_u64]; omega] at HW'
        have HW := Lib.hid HW'
        clear HY1 d0 HW'
        go_wp2_with (at_builtin; rw [HW.out, HW2.out]; refine wpList_append_limbs _ rfl _ _ 48 rfl 60 i0 Try.underlying48 hi hz0 hz1 hz2 w.heap.size _ k S rfl ⟨hO.1, hO.2.alloc _⟩ (some ⟨wr.heap.size, 0, none⟩) wr.heap.size 0 1 1 d rfl (fun _ => rfl) ?e1 (by omega) (by simp; omega) ?_)
        case e1 => exact num_word HD.out rfl
        intro v' w' hown hbl
        have hb2 := (hb.alloc hgr _).trans hbl
        clear hO hgr hbl
        go_wp2_with fail
        go_roundw
        case rel =>
          rw [HW3.out]
          exact ⟨k + 1, c', _, by omega, HC.out, rfl, by go_num, Lib.hid HST.out, hown, hb2⟩
        case measure => simp [intOf]; omega
    · obtain rfl : k = n := by omega
      have i1 : ¬ (k : Int) < k := by omega
      have HV := Lib.hid (show X - Y = S by
        have h := hE.out
        have a1 := HXL.out
        have a2 := HLE.out
        rw [Nat.mod_eq_of_lt a1, Nat.mod_eq_of_lt (show Y < B^k by omega)] at h
        have : cc = 0 := by
          apply Nat.eq_zero_of_not_pos
          intro h0
          have a5 : 1 * B^k ≤ cc * B^k := Nat.mul_le_mul_right _ h0
          omega
        subst this
        omega)
      clear hE
      go_wp2_with fail
      go_ret
      rw [HV.out]
      exact ⟨_, k, rfl, hO, by omega, hb⟩
end Go.Proofs.Ytmfmbglacebeiaa

namespace PB
open Go
theorem mul_wraps2 {m y d c : Nat} (hm : m < B) (hy : y < B) (hd : d < B) (hc : c < B) :
    IntKind.u64.wrap ((c : Int) + IntKind.u64.wrap (IntKind.u64.wrap (d : Int) + IntKind.u64.wrap (IntKind.u64.wrap (m : Int) * IntKind.u64.wrap (y : Int)))) = ((c + (m * y + d) : Nat) : Int) := by
  rw [Int.add_comm (IntKind.u64.wrap (d : Int))]
  exact mul_wraps hm hy hd hc
theorem mul_wraps2_lo {m y d c : Nat} (hm : m < B) (hy : y < B) (hd : d < B) (hc : c < B) :
    IntKind.u64.wrap ((c : Int) + IntKind.u64.wrap (IntKind.u64.wrap (d : Int) + IntKind.u64.wrap (IntKind.u64.wrap (m : Int) * IntKind.u64.wrap (y : Int)))) % 4294967296 = (mulLo m y d c : Nat) := by
  rw [mul_wraps2 hm hy hd hc]; exact (Int.natCast_emod _ _).symm
theorem mul_wraps2_hi {m y d c : Nat} (hm : m < B) (hy : y < B) (hd : d < B) (hc : c < B) :
    IntKind.u64.wrap ((c : Int) + IntKind.u64.wrap (IntKind.u64.wrap (d : Int) + IntKind.u64.wrap (IntKind.u64.wrap (m : Int) * IntKind.u64.wrap (y : Int)))) / 4294967296 = (mulHi m y d c : Nat) := by
  rw [mul_wraps2 hm hy hd hc]; exact (Int.natCast_ediv _ _).symm
end PB
namespace Go.Proofs.Ytmfmbglacebeiaa
open Go.RowKit PB

set_option maxRecDepth 100000 in
set_option maxHeartbeats 1600000 in
theorem mulmag_any (basex basey : Option Addr) (bx ox nx cx X by_ oy ny cy Y : Nat) (w : World) (hbx : nx ≠ 0 → basex = some ⟨bx, ox, none⟩) (hby : ny ≠ 0 → basey = some ⟨by_, oy, none⟩)
    (hX : Num w bx ox nx X) (hY : Num w by_ oy ny Y) (hc : nx ≤ 500000000000) (hc' : ny ≤ 500000000000) :
    Calls Try.prog 57 #[.slice basex nx cx, .slice basey ny cy] w fun e w' => e = .returned (.slice (some ⟨w.heap.size, 0, none⟩) (nx + ny) (nx + ny)) ∧ Fresh w w' w.heap.size (nx + ny) (X * Y) := by
  have HB := Lib.hid hbx
  have HB' := Lib.hid hby
  clear hbx hby
  go_enter Try.func57, Try.ntmps57
  go_wp2_with (at_make; refine wpList_make_num _ rfl _ _ 48 rfl 60 info51 Try.underlying48 .i64 .i64 _ _ (nx + ny) rfl rfl (by omega) (by omega) (by omega) ?_)
  intro w1 hb1 hz1 hS1 hF1 _
  have HN := Lib.hid hz1
  clear hz1
  go_wp2_with fail
  go_loopw [6] (fun i wr => ∃ k : Nat, k ≤ nx ∧ i = .int .i64 k ∧ Below w.heap.size w wr ∧ Num wr w.heap.size 0 (nx + ny) ((X % B^k) * Y) ∧ Free wr w.heap.size 0 (nx + ny) ∧ Hid (w1.heap.size ≤ wr.heap.size)) (fun i _ => nx - (intOf i).toNat)
  case atStart => exact ⟨0, by omega, rfl, hb1, hS1.val (by simp [Nat.mod_one]), hF1, show _ from Nat.le_refl _⟩
  case round =>
    obtain ⟨k, hk, rfl, hbr, hSr, hFr, hzr⟩ := hrel
    by_cases hlt : k < nx
    · obtain rfl := HB.out (by omega)
      have c1 := (hX.kept hbr).cell (i := k) (by omega)
      have i1 : (k : Int) < nx := by omega
      have i4 : (0 : Int) ≤ k := by omega
      have i5 : ¬ (nx + ny = k) := by omega
      have i6 : (k : Int) ≤ nx + ny := by omega
      obtain ⟨m, hm⟩ : ∃ m, dg X k = m := ⟨_, rfl⟩
      have hmB : m < B := hm ▸ dg_lt X k
      rw [hm] at c1
      have HM := Lib.hid hm
      clear hm
      have hP0 : X % B^k * Y < B^(k + ny) := by
        rw [pow_add]; exact Nat.mul_lt_mul'' (mod_lt_pow _ _) hY.lt
      obtain ⟨P0, hP0e⟩ : ∃ P0, X % B^k * Y = P0 := ⟨_, rfl⟩
      rw [hP0e] at hSr hP0
      have HP := Lib.hid hP0e
      clear hP0e
      go_wp2_with fail
      go_loopw [7, 8] (fun c i wr => ∃ j cc P : Nat, j ≤ ny ∧ cc < B ∧ c = .int .u64 cc ∧ i = .int .i64 j ∧ P < B^(k + ny) ∧ Hid (P + cc * B^(k + j) = P0 + m * (Y % B^j) * B^k) ∧ Below w.heap.size w wr ∧ Num wr w.heap.size 0 (nx + ny) P ∧ Free wr w.heap.size 0 (nx + ny) ∧ Hid (w1.heap.size ≤ wr.heap.size)) (fun _ i _ => ny - (intOf i).toNat)
      case atStart => exact ⟨0, 0, P0, by omega, by decide, rfl, rfl, hP0, Lib.hid (by simp [Nat.mod_one]), hbr, hSr, hFr, hzr⟩
      case round =>
        clear hbr hSr hFr hzr
        obtain ⟨j, cc, P, hj, hcc, rfl, rfl, hP, hE, hbr, hSr, hFr, hzr⟩ := hrel
        by_cases hlt2 : j < ny
        · obtain rfl := HB'.out (by omega)
          have c2 := (hY.kept hbr).cell (i := j) (by omega)
          have cX := (hX.kept hbr).cell (i := k) hlt
          rw [HM.out] at cX
          have c3 := hSr.cell0 (i := k + j) (by omega)
          have f3 := hFr.at0 (i := k + j) (by omega)
          obtain ⟨y, hy⟩ : ∃ y, dg Y j = y := ⟨_, rfl⟩
          have hyB : y < B := hy ▸ dg_lt Y j
          rw [hy] at c2
          obtain ⟨d, hd⟩ : ∃ d, dg P (k + j) = d := ⟨_, rfl⟩
          have hdB : d < B := hd ▸ dg_lt P (k + j)
          rw [hd] at c3
          have HY := Lib.hid hy
          have HD := Lib.hid hd
          clear hy hd
          have j1 : (j : Int) < ny := by omega
          have j2 : (0 : Int) ≤ j := by omega
          have j3 : (j : Int) < nx + ny - k := by omega
          obtain ⟨q, hq⟩ : ∃ q, k + j = q := ⟨_, rfl⟩
          have jq : (k : Int) + (j : Int) = (q : Nat) := by omega
          have j4 : (q : Int) < nx + ny := by omega
          have j5 : (0 : Int) ≤ q := by omega
          have j6 : IntKind.i64.wrap (q : Int) = (q : Int) := by rw [IntKind.wrap_i64]; omega
          rw [hq] at c3 f3 HD
          have HQ := Lib.hid hq
          clear hq
          go_wp2_with fail
          go_quiet (fail)
          go_wp2_with fail
          go_roundw
          case rel =>
            rw [mul_wraps2_lo hmB hyB hdB hcc, mul_wraps2_hi hmB hyB hdB hcc]
            rw [← HQ.out]
            refine ⟨j + 1, mulHi m y d cc, put P (k + j) (mulLo m y d cc), by omega, mulHi_lt hmB hyB hdB hcc, rfl, by go_num, put_lt (mulLo_lt _ _ _ _) hP (by omega), Lib.hid ?_,
              (below_drewN hbr _).setCell (Nat.le_refl _) _, hSr.drewN.set0 (by omega) (mulLo_lt _ _ _ _), Free.set (fun i hi => (by rw [World.frozen?_drewN]; exact hFr i hi)) _ _, Lib.hid ?_⟩
            · rw [mod_succ Y, HY.out, ← Nat.add_assoc, pow_succ (k + j)]
              have hp := put_eq P (k + j) (mulLo m y d cc)
              rw [show dg P (k + j) = d by rw [HQ.out]; exact HD.out] at hp
              exact mul_step hE.out (mul_lo_hi m y d cc) hp (pow_add k j)
            · simpa using hzr.out
          case measure => simp [intOf]; omega
        · obtain rfl : j = ny := by omega
          have c3 := hSr.cell0 (i := k + j) (by omega)
          have f3 := hFr.at0 (i := k + j) (by omega)
          have hd0 : dg P (k + j) = 0 := dg_of_lt hP (by omega)
          have HD := Lib.hid hd0
          clear hd0
          have j1 : (0 : Int) ≤ j := by omega
          have j2 : (j : Int) < nx + j - k := by omega
          have j3 : (cc : Int) < 4294967296 := by unfold B at hcc; omega
          go_wp2_with fail
          go_roundw
          case rel =>
            refine ⟨k + 1, by omega, by go_num, hbr.setCell (Nat.le_refl _) _, ?_, hFr.set _ _, Lib.hid ?_⟩
            · refine (hSr.set0 (by omega) hcc).val ?_
              have hp := put_eq P (k + j) cc
              rw [HD.out, Nat.zero_mul, Nat.add_zero] at hp
              rw [hp, hE.out, mod_succ X, HM.out, mod_of_lt hY.lt, ← HP.out, Nat.add_mul]
              congr 1
              exact Nat.mul_right_comm _ _ _
            · simpa using hzr.out
          case measure => simp [intOf]; omega
    · obtain rfl : k = nx := by omega
      have hv := hSr.val (show (X % B^k) * Y = X * Y by rw [mod_of_lt hX.lt])
      have hlt2 := HN.out
      have hz2 := hzr.out
      clear HN hzr
      go_wp2_with fail
      go_ret
      exact ⟨rfl, hbr, hv, hFr, Nat.le_refl _, by omega⟩
end Go.Proofs.Ytmfmbglacebeiaa

namespace Go.Proofs.Ytmfmbglacebeiaa
open Go.RowKit PB

set_option maxHeartbeats 3200000 in
set_option maxRecDepth 100000 in
theorem plusr_same (s : Bool) (base : Option Addr) (b off n c X : Nat) (base' : Option Addr) (b' off' n' c' Y : Nat) (w : World)
    (hb : n ≠ 0 → base = some ⟨b, off, none⟩) (hX : Num w b off n X) (hn : n ≤ c) (hl : n ≤ 1000000000)
    (hb' : n' ≠ 0 → base' = some ⟨b', off', none⟩) (hY : Num w b' off' n' Y) (hn' : n' ≤ c') (hl' : n' ≤ 1000000000)  (hs : nl X ≤ 100000) (hs' : nl Y ≤ 100000) :
    Calls Try.prog 46 #[.agg #[.bool s, .slice base n c], .agg #[.bool s, .slice base' n' c']] w (RetInt w (sg s (X + Y))) := by
  have ht : (s == s) = true := by simp
  have HB := Lib.hid hb
  have HB' := Lib.hid hb'
  clear hb hb'
  go_enter Try.func46, Try.ntmps46
  go_wp2_with fail
  generalize hW : World.alloc _ _ = W
  have B0 : Blk W w.heap.size #[.bool s, .slice base n c] := by rw [← hW]; exact ((blk_new rfl).alloc _).alloc _
  have B1 : Blk W (w.heap.size + 1) #[.bool s, .slice base' n' c'] := by rw [← hW]; exact (blk_new (by simp)).alloc _
  have B2 : Blk W (w.heap.size + 1 + 1) #[.bool false, .slice none 0 0] := by rw [← hW]; exact blk_new (by simp)
  have hbW : Below w.heap.size w W := by rw [← hW]; exact (((Below.refl _ _).alloc (Nat.le_refl _) _).alloc (by simp) _).alloc (by simp; omega) _
  have HS := Lib.hid (show W.heap.size = w.heap.size + 3 by rw [← hW]; simp)
  clear hW
  have HK := Lib.hid (show ∀ w1, Below W.heap.size W w1 → w1.cell? ⟨w.heap.size, 1, none⟩ = some (.slice base n c) ∧ w1.cell? ⟨w.heap.size + 1, 1, none⟩ = some (.slice base' n' c') from
    fun w1 h => ⟨(Blk2 (B0.kept h)).2, (Blk2 (B1.kept h)).2⟩)
  obtain ⟨a1, b1⟩ := HK.out _ (Below.refl _ _)
  have hXW := hX.kept hbW
  have HYW := Lib.hid (fun W1 (h : Below W.heap.size W W1) => (hY.kept hbW).kept h)
  go_region_held3 (fun w' => w'.cell? ⟨w.heap.size, 1, none⟩ = some (.slice base n c) ∧ w'.cell? ⟨w.heap.size + 1, 1, none⟩ = some (.slice base' n' c'))
    (first | exact ⟨a1, b1⟩ | exact HK.out _ hq2 | exact HK.out _ hq1)
    (first
      | (go_at_call_of 49 (Value.slice base n c); refine (mag_any base b off n c X _ HB.out (by exact hXW) hn hl).mono ?_; rintro e w1 ⟨v1, rfl, hown1, hb1⟩
         have hq1 : Below W.heap.size W w1 := (by first | exact hb1 | exact below_undrew hb1)
         obtain ⟨m1, g1, d1, rfl, hm1, hd1, hN1, hF1, hG1⟩ := own_slice hown1
         clear hown1)
      | (go_at_call_of 49 (Value.slice base' n' c'); refine (mag_any base' b' off' n' c' Y _ HB'.out (by exact HYW.out _ hq1) hn' hl').mono ?_; rintro e w2 ⟨v2, rfl, hown2, hb2⟩
         have hq2 : Below W.heap.size W w2 := hq1.trans (hb2.mono hq1.size)
         have hN1' := hN1.kept hb2
         obtain ⟨m2, g2, d2, rfl, hm2, hd2, hN2, hF2, hG2⟩ := own_slice hown2
         clear hown2))
  have HBW := Lib.hid (hbW.trans (hq2.mono (by have := HS.out; omega)))
  have HSZ := Lib.hid (show w.heap.size + 3 ≤ w2.heap.size by have := HS.out; have := hq2.size; omega)
  have B0' := B0.kept hq2
  have B1' := B1.kept hq2
  have B2' := B2.kept hq2
  obtain ⟨a0, a1⟩ := Blk2 B0'
  obtain ⟨b0, b1⟩ := Blk2 B1'
  clear HK HYW hXW HS hbW B0 B1 B2 hq1 hq2 hb1 hb2 hN1 hF1 hG1 hF2 hG2
  have HM1 := Lib.hid hm1
  have HM2 := Lib.hid hm2
  have HN1 := Lib.hid hN1'
  have HN2 := Lib.hid hN2
  clear hm1 hm2 hN1' hN2
  go_wp2_with fail
  have HK := Lib.hid (show ∀ w3, Below w2.heap.size w2 w3 → w3.cell? ⟨w.heap.size, 0, none⟩ = some (.bool s) from fun w3 h => (Blk2 (B0'.kept h)).1)
  have HL := Lib.hid (show ∀ w3, Below w2.heap.size w2 w3 → Blk w3 (w.heap.size + 1 + 1) #[.bool false, .slice none 0 0] from fun w3 h => B2'.kept h)
  have HMAG := Lib.hid (fun W3 (h : Below w2.heap.size w2 W3) => addmag_any m1 m2 g1 0 (nl X) X d1 g2 0 (nl Y) Y d2 W3 HM1.out HM2.out (HN1.out.kept h) (HN2.out.kept h) (by omega) (by omega))
  have ha0 := HK.out _ (Below.refl _ _)
  clear B0' B1' B2'
  go_region_held3 (fun w' => w'.cell? ⟨w.heap.size, 0, none⟩ = some (.bool s))
    (first | exact ha0 | exact HK.out _ hF0 | exact HK.out _ hbb | (refine cell_other (cell_other (HK.out _ hbb) ?_) ?_ <;> (show w.heap.size ≠ w.heap.size + 1 + 1; omega)))
    (first
      | (go_at_call 54; refine (HMAG.out _ (by first | exact Below.refl _ _ | exact (Below.refl _ _).drew)).mono ?_; rintro e w3 ⟨v3, k3, rfl, hown3, hk3, hb3⟩
         have hF0 : Below w2.heap.size w2 w3 := (by first | exact hb3 | exact below_undrew hb3)
         obtain ⟨m3, g3, d3, rfl, hm3, hd3, hN3, hF3, hG3⟩ := own_slice hown3
         clear hown3)
      | (go_at_call 48; refine (make1_any s m3 g3 0 k3 d3 (X + Y) _ hm3 (by exact hN3) hd3 (by omega)).mono ?_; rintro e w4 ⟨u, rfl, hcan, hb4⟩
         have hbb : Below w2.heap.size w2 w4 := hF0.trans (hb4.mono hF0.size)
         obtain ⟨s1, q1, c1, rfl⟩ := can_agg hcan
         obtain ⟨r0, r1⟩ := Blk2 (HL.out _ hbb)
         obtain ⟨f0, f1⟩ := Blk2f (HL.out _ hbb)
         have hw34 : w2.heap.size ≤ w3.heap.size := hF0.size
         have HC := Lib.hid (hcan.mono hw34)
         clear hcan))
  go_wp2_with fail
  have h1 := HSZ.out
  exact bodyPost_ret (v := .agg #[.bool s1, .slice q1 _ c1]) (by simp [results, Try.results46, go_sem, r0, r1]) rfl
    ⟨_, rfl, ((HC.out.set (by show w.heap.size + 1 + 1 < w2.heap.size; omega) _).set (by show w.heap.size + 1 + 1 < w2.heap.size; omega) _).mono (by omega), ((HBW.out.trans (hbb.mono (by omega))).setCell (by show w.heap.size ≤ w.heap.size + 1 + 1; omega) _).setCell (by show w.heap.size ≤ w.heap.size + 1 + 1; omega) _⟩

set_option maxHeartbeats 3200000 in
set_option maxRecDepth 100000 in
theorem plusr_ge (s t : Bool) (base : Option Addr) (b off n c X : Nat) (base' : Option Addr) (b' off' n' c' Y : Nat) (w : World)
    (hb : n ≠ 0 → base = some ⟨b, off, none⟩) (hX : Num w b off n X) (hn : n ≤ c) (hl : n ≤ 1000000000)
    (hb' : n' ≠ 0 → base' = some ⟨b', off', none⟩) (hY : Num w b' off' n' Y) (hn' : n' ≤ c') (hl' : n' ≤ 1000000000) (hst : s ≠ t) (hle : Y ≤ X) (hs : nl X ≤ 100000) (hs' : nl Y ≤ 100000) :
    Calls Try.prog 46 #[.agg #[.bool s, .slice base n c], .agg #[.bool t, .slice base' n' c']] w (RetInt w (sg s (X - Y))) := by
  have ht : (s == t) = false := by simpa using hst
  have hcm : ¬ cmpi (X : Int) Y < 0 := by unfold cmpi; rw [if_neg (by omega)]; split <;> decide
  have hcm2 : 0 ≤ cmpi (X : Int) Y := by omega
  have HB := Lib.hid hb
  have HB' := Lib.hid hb'
  clear hb hb'
  go_enter Try.func46, Try.ntmps46
  go_wp2_with fail
  generalize hW : World.alloc _ _ = W
  have B0 : Blk W w.heap.size #[.bool s, .slice base n c] := by rw [← hW]; exact ((blk_new rfl).alloc _).alloc _
  have B1 : Blk W (w.heap.size + 1) #[.bool t, .slice base' n' c'] := by rw [← hW]; exact (blk_new (by simp)).alloc _
  have B2 : Blk W (w.heap.size + 1 + 1) #[.bool false, .slice none 0 0] := by rw [← hW]; exact blk_new (by simp)
  have hbW : Below w.heap.size w W := by rw [← hW]; exact (((Below.refl _ _).alloc (Nat.le_refl _) _).alloc (by simp) _).alloc (by simp; omega) _
  have HS := Lib.hid (show W.heap.size = w.heap.size + 3 by rw [← hW]; simp)
  clear hW
  have HK := Lib.hid (show ∀ w1, Below W.heap.size W w1 → w1.cell? ⟨w.heap.size, 1, none⟩ = some (.slice base n c) ∧ w1.cell? ⟨w.heap.size + 1, 1, none⟩ = some (.slice base' n' c') from
    fun w1 h => ⟨(Blk2 (B0.kept h)).2, (Blk2 (B1.kept h)).2⟩)
  obtain ⟨a1, b1⟩ := HK.out _ (Below.refl _ _)
  have hXW := hX.kept hbW
  have HYW := Lib.hid (fun W1 (h : Below W.heap.size W W1) => (hY.kept hbW).kept h)
  go_region_held3 (fun w' => w'.cell? ⟨w.heap.size, 1, none⟩ = some (.slice base n c) ∧ w'.cell? ⟨w.heap.size + 1, 1, none⟩ = some (.slice base' n' c'))
    (first | exact ⟨a1, b1⟩ | exact HK.out _ hq2 | exact HK.out _ hq1)
    (first
      | (go_at_call_of 49 (Value.slice base n c); refine (mag_any base b off n c X _ HB.out (by exact hXW) hn hl).mono ?_; rintro e w1 ⟨v1, rfl, hown1, hb1⟩
         have hq1 : Below W.heap.size W w1 := (by first | exact hb1 | exact below_undrew hb1)
         obtain ⟨m1, g1, d1, rfl, hm1, hd1, hN1, hF1, hG1⟩ := own_slice hown1
         clear hown1)
      | (go_at_call_of 49 (Value.slice base' n' c'); refine (mag_any base' b' off' n' c' Y _ HB'.out (by exact HYW.out _ hq1) hn' hl').mono ?_; rintro e w2 ⟨v2, rfl, hown2, hb2⟩
         have hq2 : Below W.heap.size W w2 := hq1.trans (hb2.mono hq1.size)
         have hN1' := hN1.kept hb2
         obtain ⟨m2, g2, d2, rfl, hm2, hd2, hN2, hF2, hG2⟩ := own_slice hown2
         clear hown2))
  have HBW := Lib.hid (hbW.trans (hq2.mono (by have := HS.out; omega)))
  have HSZ := Lib.hid (show w.heap.size + 3 ≤ w2.heap.size by have := HS.out; have := hq2.size; omega)
  have B0' := B0.kept hq2
  have B1' := B1.kept hq2
  have B2' := B2.kept hq2
  obtain ⟨a0, a1⟩ := Blk2 B0'
  obtain ⟨b0, b1⟩ := Blk2 B1'
  clear HK HYW hXW HS hbW B0 B1 B2 hq1 hq2 hb1 hb2 hN1 hF1 hG1 hF2 hG2
  have HM1 := Lib.hid hm1
  have HM2 := Lib.hid hm2
  have HN1 := Lib.hid hN1'
  have HN2 := Lib.hid hN2
  clear hm1 hm2 hN1' hN2
  go_wp2_with (go_at_call 55; refine (cmpmag_any m1 m2 g1 0 X d1 g2 0 Y d2 _ HM1.out HM2.out (by exact HN1.out) (by exact HN2.out) (by omega) (by omega)).mono ?_; rintro e w' ⟨rfl, nq, rfl⟩)
  have HN1' := Lib.hid (HN1.out.drewN (m := nq))
  have HN2' := Lib.hid (HN2.out.drewN (m := nq))
  have HBW' := Lib.hid (below_drewN HBW.out nq)
  have HSZ' := Lib.hid (show w.heap.size + 3 ≤ (w2.drewN nq).heap.size from HSZ.out)
  replace B0' := B0'.drewN (n := nq)
  replace B1' := B1'.drewN (n := nq)
  replace B2' := B2'.drewN (n := nq)
  clear HN1 HN2 HBW HSZ a0 a1 b0 b1
  generalize w2.drewN nq = w2 at *
  have HN1 := HN1'
  have HN2 := HN2'
  have HBW := HBW'
  have HSZ := HSZ'
  clear HN1' HN2' HBW' HSZ'
  have HK := Lib.hid (show ∀ w3, Below w2.heap.size w2 w3 → w3.cell? ⟨w.heap.size, 0, none⟩ = some (.bool s) from fun w3 h => (Blk2 (B0'.kept h)).1)
  have HL := Lib.hid (show ∀ w3, Below w2.heap.size w2 w3 → Blk w3 (w.heap.size + 1 + 1) #[.bool false, .slice none 0 0] from fun w3 h => B2'.kept h)
  have HMAG := Lib.hid (fun W3 (h : Below w2.heap.size w2 W3) => submag_any m1 m2 g1 0 (nl X) X d1 g2 0 (nl Y) Y d2 W3 HM1.out HM2.out (HN1.out.kept h) (HN2.out.kept h) (by omega) hle)
  have ha0 := HK.out _ (Below.refl _ _)
  clear B0' B1' B2'
  go_region_held3 (fun w' => w'.cell? ⟨w.heap.size, 0, none⟩ = some (.bool s))
    (first | exact ha0 | exact HK.out _ hF0 | exact HK.out _ hbb | (refine cell_other (cell_other (HK.out _ hbb) ?_) ?_ <;> (show w.heap.size ≠ w.heap.size + 1 + 1; omega)))
    (first
      | (go_at_call 56; refine (HMAG.out _ (by first | exact Below.refl _ _ | exact (Below.refl _ _).drew)).mono ?_; rintro e w3 ⟨v3, k3, rfl, hown3, hk3, hb3⟩
         have hF0 : Below w2.heap.size w2 w3 := (by first | exact hb3 | exact below_undrew hb3)
         obtain ⟨m3, g3, d3, rfl, hm3, hd3, hN3, hF3, hG3⟩ := own_slice hown3
         clear hown3)
      | (go_at_call 48; refine (make1_any s m3 g3 0 k3 d3 (X - Y) _ hm3 (by exact hN3) hd3 (by omega)).mono ?_; rintro e w4 ⟨u, rfl, hcan, hb4⟩
         have hbb : Below w2.heap.size w2 w4 := hF0.trans (hb4.mono hF0.size)
         obtain ⟨s1, q1, c1, rfl⟩ := can_agg hcan
         obtain ⟨r0, r1⟩ := Blk2 (HL.out _ hbb)
         obtain ⟨f0, f1⟩ := Blk2f (HL.out _ hbb)
         have hw34 : w2.heap.size ≤ w3.heap.size := hF0.size
         have HC := Lib.hid (hcan.mono hw34)
         clear hcan))
  go_wp2_with fail
  have h1 := HSZ.out
  exact bodyPost_ret (v := .agg #[.bool s1, .slice q1 _ c1]) (by simp [results, Try.results46, go_sem, r0, r1]) rfl
    ⟨_, rfl, ((HC.out.set (by show w.heap.size + 1 + 1 < w2.heap.size; omega) _).set (by show w.heap.size + 1 + 1 < w2.heap.size; omega) _).mono (by omega), ((HBW.out.trans (hbb.mono (by omega))).setCell (by show w.heap.size ≤ w.heap.size + 1 + 1; omega) _).setCell (by show w.heap.size ≤ w.heap.size + 1 + 1; omega) _⟩

set_option maxHeartbeats 3200000 in
set_option maxRecDepth 100000 in
theorem plusr_lt (s t : Bool) (base : Option Addr) (b off n c X : Nat) (base' : Option Addr) (b' off' n' c' Y : Nat) (w : World)
    (hb : n ≠ 0 → base = some ⟨b, off, none⟩) (hX : Num w b off n X) (hn : n ≤ c) (hl : n ≤ 1000000000)
    (hb' : n' ≠ 0 → base' = some ⟨b', off', none⟩) (hY : Num w b' off' n' Y) (hn' : n' ≤ c') (hl' : n' ≤ 1000000000) (hst : s ≠ t) (hlt : X < Y) (hs : nl X ≤ 100000) (hs' : nl Y ≤ 100000) :
    Calls Try.prog 46 #[.agg #[.bool s, .slice base n c], .agg #[.bool t, .slice base' n' c']] w (RetInt w (sg t (Y - X))) := by
  have ht : (s == t) = false := by simpa using hst
  have hcm : cmpi (X : Int) Y < 0 := by unfold cmpi; rw [if_pos (by omega)]; decide
  have hcm2 : ¬ 0 ≤ cmpi (X : Int) Y := by omega
  have HB := Lib.hid hb
  have HB' := Lib.hid hb'
  clear hb hb'
  go_enter Try.func46, Try.ntmps46
  go_wp2_with fail
  generalize hW : World.alloc _ _ = W
  have B0 : Blk W w.heap.size #[.bool s, .slice base n c] := by rw [← hW]; exact ((blk_new rfl).alloc _).alloc _
  have B1 : Blk W (w.heap.size + 1) #[.bool t, .slice base' n' c'] := by rw [← hW]; exact (blk_new (by simp)).alloc _
  have B2 : Blk W (w.heap.size + 1 + 1) #[.bool false, .slice none 0 0] := by rw [← hW]; exact blk_new (by simp)
  have hbW : Below w.heap.size w W := by rw [← hW]; exact (((Below.refl _ _).alloc (Nat.le_refl _) _).alloc (by simp) _).alloc (by simp; omega) _
  have HS := Lib.hid (show W.heap.size = w.heap.size + 3 by rw [← hW]; simp)
  clear hW
  have HK := Lib.hid (show ∀ w1, Below W.heap.size W w1 → w1.cell? ⟨w.heap.size, 1, none⟩ = some (.slice base n c) ∧ w1.cell? ⟨w.heap.size + 1, 1, none⟩ = some (.slice base' n' c') from
    fun w1 h => ⟨(Blk2 (B0.kept h)).2, (Blk2 (B1.kept h)).2⟩)
  obtain ⟨a1, b1⟩ := HK.out _ (Below.refl _ _)
  have hXW := hX.kept hbW
  have HYW := Lib.hid (fun W1 (h : Below W.heap.size W W1) => (hY.kept hbW).kept h)
  go_region_held3 (fun w' => w'.cell? ⟨w.heap.size, 1, none⟩ = some (.slice base n c) ∧ w'.cell? ⟨w.heap.size + 1, 1, none⟩ = some (.slice base' n' c'))
    (first | exact ⟨a1, b1⟩ | exact HK.out _ hq2 | exact HK.out _ hq1)
    (first
      | (go_at_call_of 49 (Value.slice base n c); refine (mag_any base b off n c X _ HB.out (by exact hXW) hn hl).mono ?_; rintro e w1 ⟨v1, rfl, hown1, hb1⟩
         have hq1 : Below W.heap.size W w1 := (by first | exact hb1 | exact below_undrew hb1)
         obtain ⟨m1, g1, d1, rfl, hm1, hd1, hN1, hF1, hG1⟩ := own_slice hown1
         clear hown1)
      | (go_at_call_of 49 (Value.slice base' n' c'); refine (mag_any base' b' off' n' c' Y _ HB'.out (by exact HYW.out _ hq1) hn' hl').mono ?_; rintro e w2 ⟨v2, rfl, hown2, hb2⟩
         have hq2 : Below W.heap.size W w2 := hq1.trans (hb2.mono hq1.size)
         have hN1' := hN1.kept hb2
         obtain ⟨m2, g2, d2, rfl, hm2, hd2, hN2, hF2, hG2⟩ := own_slice hown2
         clear hown2))
  have HBW := Lib.hid (hbW.trans (hq2.mono (by have := HS.out; omega)))
  have HSZ := Lib.hid (show w.heap.size + 3 ≤ w2.heap.size by have := HS.out; have := hq2.size; omega)
  have B0' := B0.kept hq2
  have B1' := B1.kept hq2
  have B2' := B2.kept hq2
  obtain ⟨a0, a1⟩ := Blk2 B0'
  obtain ⟨b0, b1⟩ := Blk2 B1'
  clear HK HYW hXW HS hbW B0 B1 B2 hq1 hq2 hb1 hb2 hN1 hF1 hG1 hF2 hG2
  have HM1 := Lib.hid hm1
  have HM2 := Lib.hid hm2
  have HN1 := Lib.hid hN1'
  have HN2 := Lib.hid hN2
  clear hm1 hm2 hN1' hN2
  go_wp2_with (go_at_call 55; refine (cmpmag_any m1 m2 g1 0 X d1 g2 0 Y d2 _ HM1.out HM2.out (by exact HN1.out) (by exact HN2.out) (by omega) (by omega)).mono ?_; rintro e w' ⟨rfl, nq, rfl⟩)
  have HN1' := Lib.hid (HN1.out.drewN (m := nq))
  have HN2' := Lib.hid (HN2.out.drewN (m := nq))
  have HBW' := Lib.hid (below_drewN HBW.out nq)
  have HSZ' := Lib.hid (show w.heap.size + 3 ≤ (w2.drewN nq).heap.size from HSZ.out)
  replace B0' := B0'.drewN (n := nq)
  replace B1' := B1'.drewN (n := nq)
  replace B2' := B2'.drewN (n := nq)
  clear HN1 HN2 HBW HSZ a0 a1 b0 b1
  generalize w2.drewN nq = w2 at *
  have HN1 := HN1'
  have HN2 := HN2'
  have HBW := HBW'
  have HSZ := HSZ'
  clear HN1' HN2' HBW' HSZ'
  have HK := Lib.hid (show ∀ w3, Below w2.heap.size w2 w3 → w3.cell? ⟨w.heap.size + 1, 0, none⟩ = some (.bool t) from fun w3 h => (Blk2 (B1'.kept h)).1)
  have HL := Lib.hid (show ∀ w3, Below w2.heap.size w2 w3 → Blk w3 (w.heap.size + 1 + 1) #[.bool false, .slice none 0 0] from fun w3 h => B2'.kept h)
  have HMAG := Lib.hid (fun W3 (h : Below w2.heap.size w2 W3) => submag_any m2 m1 g2 0 (nl Y) Y d2 g1 0 (nl X) X d1 W3 HM2.out HM1.out (HN2.out.kept h) (HN1.out.kept h) (by omega) (by omega))
  have ha0 := HK.out _ (Below.refl _ _)
  clear B0' B1' B2'
  go_region_held3 (fun w' => w'.cell? ⟨w.heap.size + 1, 0, none⟩ = some (.bool t))
    (first | exact ha0 | exact HK.out _ hF0 | exact HK.out _ hbb | (refine cell_other (cell_other (HK.out _ hbb) ?_) ?_ <;> (show w.heap.size + 1 ≠ w.heap.size + 1 + 1; omega)))
    (first
      | (go_at_call 56; refine (HMAG.out _ (by first | exact Below.refl _ _ | exact (Below.refl _ _).drew)).mono ?_; rintro e w3 ⟨v3, k3, rfl, hown3, hk3, hb3⟩
         have hF0 : Below w2.heap.size w2 w3 := (by first | exact hb3 | exact below_undrew hb3)
         obtain ⟨m3, g3, d3, rfl, hm3, hd3, hN3, hF3, hG3⟩ := own_slice hown3
         clear hown3)
      | (go_at_call 48; refine (make1_any t m3 g3 0 k3 d3 (Y - X) _ hm3 (by exact hN3) hd3 (by omega)).mono ?_; rintro e w4 ⟨u, rfl, hcan, hb4⟩
         have hbb : Below w2.heap.size w2 w4 := hF0.trans (hb4.mono hF0.size)
         obtain ⟨s1, q1, c1, rfl⟩ := can_agg hcan
         obtain ⟨r0, r1⟩ := Blk2 (HL.out _ hbb)
         obtain ⟨f0, f1⟩ := Blk2f (HL.out _ hbb)
         have hw34 : w2.heap.size ≤ w3.heap.size := hF0.size
         have HC := Lib.hid (hcan.mono hw34)
         clear hcan))
  go_wp2_with fail
  have h1 := HSZ.out
  exact bodyPost_ret (v := .agg #[.bool s1, .slice q1 _ c1]) (by simp [results, Try.results46, go_sem, r0, r1]) rfl
    ⟨_, rfl, ((HC.out.set (by show w.heap.size + 1 + 1 < w2.heap.size; omega) _).set (by show w.heap.size + 1 + 1 < w2.heap.size; omega) _).mono (by omega), ((HBW.out.trans (hbb.mono (by omega))).setCell (by show w.heap.size ≤ w.heap.size + 1 + 1; omega) _).setCell (by show w.heap.size ≤ w.heap.size + 1 + 1; omega) _⟩
end Go.Proofs.Ytmfmbglacebeiaa

namespace Go.Proofs.Ytmfmbglacebeiaa
open Go.RowKit PB

theorem plus_ref (v1 v2 : Value) (z1 z2 : Int) (w : World) (h1 : IsInt w v1 z1) (h2 : IsInt w v2 z2) (hs : nl z1.natAbs ≤ 100000) (hs' : nl z2.natAbs ≤ 100000) :
    Calls Try.prog 46 #[v1, v2] w (RetInt w (z1 + z2)) := by
  obtain ⟨s, base, b, off, n, c, X, rfl, hb, hX, hn, hl, rfl⟩ := h1
  obtain ⟨t, base', b', off', n', c', Y, rfl, hb', hY, hn', hl', rfl⟩ := h2
  rw [sg_natAbs] at hs hs'
  by_cases hst : s = t
  · subst hst
    have e : sg s X + sg s Y = sg s (X + Y) := by unfold sg; cases s <;> simp <;> omega
    rw [e]
    exact plusr_same s base b off n c X base' b' off' n' c' Y w hb hX hn hl hb' hY hn' hl' hs hs'
  · by_cases hle : Y ≤ X
    · have e : sg s X + sg t Y = sg s (X - Y) := by unfold sg; cases s <;> cases t <;> simp at hst ⊢ <;> omega
      rw [e]
      exact plusr_ge s t base b off n c X base' b' off' n' c' Y w hb hX hn hl hb' hY hn' hl' hst hle hs hs'
    · have e : sg s X + sg t Y = sg t (Y - X) := by unfold sg; cases s <;> cases t <;> simp at hst ⊢ <;> omega
      rw [e]
      exact plusr_lt s t base b off n c X base' b' off' n' c' Y w hb hX hn hl hb' hY hn' hl' hst (by omega) hs hs'

end Go.Proofs.Ytmfmbglacebeiaa

namespace Go.Proofs.Ytmfmbglacebeiaa
open Go.RowKit PB

set_option maxHeartbeats 3200000 in
set_option maxRecDepth 100000 in
theorem times_ref (v1 v2 : Value) (z1 z2 : Int) (w : World) (h1 : IsInt w v1 z1) (h2 : IsInt w v2 z2) (hs : nl z1.natAbs ≤ 100000) (hs' : nl z2.natAbs ≤ 100000) :
    Calls Try.prog 47 #[v1, v2] w (RetInt w (z1 * z2)) := by
  obtain ⟨s, base, b, off, n, c, X, rfl, hb, hX, hn, hl, rfl⟩ := h1
  obtain ⟨t, base', b', off', n', c', Y, rfl, hb', hY, hn', hl', rfl⟩ := h2
  rw [sg_natAbs] at hs hs'
  rw [show sg s X * sg t Y = sg (!(s == t)) (X * Y) from sg_mul _ _ _ _]
  obtain ⟨st, hst⟩ : ∃ st, (!(s == t)) = st := ⟨_, rfl⟩
  rw [hst]
  have HB := Lib.hid hb
  have HB' := Lib.hid hb'
  clear hb hb'
  go_enter Try.func47, Try.ntmps47
  go_wp2_with fail
  generalize hW : World.alloc _ _ = W
  have B0 : Blk W w.heap.size #[.bool s, .slice base n c] := by rw [← hW]; exact ((blk_new rfl).alloc _).alloc _
  have B1 : Blk W (w.heap.size + 1) #[.bool t, .slice base' n' c'] := by rw [← hW]; exact (blk_new (by simp)).alloc _
  have B2 : Blk W (w.heap.size + 1 + 1) #[.bool false, .slice none 0 0] := by rw [← hW]; exact blk_new (by simp)
  have hbW : Below w.heap.size w W := by rw [← hW]; exact (((Below.refl _ _).alloc (Nat.le_refl _) _).alloc (by simp) _).alloc (by simp; omega) _
  have HS := Lib.hid (show W.heap.size = w.heap.size + 3 by rw [← hW]; simp)
  clear hW
  have HK := Lib.hid (show ∀ w1, Below W.heap.size W w1 → (w1.cell? ⟨w.heap.size, 0, none⟩ = some (.bool s) ∧ w1.cell? ⟨w.heap.size, 1, none⟩ = some (.slice base n c)) ∧ (w1.cell? ⟨w.heap.size + 1, 0, none⟩ = some (.bool t) ∧ w1.cell? ⟨w.heap.size + 1, 1, none⟩ = some (.slice base' n' c')) from
    fun w1 h => ⟨Blk2 (B0.kept h), Blk2 (B1.kept h)⟩)
  have HL := Lib.hid (show ∀ w3, Below W.heap.size W w3 → Blk w3 (w.heap.size + 1 + 1) #[.bool false, .slice none 0 0] from fun w3 h => B2.kept h)
  have HK4 := Lib.hid (show ∀ (w4 : World) (u0 u1 : Value), ((w4.cell? ⟨w.heap.size, 0, none⟩ = some (.bool s) ∧ w4.cell? ⟨w.heap.size, 1, none⟩ = some (.slice base n c)) ∧ (w4.cell? ⟨w.heap.size + 1, 0, none⟩ = some (.bool t) ∧ w4.cell? ⟨w.heap.size + 1, 1, none⟩ = some (.slice base' n' c'))) → ((((w4.setCell ⟨w.heap.size + 1 + 1, 0, none⟩ u0).setCell ⟨w.heap.size + 1 + 1, 1, none⟩ u1).cell? ⟨w.heap.size, 0, none⟩ = some (.bool s) ∧ ((w4.setCell ⟨w.heap.size + 1 + 1, 0, none⟩ u0).setCell ⟨w.heap.size + 1 + 1, 1, none⟩ u1).cell? ⟨w.heap.size, 1, none⟩ = some (.slice base n c)) ∧ (((w4.setCell ⟨w.heap.size + 1 + 1, 0, none⟩ u0).setCell ⟨w.heap.size + 1 + 1, 1, none⟩ u1).cell? ⟨w.heap.size + 1, 0, none⟩ = some (.bool t) ∧ ((w4.setCell ⟨w.heap.size + 1 + 1, 0, none⟩ u0).setCell ⟨w.heap.size + 1 + 1, 1, none⟩ u1).cell? ⟨w.heap.size + 1, 1, none⟩ = some (.slice base' n' c'))) from fun w4 u0 u1 h =>
    ⟨⟨cell_other (cell_other h.1.1 (show w.heap.size ≠ w.heap.size + 1 + 1 by omega)) (show w.heap.size ≠ w.heap.size + 1 + 1 by omega), cell_other (cell_other h.1.2 (show w.heap.size ≠ w.heap.size + 1 + 1 by omega)) (show w.heap.size ≠ w.heap.size + 1 + 1 by omega)⟩,
      cell_other (cell_other h.2.1 (show w.heap.size + 1 ≠ w.heap.size + 1 + 1 by omega)) (show w.heap.size + 1 ≠ w.heap.size + 1 + 1 by omega), cell_other (cell_other h.2.2 (show w.heap.size + 1 ≠ w.heap.size + 1 + 1 by omega)) (show w.heap.size + 1 ≠ w.heap.size + 1 + 1 by omega)⟩)
  obtain ⟨⟨a0, a1⟩, b0, b1⟩ := HK.out _ (Below.refl _ _)
  have HXW := Lib.hid (fun W1 (h : Below W.heap.size W W1) => (hX.kept hbW).kept h)
  have HYW := Lib.hid (fun W1 (h : Below W.heap.size W W1) => (hY.kept hbW).kept h)
  have HBW := Lib.hid hbW
  clear B0 B1 B2 hbW
  go_region_held3 (fun w' => (w'.cell? ⟨w.heap.size, 0, none⟩ = some (.bool s) ∧ w'.cell? ⟨w.heap.size, 1, none⟩ = some (.slice base n c)) ∧ (w'.cell? ⟨w.heap.size + 1, 0, none⟩ = some (.bool t) ∧ w'.cell? ⟨w.heap.size + 1, 1, none⟩ = some (.slice base' n' c')))
    (first | exact ⟨⟨a0, a1⟩, b0, b1⟩ | exact HK.out _ hq4 | exact HK.out _ hq3 | exact HK.out _ hq2 | exact HK.out _ hq1 | exact HK4.out _ _ _ (HK.out _ hq4))
    (first
      | (go_at_call_of 49 (Value.slice base n c); refine (mag_any base b off n c X _ HB.out (HXW.out _ (by first | exact Below.refl _ _ | exact (Below.refl _ _).drew)) hn hl).mono ?_; rintro e w1 ⟨v1, rfl, hown1, hb1⟩
         have hq1 : Below W.heap.size W w1 := (by first | exact hb1 | exact below_undrew hb1)
         obtain ⟨m1, g1, d1, rfl, hm1, hd1, hN1, hF1, hG1⟩ := own_slice hown1
         clear hown1)
      | (go_at_call_of 49 (Value.slice base' n' c'); refine (mag_any base' b' off' n' c' Y _ HB'.out (HYW.out _ (by exact hq1)) hn' hl').mono ?_; rintro e w2 ⟨v2, rfl, hown2, hb2⟩
         have hq2 : Below W.heap.size W w2 := hq1.trans (hb2.mono hq1.size)
         have hN1' := hN1.kept hb2
         obtain ⟨m2, g2, d2, rfl, hm2, hd2, hN2, hF2, hG2⟩ := own_slice hown2
         clear hown2)
      | (go_at_call 57; refine (mulmag_any m1 m2 g1 0 (nl X) d1 X g2 0 (nl Y) d2 Y _ hm1 hm2 (by exact hN1') (by exact hN2) (by omega) (by omega)).mono ?_; rintro e w3 ⟨rfl, hF⟩
         have hb3 : Below w2.heap.size w2 w3 := (by first | exact hF.below | exact below_undrew hF.below)
         have hq3 : Below W.heap.size W w3 := hq2.trans (hb3.mono hq2.size)
         have hN3 : Num w3 w2.heap.size 0 (nl X + nl Y) (X * Y) := (by exact hF.num))
      | (go_at_call 48; refine (make1_any st _ w2.heap.size 0 _ _ (X * Y) _ (fun _ => rfl) (by exact hN3) (Nat.le_refl _) (by omega)).mono ?_; rintro e w4 ⟨u, rfl, hcan, hb4⟩
         have hq4 : Below W.heap.size W w4 := hq3.trans (hb4.mono hq3.size)
         obtain ⟨s1, q1, c1, rfl⟩ := can_agg hcan
         obtain ⟨r0, r1⟩ := Blk2 (HL.out _ hq4)
         obtain ⟨f0, f1⟩ := Blk2f (HL.out _ hq4)
         have HC := Lib.hid (hcan.mono (show W.heap.size ≤ _ from hq3.size))
         clear hcan))
  go_wp2_with fail
  have h1 := HS.out
  exact bodyPost_ret (v := .agg #[.bool s1, .slice q1 _ c1]) (by simp [results, Try.results47, go_sem, r0, r1]) rfl
    ⟨_, rfl, ((HC.out.set (by show w.heap.size + 1 + 1 < W.heap.size; omega) _).set (by show w.heap.size + 1 + 1 < W.heap.size; omega) _).mono (by omega), ((HBW.out.trans (hq4.mono (by omega))).setCell (by show w.heap.size ≤ w.heap.size + 1 + 1; omega) _).setCell (by show w.heap.size ≤ w.heap.size + 1 + 1; omega) _⟩
end Go.Proofs.Ytmfmbglacebeiaa

namespace Go.Proofs.Ytmfmbglacebeiaa
open Go.RowKit PB

end Go.Proofs.Ytmfmbglacebeiaa

namespace Go.Proofs.Ytmfmbglacebeiaa
open Go.RowKit PB

end Go.Proofs.Ytmfmbglacebeiaa

namespace Go.Proofs.Ytmfmbglacebeiaa
open Go.RowKit PB

end Go.Proofs.Ytmfmbglacebeiaa

namespace Go.Proofs.Ytmfmbglacebeiaa
open Go.RowKit PB
set_option maxHeartbeats 1600000 in
set_option maxRecDepth 100000 in
theorem ofr_nonneg (n : Nat) (w : World) (hn : Hid (n < 9223372036854775808)) :
    Calls Try.prog 37 #[.int .i64 n] w (RetInt w n) := by
  have h0 : ¬ ((n : Int) < 0) := by omega
  go_enter Try.func37, Try.ntmps37
  go_wp2_with fail
  have e0 : IntKind.u64.wrap (n : Int) % 4294967296 = (dg n 0 : Nat) := by
    have := hn.out; rw [of_dg0, IntKind.wrap_u64]; omega
  have e1 : IntKind.u64.wrap (n : Int) / 4294967296 % 4294967296 = (dg n 1 : Nat) := by
    have := hn.out; rw [of_dg1 (by omega), IntKind.wrap_u64]; omega
  rw [e0, e1]
  clear e0 e1
  generalize hW : World.alloc _ _ = W
  have B0 : Blk W w.heap.size #[.bool false, .slice none 0 0] := by rw [← hW]; exact (blk_new rfl).alloc _
  have B1 : Blk W (w.heap.size + 1) #[.int .u32 (dg n 0), .int .u32 (dg n 1)] := by rw [← hW]; exact blk_new (by simp)
  have hbW : Below w.heap.size w W := by rw [← hW]; exact ((Below.refl _ _).alloc (Nat.le_refl _) _).alloc (by simp) _
  have HS := Lib.hid (show W.heap.size = w.heap.size + 2 by rw [← hW]; simp)
  have hN : Num W (w.heap.size + 1) 0 2 n := ⟨by have := hn.out; show n < 18446744073709551616; omega, fun i hi => by
    have : i = 0 ∨ i = 1 := by omega
    rcases this with rfl | rfl
    · exact B1.cell 0 _ rfl
    · exact B1.cell 1 _ rfl⟩
  clear hW B1
  refine (make1_any false _ (w.heap.size + 1) 0 2 2 n W (fun _ => rfl) hN (Nat.le_refl _) (by omega)).mono ?_
  rintro e w2 ⟨u, rfl, hcan, hb2⟩
  have hbw2 : Below w.heap.size w w2 := hbW.trans (hb2.mono (by have := HS.out; omega))
  obtain ⟨r0, r1⟩ := Blk2 (B0.kept hb2)
  obtain ⟨f0, f1⟩ := Blk2f (B0.kept hb2)
  obtain ⟨s1, q1, c1, rfl⟩ := can_agg hcan
  have HC := Lib.hid hcan
  clear hcan B0
  go_wp2_with fail
  have h1 := HS.out
  exact bodyPost_ret (v := .agg #[.bool s1, .slice q1 _ c1]) (by simp [results, Try.results37, go_sem, r0, r1]) rfl ⟨_, rfl, ((HC.out.set (by show w.heap.size < W.heap.size; omega) _).set (by show w.heap.size < W.heap.size; omega) _).mono (by omega), (hbw2.setCell (Nat.le_refl _) _).setCell (Nat.le_refl _) _⟩
set_option maxHeartbeats 1600000 in
set_option maxRecDepth 100000 in
theorem ofr_neg (n : Nat) (w : World) (h1 : 0 < n) (hn : Hid (n ≤ 9223372036854775808)) :
    Calls Try.prog 37 #[.int .i64 (-(n : Int))] w (RetInt w (-(n : Int))) := by
  have h0 : -(n : Int) < 0 := by omega
  go_enter Try.func37, Try.ntmps37
  go_wp2_with fail
  have e0 : IntKind.u64.wrap (-IntKind.u64.wrap (-(n : Int))) % 4294967296 = (dg n 0 : Nat) := by
    have := hn.out; rw [of_dg0, IntKind.wrap_u64, IntKind.wrap_u64]; omega
  have e1 : IntKind.u64.wrap (-IntKind.u64.wrap (-(n : Int))) / 4294967296 % 4294967296 = (dg n 1 : Nat) := by
    have := hn.out; rw [of_dg1 (by omega), IntKind.wrap_u64, IntKind.wrap_u64]; omega
  rw [e0, e1]
  clear e0 e1
  generalize hW : World.alloc _ _ = W
  have B0 : Blk W w.heap.size #[.bool false, .slice none 0 0] := by rw [← hW]; exact (blk_new rfl).alloc _
  have B1 : Blk W (w.heap.size + 1) #[.int .u32 (dg n 0), .int .u32 (dg n 1)] := by rw [← hW]; exact blk_new (by simp)
  have hbW : Below w.heap.size w W := by rw [← hW]; exact ((Below.refl _ _).alloc (Nat.le_refl _) _).alloc (by simp) _
  have HS := Lib.hid (show W.heap.size = w.heap.size + 2 by rw [← hW]; simp)
  have hN : Num W (w.heap.size + 1) 0 2 n := ⟨by have := hn.out; show n < 18446744073709551616; omega, fun i hi => by
    have : i = 0 ∨ i = 1 := by omega
    rcases this with rfl | rfl
    · exact B1.cell 0 _ rfl
    · exact B1.cell 1 _ rfl⟩
  clear hW B1
  refine (make1_any true _ (w.heap.size + 1) 0 2 2 n W (fun _ => rfl) hN (Nat.le_refl _) (by omega)).mono ?_
  rintro e w2 ⟨u, rfl, hcan, hb2⟩
  have hbw2 : Below w.heap.size w w2 := hbW.trans (hb2.mono (by have := HS.out; omega))
  obtain ⟨r0, r1⟩ := Blk2 (B0.kept hb2)
  obtain ⟨f0, f1⟩ := Blk2f (B0.kept hb2)
  obtain ⟨s1, q1, c1, rfl⟩ := can_agg hcan
  have HC := Lib.hid hcan
  clear hcan B0
  go_wp2_with fail
  have h1 := HS.out
  exact bodyPost_ret (v := .agg #[.bool s1, .slice q1 _ c1]) (by simp [results, Try.results37, go_sem, r0, r1]) rfl ⟨_, rfl, ((HC.out.set (by show w.heap.size < W.heap.size; omega) _).set (by show w.heap.size < W.heap.size; omega) _).mono (by omega), (hbw2.setCell (Nat.le_refl _) _).setCell (Nat.le_refl _) _⟩
theorem of_ref (n : Int) (w : World) (h1 : -9223372036854775808 ≤ n) (h2 : n ≤ 9223372036854775807) :
    Calls Try.prog 37 #[.int .i64 n] w (RetInt w n) := by
  by_cases h : 0 ≤ n
  · obtain ⟨k, rfl⟩ := Int.eq_ofNat_of_zero_le h
    exact ofr_nonneg k w (Lib.hid (by omega))
  · obtain ⟨k, hk⟩ := Int.eq_ofNat_of_zero_le (show 0 ≤ -n by omega)
    obtain rfl : n = -(k : Int) := by omega
    exact ofr_neg k w (by omega) (Lib.hid (by omega))
end Go.Proofs.Ytmfmbglacebeiaa

namespace Go.Proofs.Ytmfmbglacebeiaa
open Go.RowKit PB

end Go.Proofs.Ytmfmbglacebeiaa

namespace Go.Proofs.Ytmfmbglacebeiaa
open Go.RowKit PB

end Go.Proofs.Ytmfmbglacebeiaa

namespace PB
open Go Go.RowKit
theorem limbs_zero (n : Nat) : limbs 0 n = (List.replicate n (Value.int .u32 0)) := by
  apply List.ext_getElem?
  intro i
  by_cases h : i < n
  · rw [limbs_get h, List.getElem?_replicate, if_pos h, dg_zero]; rfl
  · rw [List.getElem?_eq_none (by rw [limbs_length]; omega), List.getElem?_eq_none (by simp; omega)]
theorem OwnL.kept {E : TypeId} {N n X : Nat} {w w' : World} {v : Value} (h : OwnL E N w v n X) (hb : Below w.heap.size w w') : OwnL E N w' v n X := by
  obtain ⟨hX, h1, h2⟩ := h
  refine ⟨hX, h1, ?_⟩
  rcases h2 with h2 | ⟨g, cap, cur, rfl, hg, hh, r⟩
  · exact .inl h2
  · have hlt : g < w.heap.size := by
      rcases Nat.lt_or_ge g w.heap.size with h | h
      · exact h
      · rw [Array.getElem?_eq_none h] at hh; cases hh
    exact .inr ⟨g, cap, cur, rfl, hg, by rw [hb.block g hlt]; exact hh, r⟩
theorem wpList_make_limbs {P : Program} (w : World) {ops : Array Oper} {rest : List Oper} {o : Oper} {a : Act} {Q : Exit → Act → World → Prop}
    (hg : o.guard = none) (l c : Operand) (t : TypeId) (hop : o.op = Op.makeSlice t l c)
    (e : TypeId) (hi : (P.info? e).map (fun i => (i.zero, i.size, i.bytes)) = some (some (.int .u32 0), 1, 4)) (h1 : P.underlying t = some (.slice e))
    (N : Nat) (hN : N ≤ w.heap.size) (kl kc : IntKind) (L C : Int) (n : Nat) (hl : a.eval l = .int kl L) (hc : a.eval c = .int kc C) (hL : L = n) (hC : C = n) (hn : n ≤ 1000000)
    (hK : ∀ v w', Below w.heap.size w w' → OwnL e N w' v n 0 → wpList P ops Q rest (a.put o.dst v) w') :
    wpList P ops Q (o :: rest) a w := by
  subst hL
  subst hC
  obtain ⟨i, h2, hz, hs, hb⟩ := info_parts hi
  refine wpList_plain hg fun K hK' => ?_
  have hrun := run_make (P := P) w t e i (.int .u32 0) h1 h2 hz kl kc n n (by omega) (by omega) (by rw [hb]; omega) (by omega)
  rw [hs] at hrun
  simp only [Int.toNat_natCast] at hrun
  unfold Oper.wp
  simp [execOp, hop, hl, hc, Result.andThen]
  rw [hrun]
  refine hK' _ _ (hK _ _ ((Below.refl _ _).alloc (Nat.le_refl _) _) ⟨Bp _, by rw [limbs_length, Nat.mul_one], .inr ⟨w.heap.size, n, _, rfl, hN, heap_alloc_new w _, Nat.le_refl _, by unfold maxLen; omega, ?_, ?_⟩⟩)
  · simp [madeCells, Value.cells]
  · rw [limbs_zero]
    apply List.ext_getElem
    · simp [madeCells, Value.cells]
    · intro j h1 h2
      simp [madeCells, Value.cells, Nat.mod_one]
/-- 'append(own, d)': where the new row lies, too. -/
theorem wpList_append_word_at {P : Program} (w : World) {ops : Array Oper} {rest : List Oper} {o : Oper} {a : Act} {Q : Exit → Act → World → Prop} (hgd : o.guard = none) (s x : Operand) (t : TypeId)
    (ho : o.op = .call { callee := .builtin .append, args := #[s, x], argTypes := #[t, t] }) (E : TypeId) (i : TypeInfo) (ht : P.underlying t = some (.slice E)) (hi : P.info? E = some i) (hz : i.zero = some (.int .u32 0)) (hsize : i.size = 1) (hby : i.bytes = 4)
    (N : Nat) (v : Value) (n X : Nat) (hs : a.eval s = v) (hown : OwnL E N w v n X) (b d : Nat) (hx : a.eval x = .slice (some ⟨b, 0, none⟩) 1 1) (hd : d < B) (hb : w.cell? ⟨b, 0, none⟩ = some (.int .u32 d)) (hn : n ≤ 2000000000) (hN : N ≤ w.heap.size)
    (h : ∀ v' w', OwnL E N w' v' (n + 1) (X + d * B^n) → Below N w w' → w.grownBy w' v.ownBlock → (v'.ownBlock = v.ownBlock ∨ v'.ownBlock = some w.heap.size) → wpList P ops Q rest (a.put o.dst v') w') : wpList P ops Q (o :: rest) a w := by
  refine wpList_append_own_at w hgd s x t ho N E i (.int .u32 0) 1 4 ht hi hz hsize hby rfl (by decide) v n (limbs X n) hs hown.2 ⟨b, 0, none⟩ 1 1 [.int .u32 d] hx rfl ?_ ?_ (by unfold maxLen; omega) (by omega) hN ?_
  · intro j u hu
    obtain rfl : j = 0 := by have := (List.getElem?_eq_some_iff.1 hu).1; simpa using this
    simp at hu
    subst hu
    rw [Addr.add_lit]
    exact hb
  · intro u hu; simp at hu; subst hu; rfl
  · intro v' w' h1 h2 _ h4
    rw [limbs_snoc hown.1 hd] at h1
    exact h v' w' ⟨add_lt_pow hown.1 hd, h1⟩ ((Below.refl _ _).grown h2 hN (fun q hq => (World.ownsRow.lt hown.2 q hq).1)) h2 h4
theorem up_word {x cn p : Nat} (hx : x < B) (hp : p < 32) (hcn : cn < 2^p) :
    bits BinOp.or IntKind.u64 (IntKind.u64.wrap (IntKind.u64.wrap (x : Int) * 2^p)) (IntKind.u64.wrap (cn : Int)) = ((x * 2^p + cn : Nat) : Int) := by
  have h1 : (2:Nat)^p ≤ 2^31 := Nat.pow_le_pow_right (by decide) (by omega)
  have e1 : IntKind.u64.wrap (cn : Int) = cn := by rw [IntKind.wrap_u64]; omega
  have h2 : x * 2^p < B * 2^32 := by
    refine Nat.lt_of_lt_of_le (Nat.mul_lt_mul_of_pos_right hx (Nat.pow_pos (by decide))) (Nat.mul_le_mul_left _ (Nat.le_trans h1 (by decide)))
  have e2 := nat_join p (x * 2^p) cn (Nat.mul_mod_left _ _) hcn
  rw [raise_wrap hx hp, e1, u64_or_nat _ _ (by unfold B at *; omega) (by omega), e2]
theorem up_lt {x cn p : Nat} (hx : x < B) (hcn : cn < 2^p) : (x * 2^p + cn) / B < 2^p := by
  have h1 : (x + 1) * 2^p ≤ B * 2^p := Nat.mul_le_mul_right _ hx
  rw [Nat.add_mul, Nat.one_mul] at h1
  exact Nat.div_lt_of_lt_mul (by omega)
theorem up_step {X S cn j x p T : Nat} (h : S + cn * B^j = X % B^j * 2^p) (hx : dg X j = x) (hT : x * 2^p + cn = T) :
    S + T % B * B^j + T / B * B^(j+1) = X % B^(j+1) * 2^p := by
  have e1 := Nat.mod_add_div' T B
  rw [mod_succ X, hx, pow_succ, Nat.add_mul]
  have e2 : (T % B + T / B * B) * B^j = (x * 2^p + cn) * B^j := by rw [e1, hT]
  rw [Nat.add_mul, Nat.add_mul, Nat.mul_assoc (T / B), Nat.mul_comm B] at e2
  have e3 : x * B^j * 2^p = x * 2^p * B^j := Nat.mul_right_comm _ _ _
  omega
end PB

namespace Go.Proofs.Ytmfmbglacebeiaa
open Go.RowKit PB

set_option maxHeartbeats 3200000 in
set_option maxRecDepth 100000 in
theorem up_mag (s : Bool) (base : Option Addr) (b off n c X : Nat) (k q p : Nat) (w : World) (hb : n ≠ 0 → base = some ⟨b, off, none⟩) (hX : Num w b off n X) (hn : n ≤ c) (hl : n ≤ 1000000000)
    (hs : nl X ≤ 100000) (hk : k = 32 * q + p) (hp : p < 32) (hq : q ≤ 100000) (Z : Nat) (hZ : Hid (X * 2^k = Z)) :
    Calls Try.prog 38 #[.agg #[.bool s, .slice base n c], .int .i64 k] w (RetInt w (sg s Z)) := by
  have HM := Lib.hid (fun W (h : Below w.heap.size w W) => mag_any base b off n c X W hb (hX.kept h) hn hl)
  obtain ⟨i0, hi, hz0, hz1, hz2⟩ := info_parts info51
  have e1 : (k : Int) / 32 = q := by omega
  have e2 : (k : Int) % 32 = p := by omega
  have e3 : (k : Int) ≤ 3200032 := by omega
  have HKK := Lib.hid hk
  clear hb hk
  go_enter Try.func38, Try.ntmps38
  go_upto_region 1 with fail
  generalize hW : World.alloc _ _ = W
  have B0 : Blk W w.heap.size #[.bool s, .slice base n c] := by rw [← hW]; exact (blk_new rfl).alloc _
  have B1 : Blk W (w.heap.size + 1) #[.bool false, .slice none 0 0] := by rw [← hW]; exact blk_new (by simp)
  have hbW : Below w.heap.size w W := by rw [← hW]; exact bs_alloc (bs_alloc (Below.refl _ _) _) _
  have HS := Lib.hid (show W.heap.size = w.heap.size + 2 by rw [← hW]; simp)
  clear hW
  have HK := Lib.hid (show ∀ w3, Below W.heap.size W w3 → w3.cell? ⟨w.heap.size, 0, none⟩ = some (.bool s) from fun w3 h => (Blk2 (B0.kept h)).1)
  have HL := Lib.hid (show ∀ w3, Below W.heap.size W w3 → Blk w3 (w.heap.size + 1) #[.bool false, .slice none 0 0] from fun w3 h => B1.kept h)
  go_wp2_with (at_make; go_loud (refine wpList_make_limbs _ rfl _ _ 48 rfl 60 info51 Try.underlying48 W.heap.size (Nat.le_refl _) .i64 .i64 _ _ q rfl rfl (by omega) (by omega) (by omega) ?_))
  intro v0 w0 hb0 hown0
  have B0' := B0.kept hb0
  have B1' := B1.kept hb0
  obtain ⟨a0, a1⟩ := Blk2 B0'
  have HB0 := Lib.hid hb0
  have HBW := Lib.hid hbW
  clear B0 B1 hbW hb0
  go_wp2_with fail
  refine (HM.out _ (bs_trans HBW.out HB0.out)).mono ?_
  rintro e w1 ⟨v, rfl, hown, hb1⟩
  obtain ⟨mb, mg, mc, rfl, hm1, hm2, hm3, hm4, hm5⟩ := own_slice hown
  have hq1 : Below W.heap.size W w1 := HB0.out.trans (hb1.mono HB0.out.size)
  have hO1 := hown0.kept hb1
  have HMG := Lib.hid (show nl X ≠ 0 → mg < w1.heap.size from fun h => hm3.block_lt h)
  have HV0 := Lib.hid (show nl X ≠ 0 → v0.ownBlock ≠ some mg from fun h h2 => by
    have := (World.ownsRow.lt hown0.2 mg h2).2
    have := hm5 h
    omega)
  have HM1 := Lib.hid hm1
  have HXL := Lib.hid (lt_nl X)
  obtain ⟨M, hM⟩ : ∃ M, nl X = M := ⟨_, rfl⟩
  rw [hM] at HMG HV0 HM1 HXL hm2 hm3 hs ⊢
  have B0'' := B0'.kept hb1
  have B1'' := B1'.kept hb1
  clear hown hown0 hb1 HM hm1 hm4 hm5 B0' B1' a0 a1 HB0 hM
  go_wp2_with fail
  go_loopw [5, 6, 9, 10] (fun o cc i x wr => ∃ j cn S : Nat, j ≤ M ∧ cn < 2^p ∧ cc = .int .u32 cn ∧ i = .int .i64 j ∧ Hid (S + cn * B^j = X % B^j * 2^p) ∧ OwnL 60 W.heap.size wr o (q + j) (S * B^q) ∧ S < B^j ∧ Hid (M ≠ 0 → o.ownBlock ≠ some mg) ∧ Num wr mg 0 M X ∧ Below W.heap.size W wr ∧ Hid (w1.heap.size ≤ wr.heap.size)) (fun _ _ i _ _ => M - (intOf i).toNat)
  case atStart => exact ⟨0, 0, 0, by omega, Nat.pow_pos (by decide), rfl, rfl, Lib.hid (by simp [Nat.mod_one]), by simpa using hO1, Bp 0, HV0, hm3, hq1, Lib.hid (Nat.le_refl _)⟩
  case round =>
    clear hO1 hm3 hq1
    obtain ⟨j, cn, S, hj, hcn, rfl, rfl, hE, hO, hS, hne, hN3, hb, hsz⟩ := hrel
    have hgr := hb.size
    by_cases hlt : j < M
    · obtain rfl := HM1.out (by omega)
      have cX := hN3.cell0 (i := j) hlt
      have hx := dg_lt X j
      obtain ⟨x, hxe⟩ : ∃ x, dg X j = x := ⟨_, rfl⟩
      rw [hxe] at cX hx
      have HX := Lib.hid hxe
      clear hxe
      have i1 : (j : Int) < M := by omega
      have i2 : (0 : Int) ≤ j := by omega
      have i3 : (j : Int) ≤ 100000 := by omega
      have i4 : (p : Int) < 32 := by omega
      obtain ⟨T, hT⟩ : ∃ T, x * 2^p + cn = T := ⟨_, rfl⟩
      have HW := Lib.hid (up_word hx hp hcn)
      have HST := Lib.hid (up_step hE.out HX.out hT)
      have HTB := Lib.hid (up_lt hx hcn)
      rw [hT] at HW HTB
      have hTl : T < 18446744073709551616 := by
        have h1 : (2:Nat)^p ≤ 2^31 := Nat.pow_le_pow_right (by decide) (by omega)
        have h2 : T / B < 2147483648 := Nat.lt_of_lt_of_le HTB.out h1
        have := Nat.div_add_mod T B
        have := Nat.mod_lt T (show 0 < B by decide)
        unfold B at *; omega
      have HTM := Lib.hid (show (T : Int) % 4294967296 = ((T % B : Nat) : Int) from (Int.natCast_emod _ _).symm)
      have HTD := Lib.hid (show (T : Int) / 4294967296 = ((T / B : Nat) : Int) from (Int.natCast_ediv _ _).symm)
      have hmg := HMG.out (by omega)
      have hszo := hsz.out
      clear hT
      go_wp2_with (at_builtin; rw [HW.out, HTM.out]; refine wpList_append_word_at _ rfl _ _ 48 rfl 60 i0 Try.underlying48 hi hz0 hz1 hz2 W.heap.size _ (q + j) (S * B^q) rfl ⟨hO.1, hO.2.alloc _⟩ wr.heap.size (T % B) rfl (Nat.mod_lt _ (by decide)) (cell_new _ _ _ _ _ _ rfl rfl) (by omega) (by simp; omega) ?_)
      intro v' w' hown hbl hg hat
      have hb2 := (hb.alloc hgr (Obj.cells #[.int .u32 (T % B : Nat)] 60)).trans hbl
      have hN4 : Num w' mg 0 M X := ⟨HXL.out, fun i hi => by
        rw [World.cell?_of_block (hg.block mg (by simp; omega) (fun e => hne.out (by omega) e.symm))]
        exact (hN3.alloc _).2 i hi⟩
      have hne2 := Lib.hid (show M ≠ 0 → v'.ownBlock ≠ some mg from fun h e => by
        rcases hat with h1 | h1
        · exact hne.out h (h1 ▸ e)
        · rw [h1] at e; simp at e; omega)
      have hsz2 := Lib.hid (show w1.heap.size ≤ w'.heap.size by have := hg.size; simp at this; omega)
      have hO2 : OwnL 60 W.heap.size w' v' (q + (j + 1)) ((S + T % B * B^j) * B^q) := by
        rw [Nat.add_mul, Nat.mul_assoc (T % B), Nat.mul_comm (B^j), ← pow_add]; exact hown
      have hS2 := add_lt_pow (d := T % B) hS (Nat.mod_lt _ (by decide))
      clear hO hbl hg hat hown hne hN3 hsz hszo
      go_wp2_with fail
      go_roundw
      case rel =>
        rw [HTD.out]
        exact ⟨j + 1, T / B, _, by omega, HTB.out, rfl, by go_num, Lib.hid HST.out, hO2, hS2, hne2, hN4, hb2, hsz2⟩
      case measure => simp [intOf]; omega
    · obtain rfl : j = M := by omega
      have HV := Lib.hid (show S * B^q + cn * B^(q+j) = Z by
        rw [← hZ.out]
        have h := hE.out
        rw [Nat.mod_eq_of_lt HXL.out] at h
        rw [HKK.out, Nat.pow_add 2 (32 * q) p, Nat.pow_mul, show (2:Nat)^32 = B from rfl, ← Nat.mul_assoc, Nat.mul_right_comm, ← h, Nat.add_mul, pow_add, Nat.mul_assoc cn, Nat.mul_comm (B^j)])
      have hcB : cn < B := Nat.lt_of_lt_of_le hcn (Nat.pow_le_pow_right (show 0 < 2 by decide) (show p ≤ 32 by omega))
      have i1 : ¬ (j : Int) < j := by omega
      have ha0 := HK.out _ hb
      have hsz0 := HS.out
      clear hsz hne hN3 B0'' B1'' HV0 hE
      go_wp2_with fail
      clear hlt i1 hj HXL HM1 HMG hm2 e1 e2 e3 HKK hX hZ hcn hp hl hn
      go_region_held3 (fun w' => w'.cell? ⟨w.heap.size, 0, none⟩ = some (.bool s))
        (first | (refine cell_other (cell_other (HK.out _ hbb) ?_) ?_ <;> (show w.heap.size ≠ w.heap.size + 1; omega)) | exact HK.out _ hbb | exact HK.out _ hba | exact ha0 | exact HK.out _ (hb.alloc hgr _) | exact HK.out _ (hb.alloc hgr _).drew | exact HK.out _ hb.drew)
        (first
          | (go_at_call 48; refine (make1_any s _ _ 0 _ _ Z _ (fun _ => rfl) (by exact hN9) hc9 (by omega)).mono ?_; rintro e w4 ⟨u, rfl, hcan, hb4⟩
             have hbb : Below W.heap.size W w4 := hba.trans (hb4.mono hba.size)
             obtain ⟨s1, q1, c1, rfl⟩ := can_agg hcan
             obtain ⟨r0, r1⟩ := Blk2 (HL.out _ hbb)
             obtain ⟨f0, f1⟩ := Blk2f (HL.out _ hbb)
             have HC := Lib.hid (hcan.mono (show W.heap.size ≤ _ from hba.size))
             clear hcan)
          | (refine step_append_lies _ (by rfl) _ _ 48 (by rfl) W.heap.size 60 i0 (.int .u32 0) 1 4 Try.underlying48 hi hz0 hz1 hz2 rfl (by decide) u5 (q + j) (limbs (S * B^q) (q + j)) (by rfl) (by exact hO.2.alloc _) ⟨wr.heap.size, 0, none⟩ 1 1 [.int .u32 cn] (by rfl) rfl (by exact cell_one_new _ _ _) (by intro u hu; simp at hu; subst hu; rfl) (by decide) (by unfold maxLen; omega) (by omega) (by simp; omega) (wr.heap.size + 1) (by simp) ?_
             intro g cap w2 hown2 hgrow hat hlt2
             have hba : Below W.heap.size W w2 := (by first | exact (hb.alloc hgr _).grown hgrow (by simp; omega) (fun q hq => (World.ownsRow.lt hO.2 q hq).1) | exact (hb.drew.alloc hgr _).grown hgrow (by simp; omega) (fun q hq => (World.ownsRow.lt hO.2 q hq).1))
             have hown3 : OwnL 60 W.heap.size w2 (.slice (some ⟨g, 0, none⟩) (q + j + 1) cap) (q + j + 1) Z := by
               rw [limbs_snoc hO.1 hcB] at hown2
               rw [← HV.out]
               exact ⟨add_lt_pow hO.1 hcB, hown2⟩
             obtain ⟨b9, g9, c9, hv9, hm9, hc9, hN9, hF9, hG9⟩ := own_slice hown3
             clear hown2 hown3 hgrow hat hlt2
             cases hv9
             obtain rfl : g = g9 := by simpa using hm9 (by omega)
             clear hm9)
          | fail "no arm")
      go_wp2_with fail
      have h1 := HS.out
      exact bodyPost_ret (v := .agg #[.bool s1, .slice q1 _ c1]) (by simp [results, Try.results38, go_sem, r0, r1]) rfl
        ⟨_, rfl, ((HC.out.set (by show w.heap.size + 1 < W.heap.size; omega) _).set (by show w.heap.size + 1 < W.heap.size; omega) _).mono (by omega), bs_set (bs_set (HBW.out.trans (hbb.mono (by omega))) (by show w.heap.size ≤ w.heap.size + 1; omega) _) (by show w.heap.size ≤ w.heap.size + 1; omega) _⟩
end Go.Proofs.Ytmfmbglacebeiaa

namespace Go.Proofs.Ytmfmbglacebeiaa
open Go.RowKit PB

end Go.Proofs.Ytmfmbglacebeiaa

namespace Go.Proofs.Ytmfmbglacebeiaa
open Go.RowKit PB

theorem up_ref (v : Value) (z : Int) (k : Nat) (w : World) (h : IsInt w v z) (hs : nl z.natAbs ≤ 100000) (hk : k ≤ 3200000) :
    Calls Try.prog 38 #[v, .int .i64 k] w (RetInt w (z * (2^k : Nat))) := by
  obtain ⟨s, base, b, off, n, c, X, rfl, hb, hX, hn, hl, rfl⟩ := h
  rw [sg_natAbs] at hs
  have e : sg s X * ((2^k : Nat) : Int) = sg s (X * 2^k) := by unfold sg; cases s <;> simp [Int.neg_mul]
  rw [e]
  exact up_mag s base b off n c X k (k / 32) (k % 32) w hb hX hn hl hs (by omega) (Nat.mod_lt _ (by decide)) (by omega) _ (Lib.hid rfl)
end Go.Proofs.Ytmfmbglacebeiaa

namespace PB
open Go Go.RowKit
theorem OwnL.mono {E : TypeId} {N N' n X : Nat} {w : World} {v : Value} (h : OwnL E N w v n X) (hN : N' ≤ N) : OwnL E N' w v n X := by
  obtain ⟨hX, h1, h2⟩ := h
  refine ⟨hX, h1, ?_⟩
  rcases h2 with h2 | ⟨g, cap, cur, h3, hg, r⟩
  · exact .inl h2
  · exact .inr ⟨g, cap, cur, h3, Nat.le_trans hN hg, r⟩
theorem OwnL.other {E : TypeId} {N n X : Nat} {w : World} {v : Value} (h : OwnL E N w v n X) {a : Addr} (u : Value) (hne : a.block < N) : OwnL E N (w.setCell a u) v n X := by
  obtain ⟨hX, h1, h2⟩ := h
  refine ⟨hX, h1, ?_⟩
  rcases h2 with h2 | ⟨g, cap, cur, h3, hg, hh, r⟩
  · exact .inl h2
  · exact .inr ⟨g, cap, cur, h3, hg, by rw [Below.heap_setCell _ _ _ _ (show g ≠ a.block by omega)]; exact hh, r⟩
/-- The call returns an Int whose limbs are a row of its own. -/
def RetOwn (E : TypeId) (w : World) (X : Nat) (e : Ending) (w' : World) : Prop := ∃ (s : Bool) (base : Option Addr) (c : Nat), e = .returned (.agg #[.bool s, .slice base (nl X) c]) ∧ OwnL E w.heap.size w' (.slice base (nl X) c) (nl X) X ∧ Below w.heap.size w w'
end PB
namespace Go.Proofs.Ytmfmbglacebeiaa
open Go.RowKit PB

set_option maxHeartbeats 3200000 in
set_option maxRecDepth 100000 in
theorem make1_own (neg : Bool) (base : Option Addr) (b off n c X : Nat) (w : World) (hb : n ≠ 0 → base = some ⟨b, off, none⟩) (hX : Num w b off n X) (hn : n ≤ c) (hl : n ≤ 1000000000) :
    Calls Try.prog 48 #[.bool neg, .slice base n c] w (RetOwn 60 w X) := by
  have hnl := nl_le hX.lt
  obtain ⟨s, hs⟩ : ∃ s, (if X = 0 then false else neg) = s := ⟨_, rfl⟩
  have HS : Hid (sg s X = sg neg X ∧ (X = 0 → s = false)) := Lib.hid (by
    rw [← hs]
    by_cases h : X = 0
    · subst h; simp [sg]
    · rw [if_neg h]; exact ⟨rfl, fun e => absurd e h⟩)
  have HD : Hid ((X = 0 ∧ s = false) ∨ (0 < nl X ∧ s = neg)) := Lib.hid (by
    rw [← hs]
    by_cases h : X = 0
    · exact Or.inl ⟨h, if_pos h⟩
    · exact Or.inr ⟨by have := mt nl_eq_zero.1 h; omega, if_neg h⟩)
  have HM := Lib.hid (fun W (h : Below w.heap.size w W) => mag_any base b off n c X W hb (hX.kept h) hn hl)
  clear hs hb
  go_enter Try.func48, Try.ntmps48
  go_upto_region 1 with fail
  generalize hW : World.alloc _ _ = W
  obtain ⟨R, hR⟩ : ∃ R, w.heap.size = R := ⟨_, rfl⟩
  have BR : Blk W R #[.bool false, .slice none 0 0] := by rw [← hW, ← hR]; exact blk_new rfl
  have hbW : Below w.heap.size w W := by rw [← hW]; exact bs_alloc (Below.refl _ _) _
  have HSZ : Hid (W.heap.size = R + 1) := Lib.hid (by rw [← hW, ← hR]; simp)
  rw [hR]
  have HR := Lib.hid hR
  clear hW hR
  go_wp2_with fail
  refine (HM.out W hbW).mono ?_
  rintro e w1 ⟨v, rfl, hown, hb1⟩
  obtain ⟨mb, mg, mc, rfl, hm1, hm2, hm3, hm4, hm5⟩ := own_slice hown
  have BR1 := BR.kept hb1
  have HB1 := Lib.hid (bs_trans hbW hb1)
  have HOW := Lib.hid hown
  have HM1 := Lib.hid hm1
  have HM5 := Lib.hid hm5
  clear hown hb1 hbW BR HM hm1 hm5
  obtain ⟨r0, r1⟩ := Blk2 BR1
  obtain ⟨f0, f1⟩ := Blk2f BR1
  have fin : ∀ Z, Z = ((w1.setCell ⟨R, 0, none⟩ (.bool s)).setCell ⟨R, 1, none⟩ (.slice mb (nl X) mc)) → (Blk Z R #[.bool s, .slice mb (nl X) mc] ∧ OwnL 60 w.heap.size Z (.slice mb (nl X) mc) (nl X) X ∧ Below w.heap.size w Z) := by
    rintro Z rfl
    refine ⟨(BR1.set 0 (.bool s)).set 1 (.slice mb (nl X) mc), ?_, bs_set (bs_set HB1.out (by have := HR.out; omega) _) (by have := HR.out; omega) _⟩
    have h1 := HSZ.out
    exact ((HOW.out.other _ (by show R < W.heap.size; omega)).other _ (by show R < W.heap.size; omega)).mono (by have := HR.out; omega)
  have FIN := Lib.hid fin
  clear fin
  rcases HD.out with ⟨h0, hs⟩ | ⟨h0, hs⟩
  · have i1 : decide (0 < nl X) = false := decide_eq_false (by rw [h0, nl_zero]; decide)
    subst hs
    clear h0 HD
    cases neg
    all_goals
      go_wp2_with fail
      obtain ⟨BZ, hC, hZ⟩ := FIN.out _ rfl
      generalize ((w1.setCell ⟨R, 0, none⟩ (.bool false)).setCell ⟨R, 1, none⟩ (.slice mb (nl X) mc)) = Z at *
      obtain ⟨z0, z1⟩ := Blk2 BZ
      exact bodyPost_ret (v := .agg #[.bool false, .slice mb (nl X) mc]) (by simp [results, Try.results48, go_sem, z0, z1]) rfl ⟨_, _, _, rfl, hC, hZ⟩
  · have i1 : decide (0 < nl X) = true := decide_eq_true (by omega)
    subst hs
    clear h0 HD
    cases s
    · go_wp2_with fail
      obtain ⟨BZ, hC, hZ⟩ := FIN.out _ rfl
      generalize ((w1.setCell ⟨R, 0, none⟩ (.bool false)).setCell ⟨R, 1, none⟩ (.slice mb (nl X) mc)) = Z at *
      obtain ⟨z0, z1⟩ := Blk2 BZ
      exact bodyPost_ret (v := .agg #[.bool false, .slice mb (nl X) mc]) (by simp [results, Try.results48, go_sem, z0, z1]) rfl ⟨false, _, _, rfl, hC, hZ⟩
    · go_wp2_with fail
      obtain ⟨BZ, hC, hZ⟩ := FIN.out _ rfl
      generalize ((w1.setCell ⟨R, 0, none⟩ (.bool true)).setCell ⟨R, 1, none⟩ (.slice mb (nl X) mc)) = Z at *
      obtain ⟨z0, z1⟩ := Blk2 BZ
      exact bodyPost_ret (v := .agg #[.bool true, .slice mb (nl X) mc]) (by simp [results, Try.results48, go_sem, z0, z1]) rfl ⟨true, _, _, rfl, hC, hZ⟩

set_option maxHeartbeats 3200000 in
set_option maxRecDepth 100000 in
theorem up_own (s : Bool) (base : Option Addr) (b off n c X : Nat) (k q p : Nat) (w : World) (hb : n ≠ 0 → base = some ⟨b, off, none⟩) (hX : Num w b off n X) (hn : n ≤ c) (hl : n ≤ 1000000000)
    (hs : nl X ≤ 100000) (hk : k = 32 * q + p) (hp : p < 32) (hq : q ≤ 100000) (Z : Nat) (hZ : Hid (X * 2^k = Z)) :
    Calls Try.prog 38 #[.agg #[.bool s, .slice base n c], .int .i64 k] w (RetOwn 60 w Z) := by
  have HM := Lib.hid (fun W (h : Below w.heap.size w W) => mag_any base b off n c X W hb (hX.kept h) hn hl)
  obtain ⟨i0, hi, hz0, hz1, hz2⟩ := info_parts info51
  have e1 : (k : Int) / 32 = q := by omega
  have e2 : (k : Int) % 32 = p := by omega
  have e3 : (k : Int) ≤ 3200032 := by omega
  have HKK := Lib.hid hk
  clear hb hk
  go_enter Try.func38, Try.ntmps38
  go_upto_region 1 with fail
  generalize hW : World.alloc _ _ = W
  have B0 : Blk W w.heap.size #[.bool s, .slice base n c] := by rw [← hW]; exact (blk_new rfl).alloc _
  have B1 : Blk W (w.heap.size + 1) #[.bool false, .slice none 0 0] := by rw [← hW]; exact blk_new (by simp)
  have hbW : Below w.heap.size w W := by rw [← hW]; exact bs_alloc (bs_alloc (Below.refl _ _) _) _
  have HS := Lib.hid (show W.heap.size = w.heap.size + 2 by rw [← hW]; simp)
  clear hW
  have HK := Lib.hid (show ∀ w3, Below W.heap.size W w3 → w3.cell? ⟨w.heap.size, 0, none⟩ = some (.bool s) from fun w3 h => (Blk2 (B0.kept h)).1)
  have HL := Lib.hid (show ∀ w3, Below W.heap.size W w3 → Blk w3 (w.heap.size + 1) #[.bool false, .slice none 0 0] from fun w3 h => B1.kept h)
  go_wp2_with (at_make; go_loud (refine wpList_make_limbs _ rfl _ _ 48 rfl 60 info51 Try.underlying48 W.heap.size (Nat.le_refl _) .i64 .i64 _ _ q rfl rfl (by omega) (by omega) (by omega) ?_))
  intro v0 w0 hb0 hown0
  have B0' := B0.kept hb0
  have B1' := B1.kept hb0
  obtain ⟨a0, a1⟩ := Blk2 B0'
  have HB0 := Lib.hid hb0
  have HBW := Lib.hid hbW
  clear B0 B1 hbW hb0
  go_wp2_with fail
  refine (HM.out _ (bs_trans HBW.out HB0.out)).mono ?_
  rintro e w1 ⟨v, rfl, hown, hb1⟩
  obtain ⟨mb, mg, mc, rfl, hm1, hm2, hm3, hm4, hm5⟩ := own_slice hown
  have hq1 : Below W.heap.size W w1 := HB0.out.trans (hb1.mono HB0.out.size)
  have hO1 := hown0.kept hb1
  have HMG := Lib.hid (show nl X ≠ 0 → mg < w1.heap.size from fun h => hm3.block_lt h)
  have HV0 := Lib.hid (show nl X ≠ 0 → v0.ownBlock ≠ some mg from fun h h2 => by
    have := (World.ownsRow.lt hown0.2 mg h2).2
    have := hm5 h
    omega)
  have HM1 := Lib.hid hm1
  have HXL := Lib.hid (lt_nl X)
  obtain ⟨M, hM⟩ : ∃ M, nl X = M := ⟨_, rfl⟩
  rw [hM] at HMG HV0 HM1 HXL hm2 hm3 hs ⊢
  have B0'' := B0'.kept hb1
  have B1'' := B1'.kept hb1
  clear hown hown0 hb1 HM hm1 hm4 hm5 B0' B1' a0 a1 HB0 hM
  go_wp2_with fail
  go_loopw [5, 6, 9, 10] (fun o cc i x wr => ∃ j cn S : Nat, j ≤ M ∧ cn < 2^p ∧ cc = .int .u32 cn ∧ i = .int .i64 j ∧ Hid (S + cn * B^j = X % B^j * 2^p) ∧ OwnL 60 W.heap.size wr o (q + j) (S * B^q) ∧ S < B^j ∧ Hid (M ≠ 0 → o.ownBlock ≠ some mg) ∧ Num wr mg 0 M X ∧ Below W.heap.size W wr ∧ Hid (w1.heap.size ≤ wr.heap.size)) (fun _ _ i _ _ => M - (intOf i).toNat)
  case atStart => exact ⟨0, 0, 0, by omega, Nat.pow_pos (by decide), rfl, rfl, Lib.hid (by simp [Nat.mod_one]), by simpa using hO1, Bp 0, HV0, hm3, hq1, Lib.hid (Nat.le_refl _)⟩
  case round =>
    clear hO1 hm3 hq1
    obtain ⟨j, cn, S, hj, hcn, rfl, rfl, hE, hO, hS, hne, hN3, hb, hsz⟩ := hrel
    have hgr := hb.size
    by_cases hlt : j < M
    · obtain rfl := HM1.out (by omega)
      have cX := hN3.cell0 (i := j) hlt
      have hx := dg_lt X j
      obtain ⟨x, hxe⟩ : ∃ x, dg X j = x := ⟨_, rfl⟩
      rw [hxe] at cX hx
      have HX := Lib.hid hxe
      clear hxe
      have i1 : (j : Int) < M := by omega
      have i2 : (0 : Int) ≤ j := by omega
      have i3 : (j : Int) ≤ 100000 := by omega
      have i4 : (p : Int) < 32 := by omega
      obtain ⟨T, hT⟩ : ∃ T, x * 2^p + cn = T := ⟨_, rfl⟩
      have HW := Lib.hid (up_word hx hp hcn)
      have HST := Lib.hid (up_step hE.out HX.out hT)
      have HTB := Lib.hid (up_lt hx hcn)
      rw [hT] at HW HTB
      have hTl : T < 18446744073709551616 := by
        have h1 : (2:Nat)^p ≤ 2^31 := Nat.pow_le_pow_right (by decide) (by omega)
        have h2 : T / B < 2147483648 := Nat.lt_of_lt_of_le HTB.out h1
        have := Nat.div_add_mod T B
        have := Nat.mod_lt T (show 0 < B by decide)
        unfold B at *; omega
      have HTM := Lib.hid (show (T : Int) % 4294967296 = ((T % B : Nat) : Int) from (Int.natCast_emod _ _).symm)
      have HTD := Lib.hid (show (T : Int) / 4294967296 = ((T / B : Nat) : Int) from (Int.natCast_ediv _ _).symm)
      have hmg := HMG.out (by omega)
      have hszo := hsz.out
      clear hT
      go_wp2_with (at_builtin; rw [HW.out, HTM.out]; refine wpList_append_word_at _ rfl _ _ 48 rfl 60 i0 Try.underlying48 hi hz0 hz1 hz2 W.heap.size _ (q + j) (S * B^q) rfl ⟨hO.1, hO.2.alloc _⟩ wr.heap.size (T % B) rfl (Nat.mod_lt _ (by decide)) (cell_new _ _ _ _ _ _ rfl rfl) (by omega) (by simp; omega) ?_)
      intro v' w' hown hbl hg hat
      have hb2 := (hb.alloc hgr (Obj.cells #[.int .u32 (T % B : Nat)] 60)).trans hbl
      have hN4 : Num w' mg 0 M X := ⟨HXL.out, fun i hi => by
        rw [World.cell?_of_block (hg.block mg (by simp; omega) (fun e => hne.out (by omega) e.symm))]
        exact (hN3.alloc _).2 i hi⟩
      have hne2 := Lib.hid (show M ≠ 0 → v'.ownBlock ≠ some mg from fun h e => by
        rcases hat with h1 | h1
        · exact hne.out h (h1 ▸ e)
        · rw [h1] at e; simp at e; omega)
      have hsz2 := Lib.hid (show w1.heap.size ≤ w'.heap.size by have := hg.size; simp at this; omega)
      have hO2 : OwnL 60 W.heap.size w' v' (q + (j + 1)) ((S + T % B * B^j) * B^q) := by
        rw [Nat.add_mul, Nat.mul_assoc (T % B), Nat.mul_comm (B^j), ← pow_add]; exact hown
      have hS2 := add_lt_pow (d := T % B) hS (Nat.mod_lt _ (by decide))
      clear hO hbl hg hat hown hne hN3 hsz hszo
      go_wp2_with fail
      go_roundw
      case rel =>
        rw [HTD.out]
        exact ⟨j + 1, T / B, _, by omega, HTB.out, rfl, by go_num, Lib.hid HST.out, hO2, hS2, hne2, hN4, hb2, hsz2⟩
      case measure => simp [intOf]; omega
    · obtain rfl : j = M := by omega
      have HV := Lib.hid (show S * B^q + cn * B^(q+j) = Z by
        rw [← hZ.out]
        have h := hE.out
        rw [Nat.mod_eq_of_lt HXL.out] at h
        rw [HKK.out, Nat.pow_add 2 (32 * q) p, Nat.pow_mul, show (2:Nat)^32 = B from rfl, ← Nat.mul_assoc, Nat.mul_right_comm, ← h, Nat.add_mul, pow_add, Nat.mul_assoc cn, Nat.mul_comm (B^j)])
      have hcB : cn < B := Nat.lt_of_lt_of_le hcn (Nat.pow_le_pow_right (show 0 < 2 by decide) (show p ≤ 32 by omega))
      have i1 : ¬ (j : Int) < j := by omega
      have ha0 := HK.out _ hb
      have hsz0 := HS.out
      clear hsz hne hN3 B0'' B1'' HV0 hE
      go_wp2_with fail
      clear hlt i1 hj HXL HM1 HMG hm2 e1 e2 e3 HKK hX hZ hcn hp hl hn
      go_region_held3 (fun w' => w'.cell? ⟨w.heap.size, 0, none⟩ = some (.bool s))
        (first | (refine cell_other (cell_other (HK.out _ hbb) ?_) ?_ <;> (show w.heap.size ≠ w.heap.size + 1; omega)) | exact HK.out _ hbb | exact HK.out _ hba | exact ha0 | exact HK.out _ (hb.alloc hgr _) | exact HK.out _ (hb.alloc hgr _).drew | exact HK.out _ hb.drew)
        (first
          | (go_at_call 48; refine (make1_own s _ _ 0 _ _ Z _ (fun _ => rfl) (by exact hN9) hc9 (by omega)).mono ?_; rintro e w4 ⟨s1, q1, c1, rfl, hcan, hb4⟩
             have hbb : Below W.heap.size W w4 := hba.trans (hb4.mono hba.size)
             obtain ⟨r0, r1⟩ := Blk2 (HL.out _ hbb)
             obtain ⟨f0, f1⟩ := Blk2f (HL.out _ hbb)
             have HC := Lib.hid (hcan.mono (show W.heap.size ≤ _ from hba.size))
             clear hcan)
          | (refine step_append_lies _ (by rfl) _ _ 48 (by rfl) W.heap.size 60 i0 (.int .u32 0) 1 4 Try.underlying48 hi hz0 hz1 hz2 rfl (by decide) u5 (q + j) (limbs (S * B^q) (q + j)) (by rfl) (by exact hO.2.alloc _) ⟨wr.heap.size, 0, none⟩ 1 1 [.int .u32 cn] (by rfl) rfl (by exact cell_one_new _ _ _) (by intro u hu; simp at hu; subst hu; rfl) (by decide) (by unfold maxLen; omega) (by omega) (by simp; omega) (wr.heap.size + 1) (by simp) ?_
             intro g cap w2 hown2 hgrow hat hlt2
             have hba : Below W.heap.size W w2 := (by first | exact (hb.alloc hgr _).grown hgrow (by simp; omega) (fun q hq => (World.ownsRow.lt hO.2 q hq).1) | exact (hb.drew.alloc hgr _).grown hgrow (by simp; omega) (fun q hq => (World.ownsRow.lt hO.2 q hq).1))
             have hown3 : OwnL 60 W.heap.size w2 (.slice (some ⟨g, 0, none⟩) (q + j + 1) cap) (q + j + 1) Z := by
               rw [limbs_snoc hO.1 hcB] at hown2
               rw [← HV.out]
               exact ⟨add_lt_pow hO.1 hcB, hown2⟩
             obtain ⟨b9, g9, c9, hv9, hm9, hc9, hN9, hF9, hG9⟩ := own_slice hown3
             clear hown2 hown3 hgrow hat hlt2
             cases hv9
             obtain rfl : g = g9 := by simpa using hm9 (by omega)
             clear hm9)
          | fail "no arm")
      go_wp2_with fail
      have h1 := HS.out
      exact bodyPost_ret (v := .agg #[.bool s1, .slice q1 _ c1]) (by simp [results, Try.results38, go_sem, r0, r1]) rfl
        ⟨_, _, _, rfl, ((HC.out.other _ (by show w.heap.size + 1 < W.heap.size; omega)).other _ (by show w.heap.size + 1 < W.heap.size; omega)).mono (by omega), bs_set (bs_set (HBW.out.trans (hbb.mono (by omega))) (by show w.heap.size ≤ w.heap.size + 1; omega) _) (by show w.heap.size ≤ w.heap.size + 1; omega) _⟩
end Go.Proofs.Ytmfmbglacebeiaa


/-
  integer.Of: the number of an int.
  integer.length and Bits.
  Single calls with given numbers.
  Variables that hold Ints; the verifier's few and plain.
  integer.Sign and Cmp.
-/
import Derived.Laws.ResultCell
import Derived.Laws.Rows
import Derived.Test.YtmfimkndonlheaaM06
import Derived.Test.YtmfimkndonlheaaM09
import Derived.Test.YtmfimkndonlheaaM12
import Derived.Test.YtmfimkndonlheaaM13
import Derived.Test.YtmfimkndonlheaaM14
import Derived.Test.YtmfimkndonlheaaM15
namespace PB
open Go
theorem of_dg0 (X : Nat) : dg X 0 = X % 4294967296 := by simp [dg, B]
theorem of_dg1 {X : Nat} (h : X < 18446744073709551616) : dg X 1 = X / 4294967296 := by unfold dg B; rw [Nat.pow_one]; omega
end PB
namespace Go.Proofs.Ytmfimkndonlheaa
open Go.RowKit PB
set_option maxHeartbeats 1600000 in
set_option maxRecDepth 100000 in
theorem of_nonneg (n : Nat) (w : World) (hn : Hid (n < 9223372036854775808)) :
    Calls Try.prog 30 #[.int .i64 n] w (RetInt w n) := by
  have h0 : ¬ ((n : Int) < 0) := by omega
  go_enter Try.func30, Try.ntmps30
  go_wp2_with fail
  have e0 : IntKind.u64.wrap (n : Int) % 4294967296 = (dg n 0 : Nat) := by
    have := hn.out; rw [of_dg0, IntKind.wrap_u64]; omega
  have e1 : IntKind.u64.wrap (n : Int) / 4294967296 % 4294967296 = (dg n 1 : Nat) := by
    have := hn.out; rw [of_dg1 (by omega), IntKind.wrap_u64]; omega
  rw [e0, e1]
  clear e0 e1
  generalize hW : World.alloc _ _ = W
  have B0 : Blk W w.heap.size #[.bool false, .slice none 0 0] := by rw [← hW]; exact (blk_new rfl).alloc _
  have B1 : Blk W (w.heap.size + 1) #[.int .u32 (dg n 0), .int .u32 (dg n 1)] := by rw [← hW]; exact blk_new (by simp)
  have hbW : Below w.heap.size w W := by rw [← hW]; exact ((Below.refl _ _).alloc (Nat.le_refl _) _).alloc (by simp) _
  have HS := Lib.hid (show W.heap.size = w.heap.size + 2 by rw [← hW]; simp)
  have hN : Num W (w.heap.size + 1) 0 2 n := ⟨by have := hn.out; show n < 18446744073709551616; omega, fun i hi => by
    have : i = 0 ∨ i = 1 := by omega
    rcases this with rfl | rfl
    · exact B1.cell 0 _ rfl
    · exact B1.cell 1 _ rfl⟩
  clear hW B1
  refine (number_any false _ (w.heap.size + 1) 0 2 2 n W (fun _ => rfl) hN (Nat.le_refl _) (by omega)).mono ?_
  rintro e w2 ⟨rfl, hb2⟩
  have hbw2 : Below w.heap.size w w2 := hbW.trans (hb2.mono (by have := HS.out; omega))
  obtain ⟨c0, c1⟩ := Blk2 (B0.kept hb2)
  obtain ⟨f0, f1⟩ := Blk2f (B0.kept hb2)
  have hN2 := hN.kept hb2
  obtain ⟨s', q, m, hv⟩ := intv_form false (some ⟨w.heap.size + 1, 0, none⟩) n
  rw [hv]
  have HV := Lib.hid hv
  clear hv B0
  go_wp2_with fail
  refine bodyPost_ret (v := .agg #[.bool s', .slice q m m]) (by simp [results, Try.results30, go_sem, c0, c1]) rfl ⟨_, rfl, ?_, (hbw2.setCell (Nat.le_refl _) _).setCell (Nat.le_refl _) _⟩
  rw [← HV.out]
  exact can_intv (n := 2) (fun _ => rfl) ((hN2.other _ (fun _ => by show w.heap.size + 1 ≠ w.heap.size; omega)).other _ (fun _ => by show w.heap.size + 1 ≠ w.heap.size; omega)) (by have := nl_le hN2.lt; omega) (fun _ => by omega)
set_option maxHeartbeats 1600000 in
set_option maxRecDepth 100000 in
theorem of_neg (n : Nat) (w : World) (h1 : 0 < n) (hn : Hid (n ≤ 9223372036854775808)) :
    Calls Try.prog 30 #[.int .i64 (-(n : Int))] w (RetInt w (-(n : Int))) := by
  have h0 : -(n : Int) < 0 := by omega
  go_enter Try.func30, Try.ntmps30
  go_wp2_with fail
  have e0 : IntKind.u64.wrap (-IntKind.u64.wrap (-(n : Int))) % 4294967296 = (dg n 0 : Nat) := by
    have := hn.out; rw [of_dg0, IntKind.wrap_u64, IntKind.wrap_u64]; omega
  have e1 : IntKind.u64.wrap (-IntKind.u64.wrap (-(n : Int))) / 4294967296 % 4294967296 = (dg n 1 : Nat) := by
    have := hn.out; rw [of_dg1 (by omega), IntKind.wrap_u64, IntKind.wrap_u64]; omega
  rw [e0, e1]
  clear e0 e1
  generalize hW : World.alloc _ _ = W
  have B0 : Blk W w.heap.size #[.bool false, .slice none 0 0] := by rw [← hW]; exact (blk_new rfl).alloc _
  have B1 : Blk W (w.heap.size + 1) #[.int .u32 (dg n 0), .int .u32 (dg n 1)] := by rw [← hW]; exact blk_new (by simp)
  have hbW : Below w.heap.size w W := by rw [← hW]; exact ((Below.refl _ _).alloc (Nat.le_refl _) _).alloc (by simp) _
  have HS := Lib.hid (show W.heap.size = w.heap.size + 2 by rw [← hW]; simp)
  have hN : Num W (w.heap.size + 1) 0 2 n := ⟨by have := hn.out; show n < 18446744073709551616; omega, fun i hi => by
    have : i = 0 ∨ i = 1 := by omega
    rcases this with rfl | rfl
    · exact B1.cell 0 _ rfl
    · exact B1.cell 1 _ rfl⟩
  clear hW B1
  refine (number_any true _ (w.heap.size + 1) 0 2 2 n W (fun _ => rfl) hN (Nat.le_refl _) (by omega)).mono ?_
  rintro e w2 ⟨rfl, hb2⟩
  have hbw2 : Below w.heap.size w w2 := hbW.trans (hb2.mono (by have := HS.out; omega))
  obtain ⟨c0, c1⟩ := Blk2 (B0.kept hb2)
  obtain ⟨f0, f1⟩ := Blk2f (B0.kept hb2)
  have hN2 := hN.kept hb2
  obtain ⟨s', q, m, hv⟩ := intv_form true (some ⟨w.heap.size + 1, 0, none⟩) n
  rw [hv]
  have HV := Lib.hid hv
  clear hv B0
  go_wp2_with fail
  refine bodyPost_ret (v := .agg #[.bool s', .slice q m m]) (by simp [results, Try.results30, go_sem, c0, c1]) rfl ⟨_, rfl, ?_, (hbw2.setCell (Nat.le_refl _) _).setCell (Nat.le_refl _) _⟩
  rw [← HV.out]
  exact can_intv (n := 2) (fun _ => rfl) ((hN2.other _ (fun _ => by show w.heap.size + 1 ≠ w.heap.size; omega)).other _ (fun _ => by show w.heap.size + 1 ≠ w.heap.size; omega)) (by have := nl_le hN2.lt; omega) (fun _ => by omega)
theorem of_any (n : Int) (w : World) (h1 : -9223372036854775808 ≤ n) (h2 : n ≤ 9223372036854775807) :
    Calls Try.prog 30 #[.int .i64 n] w (RetInt w n) := by
  by_cases h : 0 ≤ n
  · obtain ⟨k, rfl⟩ := Int.eq_ofNat_of_zero_le h
    exact of_nonneg k w (Lib.hid (by omega))
  · obtain ⟨k, hk⟩ := Int.eq_ofNat_of_zero_le (show 0 ≤ -n by omega)
    obtain rfl : n = -(k : Int) := by omega
    exact of_neg k w (by omega) (Lib.hid (by omega))
end Go.Proofs.Ytmfimkndonlheaa

namespace PB
open Go Go.RowKit
/-- The number of bits of X, by its limbs. -/
def bl (X : Nat) : Nat := if X = 0 then 0 else 32 * (nl X - 1) + Lib.bitLen (dg X (nl X - 1))
end PB
namespace Go.Proofs.Ytmfimkndonlheaa
open Go.RowKit PB

set_option maxRecDepth 100000 in
theorem length_any (base : Option Addr) (b off c X : Nat) (w : World) (hb : nl X ≠ 0 → base = some ⟨b, off, none⟩) (hX : Num w b off (nl X) X) (hl : nl X ≤ 1000000000) :
    Calls Try.prog 68 #[.slice base (nl X) c] w fun e w' => e = .returned (.int .i64 (bl X)) ∧ w = w' := by
  by_cases h0 : X = 0
  · have hbl : bl X = 0 := if_pos h0
    rw [hbl]
    have ht : ((nl X : Int) == 0) = true := by rw [h0, nl_zero]; rfl
    clear hbl h0 hb
    go_enter Try.func68, Try.ntmps68
    go_wp2
    go_ret
    exact ⟨rfl, rfl⟩
  · have hnl : nl X ≠ 0 := mt nl_eq_zero.1 h0
    have hbl := Lib.hid (show bl X = 32 * (nl X - 1) + Lib.bitLen (dg X (nl X - 1)) from if_neg h0)
    obtain rfl := hb hnl
    obtain ⟨k, hk⟩ : ∃ k, nl X = k + 1 := ⟨nl X - 1, by omega⟩
    have hc := hX.cell (show k < nl X by omega)
    rw [hk] at hl ⊢
    have HK := Lib.hid hk
    have hd := dg_lt X k
    have h32 := Lib.bitLen_le (dg X k) 32 (by omega) hd
    clear hb h0 hnl hk hX
    go_enter Try.func68, Try.ntmps68
    go_wp2_with (go_at_call 89; refine (len32_any (dg X k) _ hd).mono ?_; rintro e w' ⟨rfl, rfl⟩)
    go_ret
    exact iret (by rw [hbl.out, HK.out, Nat.add_sub_cancel]; omega) _

set_option maxRecDepth 100000 in
theorem bits_any (v : Value) (z : Int) (w : World) (h : IsInt w v z) :
    Calls Try.prog 34 #[v] w fun e w' => e = .returned (.int .i64 (bl z.natAbs)) ∧ Below w.heap.size w w' := by
  obtain ⟨s, base, b, off, n, c, X, rfl, hb, hX, hn, hl, rfl⟩ := h
  rw [sg_natAbs]
  have hnX := nl_le hX.lt
  have HB := Lib.hid hb
  clear hb
  go_enter Try.func34, Try.ntmps34
  go_wp2_with (first | (go_at_call 51; refine (cut_any base b off n c X _ HB.out (by exact hX.alloc _) hn (by omega)).mono ?_; rintro e w' ⟨rfl, rfl⟩) | (go_at_call 68; refine (length_any base b off (nl X) X _ (fun h => HB.out (by omega)) ((hX.alloc _).fewer hnX (lt_nl X)) (by omega)).mono ?_; rintro e w' ⟨rfl, rfl⟩))
  go_ret
  exact ⟨rfl, (Below.refl _ _).alloc (Nat.le_refl _) _⟩
end Go.Proofs.Ytmfimkndonlheaa

namespace PB
open Go Go.RowKit
theorem nl_small {X : Nat} (h0 : X ≠ 0) (h : X < B) : nl X = 1 := by
  have h1 : nl X ≤ 1 := nl_le (by rw [Nat.pow_one]; exact h)
  have h2 : nl X ≠ 0 := mt nl_eq_zero.1 h0
  omega
theorem nl_lit : nl 18446744073709551616 = 3 := nl_eq (by decide) (Or.inr (by decide))
theorem sg_eq {s : Bool} {X : Nat} {z : Int} (h : sg s X = z) (hz : z ≠ 0) : X = z.natAbs ∧ s = decide (z < 0) := by
  subst h
  refine ⟨(sg_natAbs s X).symm, ?_⟩
  have h0 := mt sg_zero.2 hz
  unfold sg at hz ⊢
  cases s
  · symm; simp
  · symm; simp; simp at hz; omega
def lit64 : ByteArray := ⟨#[49, 56, 52, 52, 54, 55, 52, 52, 48, 55, 51, 55, 48, 57, 53, 53, 49, 54, 49, 54]⟩
theorem lit64_digits : AllDigits lit64 := by
  have h : ∀ k : Fin 20, 48 ≤ byte lit64 k.val ∧ byte lit64 k.val ≤ 57 := by decide
  intro k hk
  exact h ⟨k, hk⟩
theorem lit64_val : dv lit64 20 = 18446744073709551616 := by decide
theorem lit64_nd : IsND 18446744073709551616 20 := ⟨by decide, Or.inr (by decide)⟩
theorem lit64_text : lit64 = strOfNums ((txt false 18446744073709551616 20).map Int.ofNat) := by decide
end PB
namespace Go.Proofs.Ytmfimkndonlheaa
open Go.RowKit PB

theorem aw_quo (v1 v2 : Value) (w : World) (h1 : IsInt w v1 (-7)) (h2 : IsInt w v2 2) :
    Calls Try.prog 15 #[v1, v2] w (RetIntIntE w (-3) (-1) 0) := by
  obtain ⟨s, base, b, off, n, c, X, rfl, hb, hX, hn, hl, hz⟩ := h1
  obtain ⟨t, base', b', off', n', c', Y, rfl, hb', hY, hn', hl', hz'⟩ := h2
  obtain ⟨rfl, rfl⟩ := sg_eq hz.symm (by decide)
  obtain ⟨rfl, rfl⟩ := sg_eq hz'.symm (by decide)
  have e1 : nl 7 = 1 := nl_small (by decide) (by decide)
  have e2 : nl 2 = 1 := nl_small (by decide) (by decide)
  have hn1 := nl_le hX.lt
  have hn2 := nl_le hY.lt
  have k1 : nl (Int.natAbs (-7)) = 1 := e1
  have k2 : nl (Int.natAbs 2) = 1 := e2
  obtain rfl := hb' (by omega)
  refine quo_ok _ _ base b off n c _ _ b' off' n' c' _ w hb hX hn hl (fun _ => rfl) hY hn' hl' (by omega) (by decide) true (by decide) fun W hW => ?_
  exact divide_one base b off _ _ b' off' _ _ W (fun h => hb (by omega)) ((hX.kept hW).fewer hn1 (lt_nl _)) ((hY.kept hW).fewer hn2 (lt_nl _)) (by omega) k2 (by decide)

theorem aw_shift (v1 : Value) (w : World) (h1 : IsInt w v1 (-5)) :
    Calls Try.prog 17 #[v1, .int .i64 (-1)] w (RetIntE w (-3) 0) := by
  obtain ⟨s, base, b, off, n, c, X, rfl, hb, hX, hn, hl, hz⟩ := h1
  obtain ⟨rfl, rfl⟩ := sg_eq hz.symm (by decide)
  have k1 : nl (Int.natAbs (-5)) = 1 := nl_small (by decide) (by decide)
  exact shift_down _ base b off n c _ 1 w hb hX hn hl (by omega) (by decide) (by decide) (by decide)

theorem aw_gcd (v1 v2 : Value) (w : World) (h1 : IsInt w v1 12) (h2 : IsInt w v2 18) :
    Calls Try.prog 16 #[v1, v2] w (RetIntE w 6 0) := by
  obtain ⟨s, base, b, off, n, c, X, rfl, hb, hX, hn, hl, hz⟩ := h1
  obtain ⟨t, base', b', off', n', c', Y, rfl, hb', hY, hn', hl', hz'⟩ := h2
  obtain ⟨rfl, rfl⟩ := sg_eq hz.symm (by decide)
  obtain ⟨rfl, rfl⟩ := sg_eq hz'.symm (by decide)
  have k1 : nl (Int.natAbs 12) = 1 := nl_small (by decide) (by decide)
  have k2 : nl (Int.natAbs 18) = 1 := nl_small (by decide) (by decide)
  refine gcd_ok _ _ base b off n c _ base' b' off' n' c' _ w hb hX hn hl hb' hY hn' hl' (by omega) fun gx gy W _ _ hx hy _ _ _ _ _ => ?_
  refine (common_any gx gy _ _ W hx hy (by omega) (by omega) (by omega)).mono ?_
  rintro e w' ⟨base, c, b, off, n, h1, h2, h3, h4, h5, h6, h7⟩
  exact ⟨base, c, b, off, n, h1, h2, h3, h4, h5, fun hn => by have := h6 hn; have := hx.block_lt (by omega); omega, h7.mono (by have := hx.block_lt (by omega); omega)⟩

theorem aw_parse (w : World) : Calls Try.prog 38 #[.string lit64] w (RetIntE w 18446744073709551616 0) := by
  have h := parse_digits lit64 lit64 false w (fun W => cut_none lit64 W (by decide) (by decide)) lit64_digits (by decide) (by decide) (Nat.le_refl _)
  have e : dv lit64 lit64.size = 18446744073709551616 := lit64_val
  rw [e, nl_lit] at h
  exact h

theorem aw_text (v1 : Value) (w : World) (h1 : IsInt w v1 18446744073709551616) :
    Calls Try.prog 40 #[v1] w fun e w' => e = .returned (.tuple #[.string lit64, .int .i64 0]) ∧ Below w.heap.size w w' := by
  obtain ⟨s, base, b, off, n, c, X, rfl, hb, hX, hn, hl, hz⟩ := h1
  obtain ⟨rfl, rfl⟩ := sg_eq hz.symm (by decide)
  exact text_any _ base b off n c _ 20 w hb hX hn hl (by have := nl_lit; show ¬ 256 < nl 18446744073709551616; omega) (by decide) lit64_nd (by decide) lit64 lit64_text
theorem bl_255 : bl (Int.natAbs 255) = 8 := by
  have k1 : nl (Int.natAbs 255) = 1 := nl_small (by decide) (by decide)
  unfold bl
  rw [k1]
  decide
theorem bl_64 : bl (Int.natAbs 18446744073709551616) = 65 := by
  have k1 : nl (Int.natAbs 18446744073709551616) = 3 := nl_lit
  unfold bl
  rw [k1]
  decide
end Go.Proofs.Ytmfimkndonlheaa

namespace PB
open Go Go.RowKit
/-- Block g is a variable that holds an Int for z. -/
def Var (w : World) (g : Nat) (z : Int) : Prop := ∃ (s : Bool) (base : Option Addr) (n c : Nat), Blk w g #[.bool s, .slice base n c] ∧ IsInt w (.agg #[.bool s, .slice base n c]) z
theorem Var.kept {w w' : World} {g : Nat} {z : Int} (h : Var w g z) (hb : Below w.heap.size w w') : Var w' g z := by
  obtain ⟨s, base, n, c, h1, h2⟩ := h
  exact ⟨s, base, n, c, h1.kept hb, h2.kept hb⟩
theorem Var.lt {w : World} {g : Nat} {z : Int} (h : Var w g z) : g < w.heap.size := by
  obtain ⟨s, base, n, c, h1, h2⟩ := h
  exact h1.lt
theorem Var.drew {w : World} {g : Nat} {z : Int} (h : Var w g z) : Var w.drew g z := h
theorem Var.undrew {w : World} {g : Nat} {z : Int} (h : Var w.drew g z) : Var w g z := h
theorem setCell_same {w : World} {g j : Nat} {v : Value} (h : w.cell? ⟨g, j, none⟩ = some v) : w.setCell ⟨g, j, none⟩ v = w := by
  have e : (w.setCell ⟨g, j, none⟩ v).heap = w.heap := by
    apply Array.ext_getElem?
    intro k
    unfold World.cell? at h
    simp only [World.setCell, Array.getElem?_modify]
    by_cases hk : g = k
    · subst hk
      rw [if_pos rfl]
      cases hb : w.heap[g]? with
      | none => rfl
      | some o =>
        rw [hb] at h
        cases o with
        | cells c t fr =>
          simp only [Option.map_some, Option.isSome_none, Bool.false_eq_true, if_false] at h ⊢
          have h2 : c.setIfInBounds j v = c := by
            apply Array.ext_getElem?
            intro i
            rw [Array.getElem?_setIfInBounds]
            by_cases hi : j = i
            · subst hi
              have hlt := (Array.getElem?_eq_some_iff.1 h).1
              simp [hlt]
              rw [Array.getElem?_eq_some_iff] at h
              exact h.2.symm
            · simp [hi]
          rw [h2]
        | _ => cases h
    · rw [if_neg hk]
  cases w
  simp only [World.setCell] at e ⊢
  simp only [e]
theorem results_row_tmp {P : Program} {fn : Func} {p u : Tmp} {ty : TypeId} (h : fn.results = #[.cell p ty, .tmp u]) (tmps : Array Value) (w : World) (g : Nat) (t : TypeId) (cs : Array Value) (fr : Nat × Nat) (d : TypeDesc)
    (hp : tmps.getD p undef = .pointer (some ⟨g, 0, none⟩)) (hg : w.heap[g]? = some (.cells cs t fr))
    (hu : P.underlying ty = some d) (hd : (match d with | .struct _ | .array _ _ => true | _ => false) = true) (hi : (P.info? ty).map (·.size) = some cs.size) :
    (results fn tmps).run P w = .ok (.tuple #[.agg cs, tmps.getD u undef]) w := by
  rw [results_cell_tmp h]
  have hp' : tmps[p]?.getD undef = .pointer (some ⟨g, 0, none⟩) := by simpa using hp
  simp [hp', asAddr, run_loadVar_row w g t ty cs fr d hg hu hd hi, Result.andThen]
end PB
namespace Go.Proofs.Ytmfimkndonlheaa
open Go.RowKit PB
/-- The value of a variable, and its cells. -/
theorem var_out {w : World} {g : Nat} {z : Int} (h : Var w g z) : ∃ (s : Bool) (base : Option Addr) (n c : Nat), w.cell? ⟨g, 0, none⟩ = some (.bool s) ∧ w.cell? ⟨g, 1, none⟩ = some (.slice base n c) ∧ w.frozen? ⟨g, 0, none⟩ = false ∧ w.frozen? ⟨g, 1, none⟩ = false ∧ IsInt w (.agg #[.bool s, .slice base n c]) z := by
  obtain ⟨s, base, n, c, h1, h2⟩ := h
  exact ⟨s, base, n, c, (Blk2 h1).1, (Blk2 h1).2, (Blk2f h1).1, (Blk2f h1).2, h2⟩
theorem few_any (s : Bool) (base : Option Addr) (n c : Nat) (w : World) :
    Calls Try.prog 11 #[.agg #[.bool s, .slice base n c]] w fun e w' => e = .returned (.bool (decide (n ≤ 40))) ∧ Below w.heap.size w w' := by
  go_enter Try.func11, Try.ntmps11
  go_wp2
  go_ret
  exact ⟨by simp; omega, (Below.refl _ _).alloc (Nat.le_refl _) _⟩
theorem plain_any (s : Bool) (base : Option Addr) (n c : Nat) (w : World) :
    Calls Try.prog 42 #[.agg #[.bool s, .slice base n c], .int .i64 0, .bool true] w fun e w' => e = .returned (.tuple #[.agg #[.bool s, .slice base n c], .bool true]) ∧ Below w.heap.size w w' := by
  go_enter Try.func42, Try.ntmps42
  go_wp2_with fail
  have hg : ((w.alloc (Obj.cells #[.bool s, .slice base n c] 24)).alloc (Obj.cells #[.bool s, .slice base n c] 24)).heap[w.heap.size + 1]? = some (.cells #[.bool s, .slice base n c] 24 (0, 0)) := heap_alloc2_new _ _ _
  refine bodyPost_ret (results_row_tmp rfl _ _ (w.heap.size + 1) 24 #[.bool s, .slice base n c] (0, 0) _ rfl hg Try.underlying24 rfl (by rfl)) rfl ?_
  exact ⟨rfl, ((Below.refl _ _).alloc (Nat.le_refl _) _).alloc (by simp) _⟩
end Go.Proofs.Ytmfimkndonlheaa

namespace PB
theorem sg_sign {s : Bool} {X : Nat} (h : X ≠ 0) : (sg s X).sign = if s then -1 else 1 := by
  unfold sg
  cases s
  · simp; omega
  · simp; omega
end PB
namespace Go.Proofs.Ytmfimkndonlheaa
open Go.RowKit PB

set_option maxRecDepth 100000 in
theorem sign_any (v : Value) (z : Int) (w : World) (h : IsInt w v z) :
    Calls Try.prog 32 #[v] w fun e w' => e = .returned (.int .i64 z.sign) ∧ Below w.heap.size w w' := by
  obtain ⟨s, base, b, off, n, c, X, rfl, hb, hX, hn, hl, hz⟩ := h
  by_cases h0 : X = 0
  · have hz0 : z.sign = 0 := by subst hz h0; cases s <;> rfl
    rw [hz0]
    have ht : ((nl X : Int) == 0) = true := by rw [h0, nl_zero]; rfl
    clear hz hz0 h0
    go_enter Try.func32, Try.ntmps32
    go_wp2_with (go_at_call 51; refine (cut_any base b off n c X _ hb (by exact hX.alloc _) hn (by omega)).mono ?_; rintro e w' ⟨rfl, rfl⟩)
    go_ret
    exact ⟨rfl, (Below.refl _ _).alloc (Nat.le_refl _) _⟩
  · have hz0 := sg_sign (s := s) h0
    rw [← hz] at hz0
    rw [hz0]
    have ht : ((nl X : Int) == 0) = false := by have := mt nl_eq_zero.1 h0; simp; omega
    clear hz hz0 h0
    cases s
    · go_enter Try.func32, Try.ntmps32
      go_wp2_with (go_at_call 51; refine (cut_any base b off n c X _ hb (by exact hX.alloc _) hn (by omega)).mono ?_; rintro e w' ⟨rfl, rfl⟩)
      go_ret
      exact ⟨rfl, (Below.refl _ _).alloc (Nat.le_refl _) _⟩
    · go_enter Try.func32, Try.ntmps32
      go_wp2_with (go_at_call 51; refine (cut_any base b off n c X _ hb (by exact hX.alloc _) hn (by omega)).mono ?_; rintro e w' ⟨rfl, rfl⟩)
      go_ret
      exact ⟨rfl, (Below.refl _ _).alloc (Nat.le_refl _) _⟩
end Go.Proofs.Ytmfimkndonlheaa

/-
  slices.ContainsFunc at the vectors that are not small.
-/
import Derived.Test.YtejodcpigfbnpaaVSides
namespace VB
/-- All of the first k are small. -/
def AllSm (f : Nat → Int × Int) (k : Nat) : Prop := ∀ i, i < k → Sm (f i).1 (f i).2
end VB
namespace Go.Proofs.Ytejodcpigfbnpaa
open Go.RowKit PB VB
set_option maxRecDepth 100000 in
theorem great_t (x y : Int) (w : World) (h : Sm x y) : Calls Try.prog 50 #[vec x y] w fun e w' => e = .returned (.bool false) ∧ Below w.heap.size w w' := by
  go_enter Try.func50, Try.ntmps50
  go_wp2_with fail
  refine (vsmall_t _ _ _ h).mono ?_
  rintro e w1 ⟨rfl, hw1⟩
  go_wp2_with fail
  go_ret
  exact ⟨rfl, in1 hw1⟩
set_option maxRecDepth 100000 in
theorem great_f (x y : Int) (w : World) (h : ¬ Sm x y) : Calls Try.prog 50 #[vec x y] w fun e w' => e = .returned (.bool true) ∧ Below w.heap.size w w' := by
  go_enter Try.func50, Try.ntmps50
  go_wp2_with fail
  refine (vsmall_f _ _ _ h).mono ?_
  rintro e w1 ⟨rfl, hw1⟩
  go_wp2_with fail
  go_ret
  exact ⟨rfl, in1 hw1⟩
def IdxPost (f : Nat → Int × Int) (n : Nat) (w : World) (e : Ending) (w' : World) : Prop := ∃ z : Int, e = .returned (.int .i64 z) ∧ (0 ≤ z ↔ ¬ AllSm f n) ∧ Below w.heap.size w w'
set_option maxRecDepth 100000 in
set_option maxHeartbeats 4000000 in
theorem index_any (base : Option Addr) (b off n c : Nat) (f : Nat → Int × Int) (w : World) (hb : n ≠ 0 → base = some ⟨b, off, none⟩) (hlt : n ≠ 0 → b < w.heap.size) (hV : VSl w b off n f) (hn : n ≤ 1000000000000000) :
    Calls Try.prog 70 #[.slice base n c, .func (.func 50) #[] #[]] w (IdxPost f n w) := by
  have HV := Lib.hid hV
  have HB := Lib.hid hb
  have HL := Lib.hid hlt
  clear hV hb hlt
  go_enter Try.func70, Try.ntmps70
  go_wp2_with fail
  go_loopw [8] (fun i wr => ∃ k : Nat, k ≤ n ∧ i = .int .i64 k ∧ Hid (AllSm f k) ∧ Hid (Below w.heap.size w wr)) (fun i _ => n - (intOf i).toNat)
  case atStart => exact ⟨0, Nat.zero_le _, rfl, Lib.hid (fun i hi => by omega), Lib.hid (Below.refl _ _)⟩
  case round =>
    obtain ⟨k, hk, rfl, hA, hwr⟩ := hrel
    by_cases hkn : k < n
    · obtain rfl := HB.out (by omega)
      obtain ⟨c0, c1⟩ := (HV.out.kept hwr.out HL.out) k hkn
      have hx : ∃ p, f k = p := ⟨_, rfl⟩
      have hst : AllSm f (k + 1) ↔ Sm (f k).1 (f k).2 := ⟨fun h => h k (by omega), fun h i hi => by
        by_cases e : i = k
        · subst e; exact h
        · exact hA.out i (by omega)⟩
      have HST := Lib.hid hst
      clear hst hx
      generalize (f k).1 = x at *
      generalize (f k).2 = y at *
      by_cases hxy : Sm x y
      · have HN := Lib.hid (HST.out.2 hxy)
        go_wp2_with fail
        refine (great_t x y _ hxy).mono ?_
        rintro e w1 ⟨rfl, hw1⟩
        have HB1 := Lib.hid (next hwr.out hw1)
        clear hw1 c0 c1
        go_wp2_with fail
        go_roundw
        case rel => exact ⟨k + 1, by omega, by go_num, HN, HB1⟩
        case measure => simp [intOf]; omega
      · have HN := Lib.hid (show ¬ AllSm f n from fun h => hxy (HST.out.1 (fun i hi => h i (by omega))))
        go_wp2_with fail
        refine (great_f x y _ hxy).mono ?_
        rintro e w1 ⟨rfl, hw1⟩
        have HB1 := Lib.hid (next hwr.out hw1)
        clear hw1 c0 c1
        go_wp2_with fail
        go_ret
        exact ⟨_, rfl, ⟨fun _ => HN.out, fun _ => by omega⟩, HB1.out⟩
    · obtain rfl : k = n := by omega
      go_wp2_with fail
      go_ret
      exact ⟨_, rfl, ⟨fun h => absurd h (by omega), fun h => absurd hA.out h⟩, hwr.out⟩
set_option maxRecDepth 100000 in
theorem contains_t (base : Option Addr) (b off n c : Nat) (f : Nat → Int × Int) (w : World) (hb : n ≠ 0 → base = some ⟨b, off, none⟩) (hlt : n ≠ 0 → b < w.heap.size) (hV : VSl w b off n f) (hn : n ≤ 1000000000000000) (h : AllSm f n) :
    Calls Try.prog 51 #[.slice base n c, .func (.func 50) #[] #[]] w fun e w' => e = .returned (.bool false) ∧ Below w.heap.size w w' := by
  have H := Lib.hid (fun w hl hv => index_any base b off n c f w hb hl hv hn)
  have HH := Lib.hid h
  clear h
  go_enter Try.func51, Try.ntmps51
  go_wp2_with fail
  refine (H.out _ hlt hV).mono ?_
  rintro e w1 ⟨z, rfl, hz, hw1⟩
  have hz2 : decide (0 ≤ z) = false := decide_eq_false (fun k => hz.1 k HH.out)
  clear hz
  go_wp2_with fail
  go_ret
  exact bret rfl hw1
set_option maxRecDepth 100000 in
theorem contains_f (base : Option Addr) (b off n c : Nat) (f : Nat → Int × Int) (w : World) (hb : n ≠ 0 → base = some ⟨b, off, none⟩) (hlt : n ≠ 0 → b < w.heap.size) (hV : VSl w b off n f) (hn : n ≤ 1000000000000000) (h : ¬ AllSm f n) :
    Calls Try.prog 51 #[.slice base n c, .func (.func 50) #[] #[]] w fun e w' => e = .returned (.bool true) ∧ Below w.heap.size w w' := by
  have H := Lib.hid (fun w hl hv => index_any base b off n c f w hb hl hv hn)
  have HH := Lib.hid h
  clear h
  go_enter Try.func51, Try.ntmps51
  go_wp2_with fail
  refine (H.out _ hlt hV).mono ?_
  rintro e w1 ⟨z, rfl, hz, hw1⟩
  have hz2 : decide (0 ≤ z) = true := decide_eq_true (hz.2 HH.out)
  clear hz
  go_wp2_with fail
  go_ret
  exact bret rfl hw1
end Go.Proofs.Ytejodcpigfbnpaa

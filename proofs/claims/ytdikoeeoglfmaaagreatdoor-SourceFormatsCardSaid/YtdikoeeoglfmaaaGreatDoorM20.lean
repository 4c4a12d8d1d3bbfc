/-
  Comparing statements: sameKey, sameItem and their loops.
-/
import Derived.Deep.QuietTactic
import Derived.Test.YtdikoeeoglfmaaaGreatDoorM14
namespace SS
open Go Go.RowKit PB SC
def sameKB (x y : K) : Bool := decide (x.key = y.key) && (x.vals == y.vals)
def allB {α : Type} (f : α → α → Bool) : List α → List α → Bool
  | [], [] => true
  | x :: s, y :: t => f x y && allB f s t
  | _, _ => false
def sameIB (x y : I) : Bool := decide (x.word = y.word) && (decide (x.name = y.name) && allB sameKB x.keys y.keys)
theorem allB_cons {α : Type} {f : α → α → Bool} {s t : List α} {i : Nat} {x y : α} {r : Bool} (h : allB f (s.drop i) (t.drop i) = r) (hx : s[i]? = some x) (hy : t[i]? = some y) : (f x y = true → allB f (s.drop (i + 1)) (t.drop (i + 1)) = r) ∧ (f x y = false → r = false) := by
  obtain ⟨hi, e⟩ := List.getElem?_eq_some_iff.1 hx
  obtain ⟨hj, e'⟩ := List.getElem?_eq_some_iff.1 hy
  rw [List.drop_eq_getElem_cons hi, e, List.drop_eq_getElem_cons hj, e'] at h
  unfold allB at h
  exact ⟨fun hh => by rw [hh, Bool.true_and] at h; exact h, fun hh => by rw [hh, Bool.false_and] at h; exact h.symm⟩
theorem allB_end {α : Type} {f : α → α → Bool} {s t : List α} {i : Nat} {r : Bool} (h : allB f (s.drop i) (t.drop i) = r) (hs : s.length ≤ i) (ht : t.length ≤ i) : r = true := by
  rw [List.drop_eq_nil_of_le hs, List.drop_eq_nil_of_le ht] at h
  exact h.symm
theorem allB_len {α : Type} {f : α → α → Bool} : ∀ {s t : List α}, s.length ≠ t.length → allB f s t = false
  | [], [], h => absurd rfl h
  | x :: s, [], _ => rfl
  | [], y :: t, _ => rfl
  | x :: s, y :: t, h => by
    unfold allB
    rw [allB_len (s := s) (t := t) (fun e => h (by simp [e]))]
    simp
theorem rdv_form {w : World} {z : Value} {l : List Int} (h : RdV w z l) : ∃ (b : Option Addr) (n c : Nat), z = .slice b n c := by
  obtain ⟨b, _, _, c, e, _⟩ := h
  exact ⟨b, _, c, e⟩
theorem rdk_form {w : World} {z : Value} {l : List K} (h : RdK w z l) : ∃ (b : Option Addr) (n c : Nat), z = .slice b n c := by
  obtain ⟨b, _, _, c, e, _⟩ := h
  exact ⟨b, _, c, e⟩
end SS
namespace Go.Proofs.YtdikoeeoglfmaaaGreatDoor
open Go.RowKit SC PB SS
set_option maxHeartbeats 4000000 in
set_option maxRecDepth 100000 in
theorem equal_len (b2 b1 : Option Addr) (n c1 c2 : Nat) (h : n ≠ 0) (w : World) : Calls Tryz.prog 45 #[.slice b1 n c1, .slice b2 0 c2] w fun e w' => e = .returned (.bool false) ∧ w' = w := by
  have h0 : ((n : Int) == 0) = false := beq_eq_false_iff_ne.2 (by omega)
  have h1 : ((n : Int) != 0) = true := by simp [bne, h0]
  clear h
  go_enter Tryz.func45, Tryz.ntmps45
  go_wp2_with fail
  go_ret
  exact ⟨rfl, rfl⟩
theorem equal_any (xs ys : List Int) (u v : Value) (w : World) (hu : RdV w u xs) (hv : RdV w v ys) (hx : xs.length ≤ 1000000) (hy : ys.length ≤ 1000000) :
    Calls Tryz.prog 45 #[u, v] w fun e w' => e = .returned (.bool (xs == ys)) ∧ Below w.heap.size w w' := by
  obtain ⟨b1, g1, o1, c1, rfl, h1, _, h4⟩ := hu.form
  obtain ⟨b2, g2, o2, c2, rfl, k1, _, k4⟩ := hv.form
  by_cases h0 : xs.length = 0
  · obtain rfl := List.eq_nil_of_length_eq_zero h0
    refine (Tryz.slices_Equal_int_empty b1 b2 c1 ys.length c2 w (by omega)).mono ?_
    rintro e w' ⟨rfl, rfl⟩
    refine ⟨?_, Below.refl _ _⟩
    cases ys with
    | nil => rfl
    | cons y t => rfl
  · obtain rfl := h1 h0
    by_cases k0 : ys.length = 0
    · obtain rfl := List.eq_nil_of_length_eq_zero k0
      refine (equal_len b2 _ _ c1 c2 h0 w).mono ?_
      rintro e w' ⟨rfl, rfl⟩
      refine ⟨?_, Below.refl _ _⟩
      cases xs with
      | nil => exact absurd rfl h0
      | cons x t => rfl
    · obtain rfl := k1 k0
      refine (Tryz.slices_Equal_int g1 o1 xs.length c1 g2 o2 ys.length c2 xs ys w (Nat.le_refl _) (Nat.le_refl _) (by omega) (by omega) (fun j hj => ?_) (fun j hj => ?_)).mono ?_
      · rw [h4 j _ (List.getElem?_eq_getElem hj), List.getD_eq_getElem?_getD, List.getElem?_eq_getElem hj]; rfl
      · rw [k4 j _ (List.getElem?_eq_getElem hj), List.getD_eq_getElem?_getD, List.getElem?_eq_getElem hj]; rfl
      · rintro e w' ⟨rfl, q, rfl⟩
        exact ⟨by rw [List.take_length, List.take_length], PB.below_drewN (Below.refl _ _) q⟩
set_option maxHeartbeats 4000000 in
set_option maxRecDepth 100000 in
theorem samekey_any (x y : K) (u v : Value) (w : World) (hu : RdV w u x.vals) (hv : RdV w v y.vals) (hx : x.vals.length ≤ 1000000) (hy : y.vals.length ≤ 1000000) :
    Calls Tryz.prog 29 #[kagg x u, kagg y v] w fun e w' => e = .returned (.bool (sameKB x y)) ∧ Below w.heap.size w w' := by
  have H := Lib.hid (fun W (h : Below w.heap.size w W) => equal_any x.vals y.vals u v W (hu.kept h) (hv.kept h) hx hy)
  have hd := beq_str_dec x.key y.key
  clear hu hv hx hy
  unfold kagg
  by_cases hk : x.key = y.key
  · have HR := Lib.hid (show sameKB x y = (x.vals == y.vals) by unfold sameKB; rw [decide_eq_true hk]; rfl)
    rw [decide_eq_true hk] at hd
    rw [HR.out]
    clear hk HR
    generalize (x.vals == y.vals) = r at *
    go_enter Tryz.func29, Tryz.ntmps29
    go_wp2_with fail
    refine (H.out _ (sb_alloc (sb_alloc (Below.refl _ _) _) _)).mono ?_
    rintro e w1 ⟨rfl, q1⟩
    go_wp2_with fail
    go_ret
    exact ⟨rfl, next (sb_alloc (sb_alloc (Below.refl _ _) _) _) q1⟩
  · have HR := Lib.hid (show sameKB x y = false by unfold sameKB; rw [decide_eq_false hk]; rfl)
    rw [decide_eq_false hk] at hd
    rw [HR.out]
    clear hk HR
    go_enter Tryz.func29, Tryz.ntmps29
    go_wp2_with fail
    go_ret
    exact ⟨rfl, sb_alloc (sb_alloc (Below.refl _ _) _) _⟩
set_option maxHeartbeats 4000000 in
set_option maxRecDepth 100000 in
theorem eqfunc_keys (xs ys : List K) (u v : Value) (w : World) (hu : RdK w u xs) (hv : RdK w v ys) (hnx : xs.length ≤ 1000000) (hny : ys.length ≤ 1000000) (hx : ∀ x ∈ xs, x.vals.length ≤ 1000000) (hy : ∀ y ∈ ys, y.vals.length ≤ 1000000) :
    Calls Tryz.prog 28 #[u, v, .func (.func 29) #[] #[]] w fun e w' => e = .returned (.bool (allB sameKB xs ys)) ∧ Below w.heap.size w w' := by
  obtain ⟨b1, g1, o1, c1, rfl, h1, h2, h4⟩ := hu
  obtain ⟨b2, g2, o2, c2, rfl, k1, k2, k4⟩ := hv
  by_cases hlen : xs.length = ys.length
  · have HK := Lib.hid (fun W (h : Below w.heap.size w W) (i : Nat) (x y : K) (hi : xs[i]? = some x) (hj : ys[i]? = some y) => (show ∃ z z', KAt W g1 (o1 + i * 3) x z ∧ KAt W g2 (o2 + i * 3) y z' ∧ ∀ W', Below w.heap.size w W' → Calls Tryz.prog 29 #[kagg x z, kagg y z'] W' fun e w' => e = .returned (.bool (sameKB x y)) ∧ Below W'.heap.size W' w' by
      have hi1 := (List.getElem?_eq_some_iff.1 hi).1
      obtain ⟨z, hz⟩ := h4 i x hi
      obtain ⟨z', hz'⟩ := k4 i y hj
      exact ⟨z, z', hz.kept h (h2 (by omega)), hz'.kept h (k2 (by omega)), fun W' h' => samekey_any x y z z' W' (hz.2.2.2.kept h') (hz'.2.2.2.kept h') (hx x (List.mem_of_getElem? hi)) (hy y (List.mem_of_getElem? hj))⟩))
    have HB1 := Lib.hid h1
    have HB2 := Lib.hid k1
    have HL1 := Lib.hid h2
    have HL2 := Lib.hid k2
    have HX := Lib.hid (fun (k : Nat) (hk : k < xs.length) => (⟨xs[k], List.getElem?_eq_getElem hk⟩ : ∃ x, xs[k]? = some x))
    have HY := Lib.hid (fun (k : Nat) (hk : k < xs.length) => (⟨ys[k], List.getElem?_eq_getElem (by omega)⟩ : ∃ x, ys[k]? = some x))
    generalize hR : allB sameKB xs ys = R
    have HR0 := Lib.hid (show allB sameKB (xs.drop 0) (ys.drop 0) = R by rw [List.drop_zero, List.drop_zero]; exact hR)
    have HC := Lib.hid (fun (i : Nat) (x y : K) (h : allB sameKB (xs.drop i) (ys.drop i) = R) (hx : xs[i]? = some x) (hy : ys[i]? = some y) => allB_cons h hx hy)
    have HE := Lib.hid (fun (i : Nat) (h : allB sameKB (xs.drop i) (ys.drop i) = R) (hs : xs.length ≤ i) => allB_end h hs (by omega))
    rw [← hlen] at HB2 HL2 ⊢
    clear h1 h2 h4 k1 k2 k4 hx hy hR
    generalize hn : xs.length = n at *
    clear hn hlen
    have hself : ((n : Int) == n) = true := beq_self_eq_true _
    have hself2 : ((n : Int) != n) = false := by simp [bne]
    go_enter Tryz.func28, Tryz.ntmps28
    go_wp2_with fail
    go_loopw [17] (fun i wr => ∃ k : Nat, k ≤ n ∧ i = .int .i64 k ∧ Hid (allB sameKB (xs.drop k) (ys.drop k) = R) ∧ Hid (Below w.heap.size w wr)) (fun i _ => n - (intOf i).toNat)
    case atStart => exact ⟨0, Nat.zero_le _, rfl, HR0, Lib.hid (Below.refl _ _)⟩
    case round =>
      clear HR0
      obtain ⟨k, hk, rfl, hA, hwr⟩ := hrel
      by_cases hkn : k < n
      · obtain rfl := HB1.out (by omega)
        obtain rfl := HB2.out (by omega)
        obtain ⟨x, hx⟩ := HX.out k hkn
        obtain ⟨y, hy⟩ := HY.out k hkn
        obtain ⟨z, z', hz, hz', hcl⟩ := HK.out _ hwr.out k x y hx hy
        obtain ⟨s1, s2⟩ := HC.out k x y hA.out hx hy
        obtain ⟨x0, x1, x2, xr⟩ := hz
        obtain ⟨y0, y1, y2, yr⟩ := hz'
        obtain ⟨zb, zn, zc, rfl⟩ := rdv_form xr
        obtain ⟨zb', zn', zc', rfl⟩ := rdv_form yr
        have hlt1 : g1 < wr.heap.size := Nat.lt_of_lt_of_le (HL1.out (by omega)) hwr.out.size
        have hlt2 : g2 < wr.heap.size := Nat.lt_of_lt_of_le (HL2.out (by omega)) hwr.out.size
        have HCL := Lib.hid (fun a b => hcl ((wr.alloc a).alloc b) (sb_alloc (sb_alloc hwr.out a) b))
        have HQ := Lib.hid (fun a b => sb_alloc (sb_alloc hwr.out a) b)
        clear hx hy hcl xr yr
        unfold kagg at HCL
        cases hr : sameKB x y with
        | true =>
          rw [hr] at HCL
          have HV := Lib.hid (s1 hr)
          clear s1 s2 hr
          go_wp2_with fail
          refine (HCL.out _ _).mono ?_
          rintro e w1 ⟨rfl, hw1⟩
          have HB1' := Lib.hid (next (HQ.out _ _) hw1)
          clear hw1
          go_wp2_with fail
          go_roundw
          case rel => exact ⟨k + 1, by omega, by go_num, HV, HB1'⟩
          case measure => simp [intOf]; omega
        | false =>
          rw [hr] at HCL
          have hV := s2 hr
          subst hV
          clear s1 s2 hr
          go_wp2_with fail
          refine (HCL.out _ _).mono ?_
          rintro e w1 ⟨rfl, hw1⟩
          have HB1' := Lib.hid (next (HQ.out _ _) hw1)
          clear hw1
          go_wp2_with fail
          go_ret
          exact ⟨rfl, HB1'.out⟩
      · have hV := HE.out k hA.out (by omega)
        subst hV
        go_wp2_with fail
        go_ret
        exact ⟨rfl, hwr.out⟩
  · have h0 : ((xs.length : Int) == ys.length) = false := beq_eq_false_iff_ne.2 (by omega)
    have h1' : ((xs.length : Int) != ys.length) = true := by simp [bne, h0]
    have HR := Lib.hid (allB_len (f := sameKB) hlen)
    rw [HR.out]
    clear hlen HR h1 h2 h4 k1 k2 k4 hx hy
    go_enter Tryz.func28, Tryz.ntmps28
    go_wp2_with fail
    go_ret
    exact ⟨rfl, Below.refl _ _⟩
set_option maxHeartbeats 4000000 in
set_option maxRecDepth 100000 in
theorem sameitem_any (x y : I) (u v : Value) (w : World) (hu : RdK w u x.keys) (hv : RdK w v y.keys) (hx : x.keys.length ≤ 1000000 ∧ ∀ k ∈ x.keys, k.vals.length ≤ 1000000) (hy : y.keys.length ≤ 1000000 ∧ ∀ k ∈ y.keys, k.vals.length ≤ 1000000) :
    Calls Tryz.prog 14 #[iagg x u, iagg y v] w fun e w' => e = .returned (.bool (sameIB x y)) ∧ Below w.heap.size w w' := by
  have H := Lib.hid (fun W (h : Below w.heap.size w W) => eqfunc_keys x.keys y.keys u v W (hu.kept h) (hv.kept h) hx.1 hy.1 hx.2 hy.2)
  have hd1 := beq_str_dec x.word y.word
  have hd2 := beq_str_dec x.name y.name
  clear hu hv hx hy
  unfold iagg
  by_cases hk : x.word = y.word
  · by_cases hn : x.name = y.name
    · have HR := Lib.hid (show sameIB x y = allB sameKB x.keys y.keys by unfold sameIB; rw [decide_eq_true hk, decide_eq_true hn]; rfl)
      rw [decide_eq_true hk] at hd1
      rw [decide_eq_true hn] at hd2
      rw [HR.out]
      clear hk hn HR
      generalize allB sameKB x.keys y.keys = r at *
      go_enter Tryz.func14, Tryz.ntmps14
      go_wp2_with fail
      refine (H.out _ (sb_alloc (sb_alloc (Below.refl _ _) _) _)).mono ?_
      rintro e w1 ⟨rfl, q1⟩
      go_wp2_with fail
      go_ret
      exact ⟨rfl, next (sb_alloc (sb_alloc (Below.refl _ _) _) _) q1⟩
    · have HR := Lib.hid (show sameIB x y = false by unfold sameIB; rw [decide_eq_false hn]; simp)
      rw [decide_eq_true hk] at hd1
      rw [decide_eq_false hn] at hd2
      rw [HR.out]
      clear hk hn HR
      go_enter Tryz.func14, Tryz.ntmps14
      go_wp2_with fail
      go_ret
      exact ⟨rfl, sb_alloc (sb_alloc (Below.refl _ _) _) _⟩
  · have HR := Lib.hid (show sameIB x y = false by unfold sameIB; rw [decide_eq_false hk]; rfl)
    rw [decide_eq_false hk] at hd1
    rw [HR.out]
    clear hk HR
    go_enter Tryz.func14, Tryz.ntmps14
    go_wp2_with fail
    go_ret
    exact ⟨rfl, sb_alloc (sb_alloc (Below.refl _ _) _) _⟩
set_option maxHeartbeats 4000000 in
set_option maxRecDepth 100000 in
theorem eqfunc_items (xs ys : List I) (u v : Value) (w : World) (hu : RdI w u xs) (hv : RdI w v ys) (hnx : xs.length ≤ 1000000) (hny : ys.length ≤ 1000000) (hx : ∀ x ∈ xs, (x.keys.length ≤ 1000000 ∧ ∀ k ∈ x.keys, k.vals.length ≤ 1000000)) (hy : ∀ y ∈ ys, (y.keys.length ≤ 1000000 ∧ ∀ k ∈ y.keys, k.vals.length ≤ 1000000)) :
    Calls Tryz.prog 13 #[u, v, .func (.func 14) #[] #[]] w fun e w' => e = .returned (.bool (allB sameIB xs ys)) ∧ Below w.heap.size w w' := by
  obtain ⟨b1, g1, o1, c1, rfl, h1, h2, h4⟩ := hu
  obtain ⟨b2, g2, o2, c2, rfl, k1, k2, k4⟩ := hv
  by_cases hlen : xs.length = ys.length
  · have HK := Lib.hid (fun W (h : Below w.heap.size w W) (i : Nat) (x y : I) (hi : xs[i]? = some x) (hj : ys[i]? = some y) => (show ∃ z z', IAt W g1 (o1 + i * 4) x z ∧ IAt W g2 (o2 + i * 4) y z' ∧ ∀ W', Below w.heap.size w W' → Calls Tryz.prog 14 #[iagg x z, iagg y z'] W' fun e w' => e = .returned (.bool (sameIB x y)) ∧ Below W'.heap.size W' w' by
      have hi1 := (List.getElem?_eq_some_iff.1 hi).1
      obtain ⟨z, hz⟩ := h4 i x hi
      obtain ⟨z', hz'⟩ := k4 i y hj
      exact ⟨z, z', hz.kept h (h2 (by omega)), hz'.kept h (k2 (by omega)), fun W' h' => sameitem_any x y z z' W' (hz.2.2.2.2.kept h') (hz'.2.2.2.2.kept h') (hx x (List.mem_of_getElem? hi)) (hy y (List.mem_of_getElem? hj))⟩))
    have HB1 := Lib.hid h1
    have HB2 := Lib.hid k1
    have HL1 := Lib.hid h2
    have HL2 := Lib.hid k2
    have HX := Lib.hid (fun (k : Nat) (hk : k < xs.length) => (⟨xs[k], List.getElem?_eq_getElem hk⟩ : ∃ x, xs[k]? = some x))
    have HY := Lib.hid (fun (k : Nat) (hk : k < xs.length) => (⟨ys[k], List.getElem?_eq_getElem (by omega)⟩ : ∃ x, ys[k]? = some x))
    generalize hR : allB sameIB xs ys = R
    have HR0 := Lib.hid (show allB sameIB (xs.drop 0) (ys.drop 0) = R by rw [List.drop_zero, List.drop_zero]; exact hR)
    have HC := Lib.hid (fun (i : Nat) (x y : I) (h : allB sameIB (xs.drop i) (ys.drop i) = R) (hx : xs[i]? = some x) (hy : ys[i]? = some y) => allB_cons h hx hy)
    have HE := Lib.hid (fun (i : Nat) (h : allB sameIB (xs.drop i) (ys.drop i) = R) (hs : xs.length ≤ i) => allB_end h hs (by omega))
    rw [← hlen] at HB2 HL2 ⊢
    clear h1 h2 h4 k1 k2 k4 hx hy hR
    generalize hn : xs.length = n at *
    clear hn hlen
    have hself : ((n : Int) == n) = true := beq_self_eq_true _
    have hself2 : ((n : Int) != n) = false := by simp [bne]
    go_enter Tryz.func13, Tryz.ntmps13
    go_wp2_with fail
    go_loopw [17] (fun i wr => ∃ k : Nat, k ≤ n ∧ i = .int .i64 k ∧ Hid (allB sameIB (xs.drop k) (ys.drop k) = R) ∧ Hid (Below w.heap.size w wr)) (fun i _ => n - (intOf i).toNat)
    case atStart => exact ⟨0, Nat.zero_le _, rfl, HR0, Lib.hid (Below.refl _ _)⟩
    case round =>
      clear HR0
      obtain ⟨k, hk, rfl, hA, hwr⟩ := hrel
      by_cases hkn : k < n
      · obtain rfl := HB1.out (by omega)
        obtain rfl := HB2.out (by omega)
        obtain ⟨x, hx⟩ := HX.out k hkn
        obtain ⟨y, hy⟩ := HY.out k hkn
        obtain ⟨z, z', hz, hz', hcl⟩ := HK.out _ hwr.out k x y hx hy
        obtain ⟨s1, s2⟩ := HC.out k x y hA.out hx hy
        obtain ⟨x0, x1, x2, x3, xr⟩ := hz
        obtain ⟨y0, y1, y2, y3, yr⟩ := hz'
        obtain ⟨zb, zn, zc, rfl⟩ := rdk_form xr
        obtain ⟨zb', zn', zc', rfl⟩ := rdk_form yr
        have hlt1 : g1 < wr.heap.size := Nat.lt_of_lt_of_le (HL1.out (by omega)) hwr.out.size
        have hlt2 : g2 < wr.heap.size := Nat.lt_of_lt_of_le (HL2.out (by omega)) hwr.out.size
        have HCL := Lib.hid (fun a b => hcl ((wr.alloc a).alloc b) (sb_alloc (sb_alloc hwr.out a) b))
        have HQ := Lib.hid (fun a b => sb_alloc (sb_alloc hwr.out a) b)
        clear hx hy hcl xr yr
        unfold iagg at HCL
        cases hr : sameIB x y with
        | true =>
          rw [hr] at HCL
          have HV := Lib.hid (s1 hr)
          clear s1 s2 hr
          go_wp2_with fail
          refine (HCL.out _ _).mono ?_
          rintro e w1 ⟨rfl, hw1⟩
          have HB1' := Lib.hid (next (HQ.out _ _) hw1)
          clear hw1
          go_wp2_with fail
          go_roundw
          case rel => exact ⟨k + 1, by omega, by go_num, HV, HB1'⟩
          case measure => simp [intOf]; omega
        | false =>
          rw [hr] at HCL
          have hV := s2 hr
          subst hV
          clear s1 s2 hr
          go_wp2_with fail
          refine (HCL.out _ _).mono ?_
          rintro e w1 ⟨rfl, hw1⟩
          have HB1' := Lib.hid (next (HQ.out _ _) hw1)
          clear hw1
          go_wp2_with fail
          go_ret
          exact ⟨rfl, HB1'.out⟩
      · have hV := HE.out k hA.out (by omega)
        subst hV
        go_wp2_with fail
        go_ret
        exact ⟨rfl, hwr.out⟩
  · have h0 : ((xs.length : Int) == ys.length) = false := beq_eq_false_iff_ne.2 (by omega)
    have h1' : ((xs.length : Int) != ys.length) = true := by simp [bne, h0]
    have HR := Lib.hid (allB_len (f := sameIB) hlen)
    rw [HR.out]
    clear hlen HR h1 h2 h4 k1 k2 k4 hx hy
    go_enter Tryz.func13, Tryz.ntmps13
    go_wp2_with fail
    go_ret
    exact ⟨rfl, Below.refl _ _⟩
end Go.Proofs.YtdikoeeoglfmaaaGreatDoor

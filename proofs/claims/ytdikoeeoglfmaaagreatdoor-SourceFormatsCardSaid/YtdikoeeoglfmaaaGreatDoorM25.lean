/-
  The reference's Same, at lists that are the same.
-/
import Derived.BigQuiet
import Derived.Test.YtdikoeeoglfmaaaGreatDoorM24
namespace SS
open Go Go.RowKit SC PB
theorem allB_eqlen {α : Type} {f : α → α → Bool} {s t : List α} (h : allB f s t = true) : s.length = t.length := by
  by_cases hl : s.length = t.length
  · exact hl
  · rw [allB_len hl] at h; cases h
theorem allB_get {α : Type} {f : α → α → Bool} : ∀ {s t : List α}, allB f s t = true → ∀ (i : Nat) (x : α), s[i]? = some x → ∃ y, t[i]? = some y ∧ f x y = true
  | [], _, _, i, x, hx => by simp at hx
  | a :: s, [], h, _, _, _ => by cases h
  | a :: s, b :: t, h, 0, x, hx => by
    unfold allB at h
    simp only [Bool.and_eq_true] at h
    obtain rfl : a = x := by simpa using hx
    exact ⟨b, rfl, h.1⟩
  | a :: s, b :: t, h, i + 1, x, hx => by
    unfold allB at h
    simp only [Bool.and_eq_true] at h
    exact allB_get h.2 i x (by simpa using hx)
theorem allB_symm {α : Type} {f : α → α → Bool} (hf : ∀ x y, f x y = true → f y x = true) : ∀ {s t : List α}, allB f s t = true → allB f t s = true
  | [], [], _ => rfl
  | a :: s, [], h => by cases h
  | [], b :: t, h => by cases h
  | a :: s, b :: t, h => by
    unfold allB at h ⊢
    simp only [Bool.and_eq_true] at h ⊢
    exact ⟨hf _ _ h.1, allB_symm hf h.2⟩
/-- A statement that stands in memory, all of it. -/
def IRow (w : World) (b o : Nat) (x : I) : Prop := b < w.heap.size ∧ ∃ zb kb ko zc, (x.keys.length ≠ 0 → zb = some ⟨kb, ko, none⟩) ∧ (x.keys.length ≠ 0 → kb < w.heap.size) ∧ (∀ W, Below w.heap.size w W → W.cell? ⟨b, o, none⟩ = some (.string x.word) ∧ W.cell? ⟨b, o + 1, none⟩ = some (.string x.name) ∧ W.cell? ⟨b, o + 2, none⟩ = some (.slice zb x.keys.length zc) ∧ W.cell? ⟨b, o + 3, none⟩ = some (.int .i64 x.pos)) ∧
      ∀ k y, x.keys[k]? = some y → ∃ ub ug uo uc, (y.vals.length ≠ 0 → ub = some ⟨ug, uo, none⟩) ∧ (y.vals.length ≠ 0 → ug < w.heap.size) ∧ ∀ W, Below w.heap.size w W → W.cell? ⟨kb, ko + k * 3, none⟩ = some (.string y.key) ∧ W.cell? ⟨kb, ko + k * 3 + 1, none⟩ = some (.slice ub y.vals.length uc) ∧ ∀ j n, y.vals[j]? = some n → W.cell? ⟨ug, uo + j, none⟩ = some (.int .i64 n)
theorem irow_of {w : World} {b off : Nat} {l : List I} (h2 : l.length ≠ 0 → b < w.heap.size) (h4 : ∀ j x, l[j]? = some x → ∃ z, IAt w b (off + j * 4) x z) (i : Nat) (x : I) (hi : l[i]? = some x) : IRow w b (off + i * 4) x := by
  obtain ⟨z, hz⟩ := h4 i x hi
  have hlt := h2 (by have := (List.getElem?_eq_some_iff.1 hi).1; omega)
  obtain ⟨zb, kb, ko, zc, rfl, a1, a2, a4⟩ := hz.2.2.2.2
  refine ⟨hlt, zb, kb, ko, zc, a1, a2, fun W h => ?_, fun k y hy => ?_⟩
  · obtain ⟨e1, e2, e3, e4, _⟩ := hz.kept h hlt
    exact ⟨e1, e2, e3, e4⟩
  · obtain ⟨u, hu⟩ := a4 k y hy
    have hklt := a2 (by have := (List.getElem?_eq_some_iff.1 hy).1; omega)
    obtain ⟨ub, ug, uo, uc, rfl, u1, u2, u4⟩ := hu.2.2.2.form
    refine ⟨ub, ug, uo, uc, u1, u2, fun W h => ?_⟩
    obtain ⟨e1, e2, _, _⟩ := hu.kept h hklt
    exact ⟨e1, e2, fun j n hn => by rw [h.cell (p := ⟨ug, uo + j, none⟩) (u2 (by have := (List.getElem?_eq_some_iff.1 hn).1; omega))]; exact u4 j n hn⟩
end SS
namespace Go.Proofs.YtdikoeeoglfmaaaGreatDoor
open Go.RowKit SC PB SS
set_option maxHeartbeats 8000000 in
set_option maxRecDepth 100000 in
theorem rsame_any (l m : List I) (u v : Value) (w : World) (hu : RdI w u l) (hv : RdI w v m) (h : allB sameIB l m = true) (hn : l.length ≤ 1000000) (hok : ∀ x ∈ l, x.keys.length ≤ 1000000 ∧ ∀ k ∈ x.keys, k.vals.length ≤ 1000000) :
    Calls Tryz.prog 17 #[u, v] w fun e w' => e = .returned (.bool true) ∧ Below w.heap.size w w' := by
  obtain ⟨base1, b1, off1, cp1, rfl, h1, h2, h4⟩ := hu
  obtain ⟨base2, b2, off2, cp2, rfl, k1, k2, k4⟩ := hv
  have HI1 := Lib.hid (irow_of h2 h4)
  have HI2 := Lib.hid (irow_of k2 k4)
  have hlen := allB_eqlen h
  have HG := Lib.hid (allB_get h)
  have HB1 := Lib.hid h1
  rw [← hlen] at k1 ⊢
  have HB2 := Lib.hid k1
  have HX := Lib.hid (fun (k : Nat) (hk : k < l.length) => (⟨l[k], List.getElem?_eq_getElem hk, hok _ (List.getElem_mem hk)⟩ : ∃ x, l[k]? = some x ∧ x.keys.length ≤ 1000000 ∧ ∀ k ∈ x.keys, k.vals.length ≤ 1000000))
  clear h1 h2 h4 k1 k2 k4 hok h hlen
  generalize hnl : l.length = n at *
  have hself : ((n : Int) != n) = false := by simp [bne]
  clear hnl
  go_enter Tryz.func17, Tryz.ntmps17
  go_wp2_with fail
  go_loopw [5] (fun i wr => ∃ (k : Nat), k ≤ n ∧ i = .int .i64 k ∧ Hid (Below w.heap.size w wr)) (fun i _ => n - (intOf i).toNat)
  case atStart => exact ⟨0, Nat.zero_le _, rfl, Lib.hid (Below.refl _ _)⟩
  case round =>
    obtain ⟨i, hin, rfl, hwr⟩ := hrel
    by_cases hkn : i < n
    · obtain rfl := HB1.out (by omega)
      obtain rfl := HB2.out (by omega)
      obtain ⟨x, hx, hxk, hxv⟩ := HX.out i hkn
      obtain ⟨x', hx', hs⟩ := HG.out i x hx
      obtain ⟨hlt1, zb1, kb1, ko1, zc1, a1, a2, a3, a4⟩ := HI1.out i x hx
      obtain ⟨hlt2, zb2, kb2, ko2, zc2, e1, e2, e3, e4⟩ := HI2.out i x' hx'
      unfold sameIB at hs
      simp only [Bool.and_eq_true, decide_eq_true_eq] at hs
      obtain ⟨hsw, hsn, hsk⟩ := hs
      rw [← hsw, ← hsn, ← allB_eqlen hsk] at e3
      rw [← allB_eqlen hsk] at e1 e2
      obtain ⟨c0, c1, c2, c3⟩ := a3 _ hwr.out
      obtain ⟨d0, d1, d2, d3⟩ := e3 _ hwr.out
      have hl1 : b1 < wr.heap.size := Nat.lt_of_lt_of_le hlt1 hwr.out.size
      have hl2 : b2 < wr.heap.size := Nat.lt_of_lt_of_le hlt2 hwr.out.size
      have HA1 := Lib.hid a1
      have HA2 := Lib.hid a2
      have HA4 := Lib.hid a4
      have HE1 := Lib.hid e1
      have HE2 := Lib.hid e2
      have HE4 := Lib.hid e4
      have HSK := Lib.hid (allB_get hsk)
      have HXX := Lib.hid (fun (k : Nat) (hk : k < x.keys.length) => (⟨x.keys[k], List.getElem?_eq_getElem hk, hxv _ (List.getElem_mem hk)⟩ : ∃ y, x.keys[k]? = some y ∧ y.vals.length ≤ 1000000))
      have hik : (i : Int) < n := by omega
      clear a1 a2 a3 a4 e1 e2 e3 e4 hxv hx hx' hsk
      generalize x'.pos = xp2 at *
      generalize x.pos = xp1 at *
      clear hsw hsn
      generalize x.word = sw at *
      generalize x.name = sn at *
      have hkk := x.keys.length
      generalize hkn2 : x.keys.length = kn at *
      clear hkk hkn2
      have hkself : ((kn : Int) != kn) = false := by simp [bne]
      have hswd := beq_str_dec sw sw
      have hsnd := beq_str_dec sn sn
      rw [decide_eq_true rfl] at hswd hsnd
      go_wp2_with fail
      go_region_held3 (fun w' => w'.cell? ⟨b1, off1 + i * 4, none⟩ = some (.string sw) ∧ w'.cell? ⟨b1, off1 + i * 4 + 1, none⟩ = some (.string sn) ∧ w'.cell? ⟨b1, off1 + i * 4 + 2, none⟩ = some (.slice zb1 kn zc1) ∧ w'.cell? ⟨b1, off1 + i * 4 + 3, none⟩ = some (.int .i64 xp1) ∧ w'.cell? ⟨b2, off2 + i * 4, none⟩ = some (.string sw) ∧ w'.cell? ⟨b2, off2 + i * 4 + 1, none⟩ = some (.string sn) ∧ w'.cell? ⟨b2, off2 + i * 4 + 2, none⟩ = some (.slice zb2 kn zc2) ∧ w'.cell? ⟨b2, off2 + i * 4 + 3, none⟩ = some (.int .i64 xp2))
        (first | exact ⟨c0, c1, c2, c3, d0, d1, d2, d3⟩ | go_keep)
        (first | fail "no arm")
      · have BX : BT ((wr.alloc (.cells #[.string sw, .string sn, .slice zb1 kn zc1, .int .i64 xp1] 52)).alloc (.cells #[.string sw, .string sn, .slice zb2 kn zc2, .int .i64 xp2] 52)).drew wr.heap.size 52 #[.string sw, .string sn, .slice zb1 kn zc1, .int .i64 xp1] := ((bt_new rfl).kept (sb_alloc (Below.refl _ _) _)).kept (sb_drew (Below.refl _ _))
        have BY : BT ((wr.alloc (.cells #[.string sw, .string sn, .slice zb1 kn zc1, .int .i64 xp1] 52)).alloc (.cells #[.string sw, .string sn, .slice zb2 kn zc2, .int .i64 xp2] 52)).drew (wr.heap.size + 1) 52 #[.string sw, .string sn, .slice zb2 kn zc2, .int .i64 xp2] := (bt_new (by simp)).kept (sb_drew (Below.refl _ _))
        have HQ := Lib.hid (next hwr.out (sb_drew (sb_alloc (sb_alloc (Below.refl _ _) (.cells #[.string sw, .string sn, .slice zb1 kn zc1, .int .i64 xp1] 52)) (.cells #[.string sw, .string sn, .slice zb2 kn zc2, .int .i64 xp2] 52))))
        clear c0 c1 c2 c3 d0 d1 d2 d3 hl1 hl2 hwr
        generalize ((wr.alloc (.cells #[.string sw, .string sn, .slice zb1 kn zc1, .int .i64 xp1] 52)).alloc (.cells #[.string sw, .string sn, .slice zb2 kn zc2, .int .i64 xp2] 52)).drew = W1 at BX BY HQ ⊢
        generalize wr.heap.size + 1 = p7 at BX BY ⊢
        generalize wr.heap.size = p6 at BX BY ⊢
        obtain ⟨x0, x1, x2, x3⟩ := Blk4 BX.blk
        obtain ⟨y0, y1, y2, y3⟩ := Blk4 BY.blk
        have HBX := Lib.hid (fun W (h : Below W1.heap.size W1 W) => (Blk4 (BX.kept h).blk).2.2.1)
        have HBY := Lib.hid (fun W (h : Below W1.heap.size W1 W) => (Blk4 (BY.kept h).blk).2.2.1)
        clear BX BY
        go_wp2_with fail
        clear x0 x1 x2 x3 y0 y1 y2 y3
        go_loopw [8] (fun kv wq => ∃ (k : Nat), k ≤ kn ∧ kv = .int .i64 k ∧ Hid (Below W1.heap.size W1 wq)) (fun kv _ => kn - (intOf kv).toNat)
        case atStart => exact ⟨0, Nat.zero_le _, rfl, Lib.hid (Below.refl _ _)⟩
        case round =>
          obtain ⟨k, hk, rfl, hwq⟩ := hrel
          obtain ⟨wq, hwqe⟩ : ∃ wq, wq = wr := ⟨_, rfl⟩
          subst hwqe
          have x2 := HBX.out _ hwq.out
          have y2 := HBY.out _ hwq.out
          by_cases hkm : k < kn
          · obtain rfl := HA1.out (by omega)
            obtain rfl := HE1.out (by omega)
            obtain ⟨y, hy, hyv⟩ := HXX.out k hkm
            obtain ⟨y', hy', hsy⟩ := HSK.out k y hy
            obtain ⟨ub1, ug1, uo1, uc1, u1, u2, u4⟩ := HA4.out k y hy
            obtain ⟨ub2, ug2, uo2, uc2, v1, v2, v4⟩ := HE4.out k y' hy'
            unfold sameKB at hsy
            simp only [Bool.and_eq_true, decide_eq_true_eq, beq_iff_eq] at hsy
            obtain ⟨hsk, hsv⟩ := hsy
            rw [← hsk, ← hsv] at v4
            rw [← hsv] at v1 v2
            have hw0 := next HQ.out hwq.out
            obtain ⟨c0, c1, _⟩ := u4 _ hw0
            obtain ⟨d0, d1, _⟩ := v4 _ hw0
            have hkl1 : kb1 < wq.heap.size := Nat.lt_of_lt_of_le (HA2.out (by omega)) hw0.size
            have hkl2 : kb2 < wq.heap.size := Nat.lt_of_lt_of_le (HE2.out (by omega)) hw0.size
            have HU1 := Lib.hid u1
            have HU2 := Lib.hid u2
            have HU4 := Lib.hid (fun W h => (u4 W h))
            have HV1 := Lib.hid v1
            have HV2 := Lib.hid v2
            have HV4 := Lib.hid (fun W h => (v4 W h))
            have HYY := Lib.hid (fun (j : Nat) (hj : j < y.vals.length) => (⟨y.vals[j], List.getElem?_eq_getElem hj⟩ : ∃ n, y.vals[j]? = some n))
            clear u1 u2 u4 v1 v2 v4 hsk hsv hy hy' hw0
            generalize y.key = sk at *
            generalize hvn : y.vals.length = vn at *
            have hskd := beq_str_dec sk sk
            rw [decide_eq_true rfl] at hskd
            have hvself : ((vn : Int) != vn) = false := by simp [bne]
            have hkmi : (k : Int) < kn := by omega
            clear hvn
            go_wp2_with fail
            go_quiet (fail)
            clear c0 c1 d0 d1 x2 y2 hkl1 hkl2 hskd
            go_wp2_with fail
            go_loopw [9] (fun jv ws => ∃ (j : Nat), j ≤ vn ∧ jv = .int .i64 j ∧ Hid (Below wq.heap.size wq ws)) (fun jv _ => vn - (intOf jv).toNat)
            case atStart => exact ⟨0, Nat.zero_le _, rfl, Lib.hid (PB.below_drewN (Below.refl _ _) _)⟩
            case round =>
              obtain ⟨j, hj, rfl, hws⟩ := hrel
              have h1 := next hwq.out hws.out
              have h0 := next HQ.out h1
              have x2 := HBX.out _ h1
              have y2 := HBY.out _ h1
              obtain ⟨c0, c1, c4⟩ := HU4.out _ h0
              obtain ⟨d0, d1, d4⟩ := HV4.out _ h0
              have hkl1 : kb1 < wr.heap.size := Nat.lt_of_lt_of_le (HA2.out (by omega)) h0.size
              have hkl2 : kb2 < wr.heap.size := Nat.lt_of_lt_of_le (HE2.out (by omega)) h0.size
              have HW1 := Lib.hid h1
              clear h1
              by_cases hjv : j < vn
              · obtain rfl := HU1.out (by omega)
                obtain rfl := HV1.out (by omega)
                obtain ⟨nn, hnn⟩ := HYY.out j hjv
                have e1 := c4 j nn hnn
                have e2 := d4 j nn hnn
                have hul1 : ug1 < wr.heap.size := Nat.lt_of_lt_of_le (HU2.out (by omega)) h0.size
                have hul2 : ug2 < wr.heap.size := Nat.lt_of_lt_of_le (HV2.out (by omega)) h0.size
                have hnself : (nn != nn) = false := by simp [bne]
                have hjvi : (j : Int) < vn := by omega
                clear c4 d4 hnn h0
                go_wp2_with fail
                go_quiet (fail)
                go_wp2_with fail
                go_roundw
                case rel => exact ⟨j + 1, by omega, by go_num, Lib.hid (PB.below_drewN hws.out _)⟩
                case measure => simp [intOf]; omega
              · have hje : j = vn := by omega
                subst hje
                have hjvi : ¬ (j : Int) < j := by omega
                clear c4 d4 h0
                go_wp2_with fail
                go_roundw
                case rel => exact ⟨k + 1, by omega, by go_num, HW1⟩
                case measure => simp [intOf]; omega
          · have hke : k = kn := by omega
            subst hke
            have hkmi : ¬ (k : Int) < k := by omega
            go_wp2_with fail
            go_roundw
            case rel => exact ⟨i + 1, by omega, by go_num, Lib.hid (next HQ.out hwq.out)⟩
            case measure => simp [intOf]; omega
      · have BX : BT ((wr.alloc (.cells #[.string sw, .string sn, .slice zb2 kn zc2, .int .i64 xp2] 52)).alloc (.cells #[.string sw, .string sn, .slice zb1 kn zc1, .int .i64 xp1] 52)).drew (wr.heap.size + 1) 52 #[.string sw, .string sn, .slice zb1 kn zc1, .int .i64 xp1] := (bt_new (by simp)).kept (sb_drew (Below.refl _ _))
        have BY : BT ((wr.alloc (.cells #[.string sw, .string sn, .slice zb2 kn zc2, .int .i64 xp2] 52)).alloc (.cells #[.string sw, .string sn, .slice zb1 kn zc1, .int .i64 xp1] 52)).drew wr.heap.size 52 #[.string sw, .string sn, .slice zb2 kn zc2, .int .i64 xp2] := ((bt_new rfl).kept (sb_alloc (Below.refl _ _) _)).kept (sb_drew (Below.refl _ _))
        have HQ := Lib.hid (next hwr.out (sb_drew (sb_alloc (sb_alloc (Below.refl _ _) (.cells #[.string sw, .string sn, .slice zb2 kn zc2, .int .i64 xp2] 52)) (.cells #[.string sw, .string sn, .slice zb1 kn zc1, .int .i64 xp1] 52))))
        clear c0 c1 c2 c3 d0 d1 d2 d3 hl1 hl2 hwr
        generalize ((wr.alloc (.cells #[.string sw, .string sn, .slice zb2 kn zc2, .int .i64 xp2] 52)).alloc (.cells #[.string sw, .string sn, .slice zb1 kn zc1, .int .i64 xp1] 52)).drew = W1 at BX BY HQ ⊢
        generalize wr.heap.size + 1 = p6 at BX BY ⊢
        generalize wr.heap.size = p7 at BX BY ⊢
        obtain ⟨x0, x1, x2, x3⟩ := Blk4 BX.blk
        obtain ⟨y0, y1, y2, y3⟩ := Blk4 BY.blk
        have HBX := Lib.hid (fun W (h : Below W1.heap.size W1 W) => (Blk4 (BX.kept h).blk).2.2.1)
        have HBY := Lib.hid (fun W (h : Below W1.heap.size W1 W) => (Blk4 (BY.kept h).blk).2.2.1)
        clear BX BY
        go_wp2_with fail
        clear x0 x1 x2 x3 y0 y1 y2 y3
        go_loopw [8] (fun kv wq => ∃ (k : Nat), k ≤ kn ∧ kv = .int .i64 k ∧ Hid (Below W1.heap.size W1 wq)) (fun kv _ => kn - (intOf kv).toNat)
        case atStart => exact ⟨0, Nat.zero_le _, rfl, Lib.hid (Below.refl _ _)⟩
        case round =>
          obtain ⟨k, hk, rfl, hwq⟩ := hrel
          obtain ⟨wq, hwqe⟩ : ∃ wq, wq = wr := ⟨_, rfl⟩
          subst hwqe
          have x2 := HBX.out _ hwq.out
          have y2 := HBY.out _ hwq.out
          by_cases hkm : k < kn
          · obtain rfl := HA1.out (by omega)
            obtain rfl := HE1.out (by omega)
            obtain ⟨y, hy, hyv⟩ := HXX.out k hkm
            obtain ⟨y', hy', hsy⟩ := HSK.out k y hy
            obtain ⟨ub1, ug1, uo1, uc1, u1, u2, u4⟩ := HA4.out k y hy
            obtain ⟨ub2, ug2, uo2, uc2, v1, v2, v4⟩ := HE4.out k y' hy'
            unfold sameKB at hsy
            simp only [Bool.and_eq_true, decide_eq_true_eq, beq_iff_eq] at hsy
            obtain ⟨hsk, hsv⟩ := hsy
            rw [← hsk, ← hsv] at v4
            rw [← hsv] at v1 v2
            have hw0 := next HQ.out hwq.out
            obtain ⟨c0, c1, _⟩ := u4 _ hw0
            obtain ⟨d0, d1, _⟩ := v4 _ hw0
            have hkl1 : kb1 < wq.heap.size := Nat.lt_of_lt_of_le (HA2.out (by omega)) hw0.size
            have hkl2 : kb2 < wq.heap.size := Nat.lt_of_lt_of_le (HE2.out (by omega)) hw0.size
            have HU1 := Lib.hid u1
            have HU2 := Lib.hid u2
            have HU4 := Lib.hid (fun W h => (u4 W h))
            have HV1 := Lib.hid v1
            have HV2 := Lib.hid v2
            have HV4 := Lib.hid (fun W h => (v4 W h))
            have HYY := Lib.hid (fun (j : Nat) (hj : j < y.vals.length) => (⟨y.vals[j], List.getElem?_eq_getElem hj⟩ : ∃ n, y.vals[j]? = some n))
            clear u1 u2 u4 v1 v2 v4 hsk hsv hy hy' hw0
            generalize y.key = sk at *
            generalize hvn : y.vals.length = vn at *
            have hskd := beq_str_dec sk sk
            rw [decide_eq_true rfl] at hskd
            have hvself : ((vn : Int) != vn) = false := by simp [bne]
            have hkmi : (k : Int) < kn := by omega
            clear hvn
            go_wp2_with fail
            go_quiet (fail)
            clear c0 c1 d0 d1 x2 y2 hkl1 hkl2 hskd
            go_wp2_with fail
            go_loopw [9] (fun jv ws => ∃ (j : Nat), j ≤ vn ∧ jv = .int .i64 j ∧ Hid (Below wq.heap.size wq ws)) (fun jv _ => vn - (intOf jv).toNat)
            case atStart => exact ⟨0, Nat.zero_le _, rfl, Lib.hid (PB.below_drewN (Below.refl _ _) _)⟩
            case round =>
              obtain ⟨j, hj, rfl, hws⟩ := hrel
              have h1 := next hwq.out hws.out
              have h0 := next HQ.out h1
              have x2 := HBX.out _ h1
              have y2 := HBY.out _ h1
              obtain ⟨c0, c1, c4⟩ := HU4.out _ h0
              obtain ⟨d0, d1, d4⟩ := HV4.out _ h0
              have hkl1 : kb1 < wr.heap.size := Nat.lt_of_lt_of_le (HA2.out (by omega)) h0.size
              have hkl2 : kb2 < wr.heap.size := Nat.lt_of_lt_of_le (HE2.out (by omega)) h0.size
              have HW1 := Lib.hid h1
              clear h1
              by_cases hjv : j < vn
              · obtain rfl := HU1.out (by omega)
                obtain rfl := HV1.out (by omega)
                obtain ⟨nn, hnn⟩ := HYY.out j hjv
                have e1 := c4 j nn hnn
                have e2 := d4 j nn hnn
                have hul1 : ug1 < wr.heap.size := Nat.lt_of_lt_of_le (HU2.out (by omega)) h0.size
                have hul2 : ug2 < wr.heap.size := Nat.lt_of_lt_of_le (HV2.out (by omega)) h0.size
                have hnself : (nn != nn) = false := by simp [bne]
                have hjvi : (j : Int) < vn := by omega
                clear c4 d4 hnn h0
                go_wp2_with fail
                go_quiet (fail)
                go_wp2_with fail
                go_roundw
                case rel => exact ⟨j + 1, by omega, by go_num, Lib.hid (PB.below_drewN hws.out _)⟩
                case measure => simp [intOf]; omega
              · have hje : j = vn := by omega
                subst hje
                have hjvi : ¬ (j : Int) < j := by omega
                clear c4 d4 h0
                go_wp2_with fail
                go_roundw
                case rel => exact ⟨k + 1, by omega, by go_num, HW1⟩
                case measure => simp [intOf]; omega
          · have hke : k = kn := by omega
            subst hke
            have hkmi : ¬ (k : Int) < k := by omega
            go_wp2_with fail
            go_roundw
            case rel => exact ⟨i + 1, by omega, by go_num, Lib.hid (next HQ.out hwq.out)⟩
            case measure => simp [intOf]; omega
    · have hie : i = n := by omega
      subst hie
      go_wp2_with fail
      go_ret
      exact ⟨rfl, hwr.out⟩
end Go.Proofs.YtdikoeeoglfmaaaGreatDoor

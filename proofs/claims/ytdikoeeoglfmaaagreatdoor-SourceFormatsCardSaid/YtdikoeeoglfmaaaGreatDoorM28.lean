/-
  The reference's Same, at any lists.
  The reference's Get.
-/
import Derived.Deep.DeepCutAuto
import Derived.Test.YtdikoeeoglfmaaaGreatDoorM12
import Derived.Test.YtdikoeeoglfmaaaGreatDoorM25
namespace SS
open Go Go.RowKit SC PB
theorem valB_cons {s t : List Int} {j : Nat} {a b : Int} {r : Bool} (h : (s.drop j == t.drop j) = r) (ha : s[j]? = some a) (hb : t[j]? = some b) : (a = b → (s.drop (j + 1) == t.drop (j + 1)) = r) ∧ (¬ a = b → r = false) := by
  obtain ⟨hi, e⟩ := List.getElem?_eq_some_iff.1 ha
  obtain ⟨hj, e'⟩ := List.getElem?_eq_some_iff.1 hb
  rw [List.drop_eq_getElem_cons hi, e, List.drop_eq_getElem_cons hj, e'] at h
  rw [show ((a :: s.drop (j + 1)) == (b :: t.drop (j + 1))) = ((a == b) && (s.drop (j + 1) == t.drop (j + 1))) from rfl] at h
  exact ⟨fun hh => by rw [hh, beq_self_eq_true, Bool.true_and] at h; exact h, fun hh => by rw [beq_eq_false_iff_ne.2 hh, Bool.false_and] at h; exact h.symm⟩
theorem valB_end {s t : List Int} {j : Nat} {r : Bool} (h : (s.drop j == t.drop j) = r) (hs : s.length ≤ j) (ht : t.length ≤ j) : r = true := by
  rw [List.drop_eq_nil_of_le hs, List.drop_eq_nil_of_le ht] at h
  exact h.symm
theorem sameKB_parts {x y : K} : (¬ x.key = y.key → sameKB x y = false) ∧ (x.key = y.key → sameKB x y = (x.vals == y.vals)) ∧ (¬ x.vals.length = y.vals.length → sameKB x y = false) := by
  unfold sameKB
  refine ⟨fun h => by rw [decide_eq_false h]; rfl, fun h => by rw [decide_eq_true h]; rfl, fun h => ?_⟩
  rw [show (x.vals == y.vals) = false from beq_eq_false_iff_ne.2 fun e => h (by rw [e]), Bool.and_false]
theorem sameIB_parts {x y : I} : (¬ x.word = y.word → sameIB x y = false) ∧ (¬ x.name = y.name → sameIB x y = false) ∧ (¬ x.keys.length = y.keys.length → sameIB x y = false) ∧ (x.word = y.word → x.name = y.name → sameIB x y = allB sameKB x.keys y.keys) := by
  unfold sameIB
  refine ⟨fun h => by rw [decide_eq_false h]; rfl, fun h => by rw [decide_eq_false h]; simp, fun h => by rw [allB_len h]; simp, fun h h' => by rw [decide_eq_true h, decide_eq_true h']; rfl⟩
end SS
namespace Go.Proofs.YtdikoeeoglfmaaaGreatDoor
open Go.RowKit SC PB SS
set_option maxHeartbeats 16000000 in
set_option maxRecDepth 100000 in
theorem rsame_all (l m : List I) (u v : Value) (w : World) (hu : RdI w u l) (hv : RdI w v m) (hn : l.length ≤ 1000000) (hnm : m.length ≤ 1000000) (hok : ∀ x ∈ l, x.keys.length ≤ 1000000 ∧ ∀ k ∈ x.keys, k.vals.length ≤ 1000000) (hok2 : ∀ x ∈ m, x.keys.length ≤ 1000000 ∧ ∀ k ∈ x.keys, k.vals.length ≤ 1000000) :
    Calls Tryz.prog 17 #[u, v] w fun e w' => e = .returned (.bool (allB sameIB l m)) ∧ Below w.heap.size w w' := by
  obtain ⟨base1, b1, off1, cp1, rfl, h1, h2, h4⟩ := hu
  obtain ⟨base2, b2, off2, cp2, rfl, k1, k2, k4⟩ := hv
  by_cases hlen : l.length = m.length
  · have HI1 := Lib.hid (irow_of h2 h4)
    have HI2 := Lib.hid (irow_of k2 k4)
    have HB1 := Lib.hid h1
    rw [← hlen] at k1 ⊢
    have HB2 := Lib.hid k1
    have HX := Lib.hid (fun (k : Nat) (hk : k < l.length) => (⟨l[k], List.getElem?_eq_getElem hk, hok _ (List.getElem_mem hk)⟩ : ∃ x, l[k]? = some x ∧ x.keys.length ≤ 1000000 ∧ ∀ k ∈ x.keys, k.vals.length ≤ 1000000))
    have HX2 := Lib.hid (fun (k : Nat) (hk : k < l.length) => (⟨m[k]'(by omega), List.getElem?_eq_getElem (by omega), hok2 _ (List.getElem_mem (by omega))⟩ : ∃ x, m[k]? = some x ∧ x.keys.length ≤ 1000000 ∧ ∀ k ∈ x.keys, k.vals.length ≤ 1000000))
    generalize hr : allB sameIB l m = r
    have HR0 := Lib.hid (show allB sameIB (l.drop 0) (m.drop 0) = r from hr)
    have HST := Lib.hid (fun (i : Nat) (x y : I) (h : allB sameIB (l.drop i) (m.drop i) = r) (hx : l[i]? = some x) (hy : m[i]? = some y) => allB_cons h hx hy)
    have HSE := Lib.hid (fun (i : Nat) (h : allB sameIB (l.drop i) (m.drop i) = r) (hi : l.length ≤ i) => allB_end h hi (by omega))
    clear h1 h2 h4 k1 k2 k4 hok hok2 hnm hr
    generalize hnl : l.length = n at *
    have hself : ((n : Int) != n) = false := by simp [bne]
    clear hnl hlen
    go_enter Tryz.func17, Tryz.ntmps17
    go_wp2_with fail
    go_loopw [5] (fun iv wr => ∃ (i : Nat), i ≤ n ∧ iv = .int .i64 i ∧ Hid (allB sameIB (l.drop i) (m.drop i) = r) ∧ Hid (Below w.heap.size w wr)) (fun iv _ => n - (intOf iv).toNat)
    case atStart => exact ⟨0, Nat.zero_le _, rfl, HR0, Lib.hid (Below.refl _ _)⟩
    case round =>
      clear HR0
      obtain ⟨i, hin, rfl, hR, hwr⟩ := hrel
      by_cases hkn : i < n
      · obtain rfl := HB1.out (by omega)
        obtain rfl := HB2.out (by omega)
        obtain ⟨x, hx, hxk, hxv⟩ := HX.out i hkn
        obtain ⟨x', hx', hxk', hxv'⟩ := HX2.out i hkn
        obtain ⟨s1, s2⟩ := HST.out i x x' hR.out hx hx'
        obtain ⟨hlt1, zb1, kb1, ko1, zc1, a1, a2, a3, a4⟩ := HI1.out i x hx
        obtain ⟨hlt2, zb2, kb2, ko2, zc2, e1, e2, e3, e4⟩ := HI2.out i x' hx'
        obtain ⟨c0, c1, c2, c3⟩ := a3 _ hwr.out
        obtain ⟨d0, d1, d2, d3⟩ := e3 _ hwr.out
        have hl1 : b1 < wr.heap.size := Nat.lt_of_lt_of_le hlt1 hwr.out.size
        have hl2 : b2 < wr.heap.size := Nat.lt_of_lt_of_le hlt2 hwr.out.size
        have HA1 := Lib.hid a1
        have HA2 := Lib.hid a2
        have HA4 := Lib.hid a4
        have HE1 := Lib.hid e1
        have HE2 := Lib.hid e2
        have HE4 := Lib.hid e4
        have HS1 := Lib.hid s1
        have HS2 := Lib.hid s2
        have HP := Lib.hid (sameIB_parts (x := x) (y := x'))
        have HXX := Lib.hid (fun (k : Nat) (hk : k < x.keys.length) => (⟨x.keys[k], List.getElem?_eq_getElem hk, hxv _ (List.getElem_mem hk)⟩ : ∃ y, x.keys[k]? = some y ∧ y.vals.length ≤ 1000000))
        have HXX' := Lib.hid (fun (k : Nat) (hk : k < x'.keys.length) => (⟨x'.keys[k], List.getElem?_eq_getElem hk, hxv' _ (List.getElem_mem hk)⟩ : ∃ y, x'.keys[k]? = some y ∧ y.vals.length ≤ 1000000))
        have hik : (i : Int) < n := by omega
        clear a1 a2 a3 a4 e1 e2 e3 e4 hxv hxv' hx hx' s1 s2
        go_upto_region 6 with fail
        go_cut [6, 7] (fun s6 s7 wx => ∃ p6 p7 : Nat, s6 = .pointer (some ⟨p6, 0, none⟩) ∧ s7 = .pointer (some ⟨p7, 0, none⟩) ∧ Hid (Blk wx p6 #[.string x.word, .string x.name, .slice zb1 x.keys.length zc1, .int .i64 x.pos]) ∧ Hid (Blk wx p7 #[.string x'.word, .string x'.name, .slice zb2 x'.keys.length zc2, .int .i64 x'.pos]) ∧ Hid (Below wr.heap.size wr wx))
        case first =>
          go_region_held3 (fun w' => w'.cell? ⟨b1, off1 + i * 4, none⟩ = some (.string x.word) ∧ w'.cell? ⟨b1, off1 + i * 4 + 1, none⟩ = some (.string x.name) ∧ w'.cell? ⟨b1, off1 + i * 4 + 2, none⟩ = some (.slice zb1 x.keys.length zc1) ∧ w'.cell? ⟨b1, off1 + i * 4 + 3, none⟩ = some (.int .i64 x.pos) ∧ w'.cell? ⟨b2, off2 + i * 4, none⟩ = some (.string x'.word) ∧ w'.cell? ⟨b2, off2 + i * 4 + 1, none⟩ = some (.string x'.name) ∧ w'.cell? ⟨b2, off2 + i * 4 + 2, none⟩ = some (.slice zb2 x'.keys.length zc2) ∧ w'.cell? ⟨b2, off2 + i * 4 + 3, none⟩ = some (.int .i64 x'.pos))
            (first | exact ⟨c0, c1, c2, c3, d0, d1, d2, d3⟩ | go_keep)
            (first | fail "no arm")
          · go_wp2_with fail
            go_meet
            exact ⟨_, _, rfl, rfl, Lib.hid (((blk_new rfl).kept (sb_alloc (Below.refl _ _) _)).kept (sb_drew (Below.refl _ _))), Lib.hid ((blk_new (by simp)).kept (sb_drew (Below.refl _ _))), Lib.hid (sb_drew (sb_alloc (sb_alloc (Below.refl _ _) _) _))⟩
          · go_wp2_with fail
            go_meet
            exact ⟨_, _, rfl, rfl, Lib.hid ((blk_new (by simp)).kept (sb_drew (Below.refl _ _))), Lib.hid (((blk_new rfl).kept (sb_alloc (Below.refl _ _) _)).kept (sb_drew (Below.refl _ _))), Lib.hid (sb_drew (sb_alloc (sb_alloc (Below.refl _ _) _) _))⟩
        case rest =>
          have hs := hcut
          clear hcut c0 c1 c2 c3 d0 d1 d2 d3 hl1 hl2
          obtain ⟨p6, p7, rfl, rfl, BX, BY, HWX⟩ := hs
          have HQ := Lib.hid (next hwr.out HWX.out)
          have HBX := Lib.hid (fun W (h : Below wc.heap.size wc W) => (Blk4 (BX.out.kept h)).2.2.1)
          have HBY := Lib.hid (fun W (h : Below wc.heap.size wc W) => (Blk4 (BY.out.kept h)).2.2.1)
          obtain ⟨x0, x1, x2, x3⟩ := Blk4 BX.out
          obtain ⟨y0, y1, y2, y3⟩ := Blk4 BY.out
          clear BX BY HWX
          have hkd := beq_str_dec x.word x'.word
          have hnd := beq_str_dec x.name x'.name
          by_cases hw : x.word = x'.word
          · rw [decide_eq_true hw] at hkd
            by_cases hnm : x.name = x'.name
            · rw [decide_eq_true hnm] at hnd
              by_cases hkl : x.keys.length = x'.keys.length
              · have HRK0 := HP.out.2.2.2 hw hnm
                generalize hrk : allB sameKB x.keys x'.keys = rk at HRK0
                have HRK := Lib.hid (show allB sameKB (x.keys.drop 0) (x'.keys.drop 0) = rk from hrk)
                have HTR := Lib.hid (fun (h : rk = true) => HS1.out (HRK0.trans h))
                have HFA := Lib.hid (fun (h : rk = false) => HS2.out (HRK0.trans h))
                have HKS := Lib.hid (fun (k : Nat) (y y' : K) (h : allB sameKB (x.keys.drop k) (x'.keys.drop k) = rk) (hy : x.keys[k]? = some y) (hy' : x'.keys[k]? = some y') => allB_cons h hy hy')
                have HKE := Lib.hid (fun (k : Nat) (h : allB sameKB (x.keys.drop k) (x'.keys.drop k) = rk) (hk : x.keys.length ≤ k) => allB_end h hk (by omega))
                rw [← hkl] at HBY y2 HE1 HE2 HXX'
                clear HS1 HS2 HP hrk HRK0 hw hnm hkl hxk'
                generalize x'.pos = xp2 at *
                generalize x.pos = xp1 at *
                generalize x.word = sw at *
                generalize x'.word = sw' at *
                generalize x.name = sn at *
                generalize x'.name = sn' at *
                generalize hkn2 : x.keys.length = kn at *
                clear hkn2
                have hkself : ((kn : Int) != kn) = false := by simp [bne]
                go_wp2_with fail
                clear x0 x1 x2 x3 y0 y1 y2 y3 hkd hnd
                obtain ⟨W1, hW1⟩ : ∃ W1, W1 = wc := ⟨_, rfl⟩
                subst hW1
                go_loopw [8] (fun kv wq => ∃ (k : Nat), k ≤ kn ∧ kv = .int .i64 k ∧ Hid (allB sameKB (x.keys.drop k) (x'.keys.drop k) = rk) ∧ Hid (Below W1.heap.size W1 wq)) (fun kv _ => kn - (intOf kv).toNat)
                case atStart => exact ⟨0, Nat.zero_le _, rfl, HRK, Lib.hid (Below.refl _ _)⟩
                case round =>
                  clear HRK
                  obtain ⟨k, hk, rfl, hRK, hwq⟩ := hrel
                  obtain ⟨wq, hwqe⟩ : ∃ wq, wq = wr := ⟨_, rfl⟩
                  subst hwqe
                  have x2 := HBX.out _ hwq.out
                  have y2 := HBY.out _ hwq.out
                  by_cases hkm : k < kn
                  · obtain rfl := HA1.out (by omega)
                    obtain rfl := HE1.out (by omega)
                    obtain ⟨y, hy, hyv⟩ := HXX.out k hkm
                    obtain ⟨y', hy', hyv'⟩ := HXX'.out k hkm
                    obtain ⟨t1, t2⟩ := HKS.out k y y' hRK.out hy hy'
                    obtain ⟨ub1, ug1, uo1, uc1, u1, u2, u4⟩ := HA4.out k y hy
                    obtain ⟨ub2, ug2, uo2, uc2, v1, v2, v4⟩ := HE4.out k y' hy'
                    have hw0 := next HQ.out hwq.out
                    obtain ⟨c0, c1, _⟩ := u4 _ hw0
                    obtain ⟨d0, d1, _⟩ := v4 _ hw0
                    have hkl1 : kb1 < wq.heap.size := Nat.lt_of_lt_of_le (HA2.out (by omega)) hw0.size
                    have hkl2 : kb2 < wq.heap.size := Nat.lt_of_lt_of_le (HE2.out (by omega)) hw0.size
                    have hskd := beq_str_dec y.key y'.key
                    have hkmi : (k : Int) < kn := by omega
                    have HPK := Lib.hid (sameKB_parts (x := y) (y := y'))
                    by_cases hkk : y.key = y'.key
                    · rw [decide_eq_true hkk] at hskd
                      by_cases hvl : y.vals.length = y'.vals.length
                      · have HRV0 := HPK.out.2.1 hkk
                        generalize hrv : (y.vals == y'.vals) = rv at HRV0
                        have HRV := Lib.hid (show (y.vals.drop 0 == y'.vals.drop 0) = rv from hrv)
                        have HVT := Lib.hid (fun (h : rv = true) => t1 (HRV0.trans h))
                        have HVF := Lib.hid (fun (h : rv = false) => t2 (HRV0.trans h))
                        have HVS := Lib.hid (fun (j : Nat) (a b : Int) (h : (y.vals.drop j == y'.vals.drop j) = rv) (ha : y.vals[j]? = some a) (hb : y'.vals[j]? = some b) => valB_cons h ha hb)
                        have HVE := Lib.hid (fun (j : Nat) (h : (y.vals.drop j == y'.vals.drop j) = rv) (hj : y.vals.length ≤ j) => valB_end h hj (by omega))
                        have HYY := Lib.hid (fun (j : Nat) (hj : j < y.vals.length) => (⟨y.vals[j], List.getElem?_eq_getElem hj⟩ : ∃ n, y.vals[j]? = some n))
                        have HYY' := Lib.hid (fun (j : Nat) (hj : j < y.vals.length) => (⟨y'.vals[j]'(by omega), List.getElem?_eq_getElem (by omega)⟩ : ∃ n, y'.vals[j]? = some n))
                        rw [← hvl] at v1 v2 v4 d1
                        have HU1 := Lib.hid u1
                        have HU2 := Lib.hid u2
                        have HU4 := Lib.hid (fun W h => (u4 W h))
                        have HV1 := Lib.hid v1
                        have HV2 := Lib.hid v2
                        have HV4 := Lib.hid (fun W h => (v4 W h))
                        clear u1 u2 u4 v1 v2 v4 hy hy' hw0 t1 t2 HPK HRV0 hrv hkk hvl hyv'
                        generalize y.key = sk at *
                        generalize y'.key = sk' at *
                        generalize hvn : y.vals.length = vn at *
                        have hvself : ((vn : Int) != vn) = false := by simp [bne]
                        clear hvn
                        go_wp2_with fail
                        go_quiet (fail)
                        clear c0 c1 d0 d1 x2 y2 hkl1 hkl2 hskd
                        go_wp2_with fail
                        go_loopw [9] (fun jv ws => ∃ (j : Nat), j ≤ vn ∧ jv = .int .i64 j ∧ Hid ((y.vals.drop j == y'.vals.drop j) = rv) ∧ Hid (Below wq.heap.size wq ws)) (fun jv _ => vn - (intOf jv).toNat)
                        case atStart => exact ⟨0, Nat.zero_le _, rfl, HRV, Lib.hid (PB.below_drewN (Below.refl _ _) _)⟩
                        case round =>
                          clear HRV
                          obtain ⟨j, hj, rfl, hRV, hws⟩ := hrel
                          have h1 := next hwq.out hws.out
                          have h0 := next HQ.out h1
                          have x2 := HBX.out _ h1
                          have y2 := HBY.out _ h1
                          obtain ⟨c0, c1, c4⟩ := HU4.out _ h0
                          obtain ⟨d0, d1, d4⟩ := HV4.out _ h0
                          have hkl1 : kb1 < wr.heap.size := Nat.lt_of_lt_of_le (HA2.out (by omega)) h0.size
                          have hkl2 : kb2 < wr.heap.size := Nat.lt_of_lt_of_le (HE2.out (by omega)) h0.size
                          have HW1 := Lib.hid h1
                          have HW0 := Lib.hid h0
                          clear h1
                          by_cases hjv : j < vn
                          · obtain rfl := HU1.out (by omega)
                            obtain rfl := HV1.out (by omega)
                            obtain ⟨na, hna⟩ := HYY.out j hjv
                            obtain ⟨nb, hnb⟩ := HYY'.out j hjv
                            obtain ⟨r1, r2⟩ := HVS.out j na nb hRV.out hna hnb
                            have e1 := c4 j na hna
                            have e2 := d4 j nb hnb
                            have hul1 : ug1 < wr.heap.size := Nat.lt_of_lt_of_le (HU2.out (by omega)) h0.size
                            have hul2 : ug2 < wr.heap.size := Nat.lt_of_lt_of_le (HV2.out (by omega)) h0.size
                            have hjvi : (j : Int) < vn := by omega
                            by_cases hab : na = nb
                            · have hnself : (na != nb) = false := by simp [bne, hab]
                              have HN := Lib.hid (r1 hab)
                              clear c4 d4 hna hnb h0 r1 r2 hab
                              go_wp2_with fail
                              go_quiet (fail)
                              go_wp2_with fail
                              go_roundw
                              case rel => exact ⟨j + 1, by omega, by go_num, HN, Lib.hid (PB.below_drewN hws.out _)⟩
                              case measure => simp [intOf]; omega
                            · have hnself : (na != nb) = true := by simp [bne, hab]
                              have HF := Lib.hid (HFA.out (HVF.out (r2 hab)))
                              clear c4 d4 hna hnb h0 r1 r2 hab
                              go_wp2_with fail
                              go_quiet (fail)
                              go_wp2_with fail
                              go_ret
                              exact ⟨by rw [HF.out]; rfl, PB.below_drewN HW0.out _⟩
                          · have hje : j = vn := by omega
                            have hjvi : ¬ (j : Int) < vn := by omega
                            have HN := Lib.hid (HVT.out (HVE.out j hRV.out (by omega)))
                            clear c4 d4 h0
                            go_wp2_with fail
                            go_roundw
                            case rel => exact ⟨k + 1, by omega, by go_num, HN, HW1⟩
                            case measure => simp [intOf]; omega
                      · have HF := Lib.hid (HFA.out (t2 (HPK.out.2.2 hvl)))
                        have HW0 := Lib.hid hw0
                        have hvd : ((y.vals.length : Int) != y'.vals.length) = true := by simp [bne]; omega
                        clear u1 u2 u4 v1 v2 v4 hy hy' hw0 t1 t2 HPK hkk hvl
                        generalize y.vals.length = vn at *
                        generalize y'.vals.length = vn' at *
                        generalize y.key = sk at *
                        generalize y'.key = sk' at *
                        go_wp2_with fail
                        go_quiet (fail)
                        go_wp2_with fail
                        go_ret
                        exact ⟨by rw [HF.out]; rfl, PB.below_drewN HW0.out _⟩
                    · rw [decide_eq_false hkk] at hskd
                      have HF := Lib.hid (HFA.out (t2 (HPK.out.1 hkk)))
                      have HW0 := Lib.hid hw0
                      clear u1 u2 u4 v1 v2 v4 hy hy' hw0 t1 t2 HPK hkk
                      generalize y.key = sk at *
                      generalize y'.key = sk' at *
                      go_wp2_with fail
                      go_quiet (fail)
                      go_wp2_with fail
                      go_ret
                      exact ⟨by rw [HF.out]; rfl, PB.below_drewN HW0.out _⟩
                  · have hke : k = kn := by omega
                    have hkmi : ¬ (k : Int) < kn := by omega
                    have HN := Lib.hid (HTR.out (HKE.out k hRK.out (by omega)))
                    go_wp2_with fail
                    go_roundw
                    case rel => exact ⟨i + 1, by omega, by go_num, HN, Lib.hid (next HQ.out hwq.out)⟩
                    case measure => simp [intOf]; omega
              · have HF := Lib.hid (HS2.out (HP.out.2.2.1 hkl))
                have hkd2 : ((x.keys.length : Int) != x'.keys.length) = true := by simp [bne]; omega
                clear HS1 HS2 HP hw hnm hkl
                generalize x.keys.length = kn at *
                generalize x'.keys.length = kn' at *
                generalize x.word = sw at *
                generalize x'.word = sw' at *
                generalize x.name = sn at *
                generalize x'.name = sn' at *
                go_wp2_with fail
                go_ret
                exact ⟨by rw [HF.out]; rfl, HQ.out⟩
            · rw [decide_eq_false hnm] at hnd
              have HF := Lib.hid (HS2.out (HP.out.2.1 hnm))
              clear HS1 HS2 HP hw hnm
              generalize x.word = sw at *
              generalize x'.word = sw' at *
              generalize x.name = sn at *
              generalize x'.name = sn' at *
              go_wp2_with fail
              go_ret
              exact ⟨by rw [HF.out]; rfl, HQ.out⟩
          · rw [decide_eq_false hw] at hkd
            have HF := Lib.hid (HS2.out (HP.out.1 hw))
            clear HS1 HS2 HP hw
            generalize x.word = sw at *
            generalize x'.word = sw' at *
            go_wp2_with fail
            go_ret
            exact ⟨by rw [HF.out]; rfl, HQ.out⟩
      · have hie : i = n := by omega
        have hV := HSE.out i hR.out (by omega)
        subst hV
        have hik : ¬ (i : Int) < n := by omega
        go_wp2_with fail
        go_ret
        exact ⟨rfl, hwr.out⟩
  · have hne : ((l.length : Int) != m.length) = true := by simp [bne]; omega
    have HF := Lib.hid (allB_len (f := sameIB) hlen)
    clear h1 h2 h4 k1 k2 k4 hok hok2 hlen
    generalize l.length = ln at *
    generalize m.length = mn at *
    rw [HF.out]
    go_enter Tryz.func17, Tryz.ntmps17
    go_wp2_with fail
    go_ret
    exact ⟨rfl, Below.refl _ _⟩
end Go.Proofs.YtdikoeeoglfmaaaGreatDoor

namespace SS
open Go Go.RowKit PB SC
/-- The keys of a statement, as they stand in memory. -/
theorem rdk_rows {w : World} {kb ko : Nat} {ks : List K} (a2 : ks.length ≠ 0 → kb < w.heap.size) (a4 : ∀ j k, ks[j]? = some k → ∃ z, KAt w kb (ko + j * 3) k z) (k : Nat) (y : K) (hy : ks[k]? = some y) :
    ∃ ub un uc, ∀ W, Below w.heap.size w W → W.cell? ⟨kb, ko + k * 3, none⟩ = some (.string y.key) ∧ W.cell? ⟨kb, ko + k * 3 + 1, none⟩ = some (.slice ub un uc) ∧ RdV W (.slice ub un uc) y.vals := by
  obtain ⟨u, hu⟩ := a4 k y hy
  have hklt := a2 (by have := (List.getElem?_eq_some_iff.1 hy).1; omega)
  obtain ⟨ub, un, uc, rfl⟩ := rdv_form hu.2.2.2
  refine ⟨ub, un, uc, fun W h => ?_⟩
  obtain ⟨e1, e2, _, e4⟩ := hu.kept h hklt
  exact ⟨e1, e2, e4⟩
theorem wpList_append_copyv {P : Program} {w : World} {ops : Array Oper} {rest : List Oper} {o : Oper} {a : Act} {Q : Exit → Act → World → Prop} (hgd : o.guard = none) (s x : Operand) (t : TypeId)
    (ho : o.op = .call { callee := .builtin .append, args := #[s, x], argTypes := #[t, t] }) (E : TypeId) (i : TypeInfo) (ht : P.underlying t = some (.slice E)) (hi : P.info? E = some i) (hz : i.zero = some (.int .i64 0)) (hsize : i.size = 1) (hby : i.bytes = 8)
    (hs : a.eval s = .slice none 0 0) (v : Value) (vals : List Int) (hx : a.eval x = v) (hv : RdV w v vals) (hn : vals.length ≤ 1000000)
    (h : ∀ v' w', OwnVs E w.heap.size w' v' vals → Below w.heap.size w w' → wpList P ops Q rest (a.put o.dst v') w') : wpList P ops Q (o :: rest) a w :=
  wpList_plain hgd fun _ hK => wp_append_copy s x t ho E i ht hi hz hsize hby hs v vals hx hv hn (fun v' w' h1 h2 => hK _ _ (h v' w' h1 h2))
end SS
namespace Go.Proofs.YtdikoeeoglfmaaaGreatDoor
open Go.RowKit SC PB SS
set_option maxHeartbeats 8000000 in
set_option maxRecDepth 100000 in
theorem rget_any (x : I) (z : Value) (key : ByteArray) (w : World) (hr : RdK w z x.keys) (hn : x.keys.length ≤ 1000000) (hv : ∀ k ∈ x.keys, k.vals.length ≤ 1000000) :
    Calls Tryz.prog 52 #[iagg x z, .string key] w fun e w' => ∃ v, e = .returned (.tuple #[v, .bool (getV key x.keys).isSome]) ∧ RdV w' v (oV (getV key x.keys)) ∧ Below w.heap.size w w' := by
  obtain ⟨i0, hi, hz0, hz1, hz2⟩ := info_parts info_vint
  obtain ⟨base, b, off, c, rfl, h1, h2, h4⟩ := hr
  have HB := Lib.hid h1
  have HL := Lib.hid h2
  have HK := Lib.hid (rdk_rows h2 h4)
  have HX := Lib.hid (fun (k : Nat) (hk : k < x.keys.length) => (⟨x.keys[k], List.getElem?_eq_getElem hk, hv _ (List.getElem_mem hk)⟩ : ∃ y, x.keys[k]? = some y ∧ y.vals.length ≤ 1000000))
  generalize hR : getV key x.keys = R
  have HR0 := Lib.hid (show getV key (x.keys.drop 0) = R by rw [List.drop_zero]; exact hR)
  have HC := Lib.hid (fun (i : Nat) (k : K) (h : getV key (x.keys.drop i) = R) (hk : x.keys[i]? = some k) => getV_cons h hk)
  have HE := Lib.hid (fun (i : Nat) (h : getV key (x.keys.drop i) = R) (hi : x.keys.length ≤ i) => getV_end h hi)
  clear h1 h2 h4 hv hR
  unfold iagg
  generalize hN : x.keys.length = n at *
  clear hN
  have BX : BT (w.alloc (.cells #[.string x.word, .string x.name, .slice base n c, .int .i64 x.pos] 52)) w.heap.size 52 #[.string x.word, .string x.name, .slice base n c, .int .i64 x.pos] := bt_new rfl
  have HBX := Lib.hid (fun W (h : Below (w.heap.size + 1) (w.alloc (.cells #[.string x.word, .string x.name, .slice base n c, .int .i64 x.pos] 52)) W) => (Blk4 (BX.keptN h (Nat.lt_succ_self _)).blk).2.2.1)
  have HQ0 := Lib.hid (sb_alloc (Below.refl w.heap.size w) (.cells #[.string x.word, .string x.name, .slice base n c, .int .i64 x.pos] 52))
  have hsz : (w.alloc (.cells #[.string x.word, .string x.name, .slice base n c, .int .i64 x.pos] 52)).heap.size = w.heap.size + 1 := World.size_alloc _ _
  clear BX
  go_enter Tryz.func52, Tryz.ntmps52
  go_wp2_with fail
  generalize w.alloc (.cells #[.string x.word, .string x.name, .slice base n c, .int .i64 x.pos] 52) = W1 at *
  go_loopw [6] (fun i wr => ∃ k : Nat, k ≤ n ∧ i = .int .i64 k ∧ Hid (getV key (x.keys.drop k) = R) ∧ Hid (Below (w.heap.size + 1) W1 wr)) (fun i _ => n - (intOf i).toNat)
  case atStart => exact ⟨0, Nat.zero_le _, rfl, HR0, Lib.hid (Below.refl _ _)⟩
  case round =>
    clear HR0
    obtain ⟨k, hk, rfl, hA, hwr⟩ := hrel
    have x2 := HBX.out _ hwr.out
    have h0 : Below w.heap.size w wr := HQ0.out.trans (hwr.out.mono (by omega))
    by_cases hkn : k < n
    · obtain rfl := HB.out (by omega)
      obtain ⟨y, hy, hyv⟩ := HX.out k hkn
      obtain ⟨ub, un, uc, hu⟩ := HK.out k y hy
      obtain ⟨c0, c1, hyr⟩ := hu _ h0
      obtain ⟨s1, s2⟩ := HC.out k y hA.out hy
      have hlt : b < wr.heap.size := Nat.lt_of_lt_of_le (HL.out (by omega)) h0.size
      have hkmi : (k : Int) < n := by omega
      have HD := beq_str_dec y.key key
      have HQ := Lib.hid h0
      have HYR := Lib.hid hyr
      clear hu hy hyr h0
      by_cases hxy : y.key = key
      · rw [decide_eq_true hxy] at HD
        have HV := Lib.hid (s1 hxy)
        clear s1 s2 hxy
        go_wp2_with (at_builtin; refine wpList_append_copyv rfl _ _ 33 rfl 3 i0 Tryz.underlying33 hi hz0 hz1 hz2 rfl _ y.vals rfl HYR.out hyv ?_)
        intro v6 w6 hov hb6
        have HO := Lib.hid hov.rd
        obtain ⟨vb, vc, rfl⟩ := row_form hov
        have HQ6 := Lib.hid (next HQ.out hb6)
        clear hov hb6
        go_wp2_with fail
        go_ret2
        exact ⟨_, by rw [HV.out]; rfl, by rw [HV.out]; exact HO.out, HQ6.out⟩
      · rw [decide_eq_false hxy] at HD
        have HV := Lib.hid (s2 hxy)
        clear s1 s2 hxy
        go_wp2_with fail
        go_roundw
        case rel => exact ⟨k + 1, by omega, by go_num, HV, hwr⟩
        case measure => simp [intOf]; omega
    · have hke : k = n := by omega
      subst hke
      have hV := HE.out k hA.out (Nat.le_refl _)
      subst hV
      have hkmi : ¬ (k : Int) < k := by omega
      have HQ := Lib.hid h0
      clear h0
      go_wp2_with fail
      go_ret2
      exact ⟨_, rfl, (OwnVs.nil 3 0 _).rd, HQ.out⟩
end Go.Proofs.YtdikoeeoglfmaaaGreatDoor

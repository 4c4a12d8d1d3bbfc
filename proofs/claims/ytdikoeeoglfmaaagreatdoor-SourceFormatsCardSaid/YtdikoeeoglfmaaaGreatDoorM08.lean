/-
  The reference's word at a place.
-/
import Derived.WalkLawsBesides
import Derived.Test.YtdikoeeoglfmaaaGreatDoorM07
namespace SC
open Go Go.RowKit PB
/-- Its memory: the result's variable. -/
structure OneIn (w wr : World) : Prop where
  blk : Blk wr w.heap.size #[.int .i64 0, .string ⟨#[]⟩, .int .i64 0, .int .i64 0]
  bel : Below w.heap.size w wr
end SC
namespace Go.Proofs.YtdikoeeoglfmaaaGreatDoor
open Go.RowKit SC PB
set_option maxHeartbeats 2000000 in
set_option maxRecDepth 100000 in
theorem one_semi_any (s : ByteArray) (a : Nat) (w : World) (hs : s.size ≤ 20000) (ha : a < s.size) (hb : s[a]'ha = 59) :
    Calls Tryz.prog 48 #[.string s, .int .i64 a] w fun e w' => e = .returned (oneV (s.data.toList.drop a) a) ∧ Below w.heap.size w w' := by
  have HR := Lib.hid (one_semi ha hb)
  have t1 : (((s[a]'ha).toNat : Int) == 59) = true := by rw [hb]; decide
  clear hb
  go_enter Tryz.func48, Tryz.ntmps48
  go_wp2_with fail
  refine bodyPost_ret (blk_res3 rfl _ rfl (blk_new rfl) Tryz.underlying103 rfl (by rfl)) rfl ?_
  exact ⟨by rw [HR.out]; rfl, (Below.refl _ w).alloc (Nat.le_refl _) _⟩
set_option maxHeartbeats 2000000 in
set_option maxRecDepth 100000 in
theorem one_name_any (s : ByteArray) (a : Nat) (w : World) (hs : s.size ≤ 20000) (ha : a < s.size) (hl : ltr (s[a]'ha) = true) :
    Calls Tryz.prog 48 #[.string s, .int .i64 a] w fun e w' => e = .returned (oneV (s.data.toList.drop a) a) ∧ Below w.heap.size w w' := by
  have t1 : (((s[a]'ha).toNat : Int) == 59) = false := nb (n := 59) (fun h => by rw [h] at hl; exact absurd hl (by decide)) (by decide)
  have HL0 := Lib.hid (fun w => rltr (s[a]'ha) w)
  rw [hl] at HL0
  have HL := Lib.hid (fun (k : Nat) (hk : k < s.size) w => rltr (s[k]'hk) w)
  have HD := Lib.hid (fun (k : Nat) (hk : k < s.size) w => rdgt (s[k]'hk) w)
  obtain ⟨y1, y2⟩ := nameLen_yes ha hl
  have HY := Lib.hid y2
  have H1 := Lib.hid (fun m hm => one_name (s := s) (a := a) (m := m) hm)
  have HS := Lib.hid (show NamAt s a a from ⟨Nat.le_refl _, by rw [y1]; omega⟩)
  clear hl y1 y2
  generalize hv : oneV (s.data.toList.drop a) a = V at *
  clear hv
  go_enter Tryz.func48, Tryz.ntmps48
  go_wp2_with fail
  refine (HL0.out _).mono ?_
  rintro e w1 ⟨rfl, rfl⟩
  go_wp2_with fail
  go_loop [8] (fun i => ∃ k : Nat, a ≤ k ∧ k ≤ s.size ∧ i = .int .i64 k ∧ Hid (NamAt s a k)) (fun i => s.size - (intOf i).toNat)
  case atStart => exact ⟨a, Nat.le_refl _, Nat.le_of_lt ha, rfl, HS⟩
  case round =>
    obtain ⟨k, hak, hk, rfl, hN⟩ := hrel
    by_cases hgo : ∃ hp : k < s.size, lod (s[k]'hp) = true
    · obtain ⟨hp, hlo⟩ := hgo
      have HG := Lib.hid (hN.out.next hp hlo)
      have hL := HL.out k hp
      have hD := HD.out k hp
      cases hlk : ltr (s[k]'hp) with
      | true =>
        rw [hlk] at hL
        have HLk := Lib.hid hL
        clear hlk hL hD hlo
        go_wp2_with fail
        refine (HLk.out _).mono ?_
        rintro e w2 ⟨rfl, rfl⟩
        go_wp2_with fail
        go_round
        case rel => exact ⟨k + 1, by omega, by omega, by go_num, HG⟩
        case measure => simp [intOf]; omega
      | false =>
        have hdk : dgt (s[k]'hp) = true := by unfold lod at hlo; rw [hlk] at hlo; exact hlo
        rw [hlk] at hL
        rw [hdk] at hD
        have HLk := Lib.hid hL
        have HDk := Lib.hid hD
        clear hlk hL hD hlo hdk
        go_wp2_with fail
        refine (HLk.out _).mono ?_
        rintro e w2 ⟨rfl, rfl⟩
        go_wp2_with fail
        refine (HDk.out _).mono ?_
        rintro e w2 ⟨rfl, rfl⟩
        go_wp2_with fail
        go_round
        case rel => exact ⟨k + 1, by omega, by omega, by go_num, HG⟩
        case measure => simp [intOf]; omega
    · have hno : ∀ hp : k < s.size, lod (s[k]'hp) = false := fun hp => Bool.eq_false_iff.2 fun h => hgo ⟨hp, h⟩
      have hm := hN.out.done hno
      have hm0 : k - a ≠ 0 := by rw [← hm]; exact HY.out
      have HV := Lib.hid (H1.out _ hm hm0)
      have e1 : a + (k - a) = k := by omega
      have e2 : (a : Int) + ((k - a : Nat) : Int) = k := by omega
      rw [e1, e2] at HV
      clear hm hgo e1 e2
      by_cases h12 : k - a ≤ 12
      · have b1 : ¬ 12 < (k : Int) - a := by omega
        rw [if_pos h12] at HV
        clear h12
        by_cases hp : k < s.size
        · have hL := HL.out k hp
          have hD := HD.out k hp
          have hlo := hno hp
          unfold lod at hlo
          rw [Bool.or_eq_false_iff] at hlo
          rw [hlo.1] at hL
          rw [hlo.2] at hD
          have HLk := Lib.hid hL
          have HDk := Lib.hid hD
          clear hL hD hlo hno
          go_wp2_with fail
          refine (HLk.out _).mono ?_
          rintro e w2 ⟨rfl, rfl⟩
          go_wp2_with fail
          refine (HDk.out _).mono ?_
          rintro e w2 ⟨rfl, rfl⟩
          go_wp2_with fail
          refine bodyPost_ret (blk_res3 rfl _ rfl (blk_new rfl) Tryz.underlying103 rfl (by rfl)) rfl ?_
          exact ⟨by rw [HV.out]; rfl, (Below.refl _ w).alloc (Nat.le_refl _) _⟩
        · clear hno
          go_wp2_with fail
          refine bodyPost_ret (blk_res3 rfl _ rfl (blk_new rfl) Tryz.underlying103 rfl (by rfl)) rfl ?_
          exact ⟨by rw [HV.out]; rfl, (Below.refl _ w).alloc (Nat.le_refl _) _⟩
      · have b1 : 12 < (k : Int) - a := by omega
        rw [if_neg h12] at HV
        clear h12
        by_cases hp : k < s.size
        · have hL := HL.out k hp
          have hD := HD.out k hp
          have hlo := hno hp
          unfold lod at hlo
          rw [Bool.or_eq_false_iff] at hlo
          rw [hlo.1] at hL
          rw [hlo.2] at hD
          have HLk := Lib.hid hL
          have HDk := Lib.hid hD
          clear hL hD hlo hno
          go_wp2_with fail
          refine (HLk.out _).mono ?_
          rintro e w2 ⟨rfl, rfl⟩
          go_wp2_with fail
          refine (HDk.out _).mono ?_
          rintro e w2 ⟨rfl, rfl⟩
          go_wp2_with fail
          refine bodyPost_ret (blk_res3 rfl _ rfl (blk_new rfl) Tryz.underlying103 rfl (by rfl)) rfl ?_
          exact ⟨by rw [HV.out]; rfl, (Below.refl _ w).alloc (Nat.le_refl _) _⟩
        · clear hno
          go_wp2_with fail
          refine bodyPost_ret (blk_res3 rfl _ rfl (blk_new rfl) Tryz.underlying103 rfl (by rfl)) rfl ?_
          exact ⟨by rw [HV.out]; rfl, (Below.refl _ w).alloc (Nat.le_refl _) _⟩
set_option maxHeartbeats 4000000 in
set_option maxRecDepth 100000 in
theorem one_num_minus (s : ByteArray) (a : Nat) (w : World) (hs : s.size ≤ 20000) (ha : a < s.size) (hl : ltr (s[a]'ha) = false) (h59 : s[a]'ha ≠ 59) (h45 : s[a]'ha = 45) :
    Calls Tryz.prog 48 #[.string s, .int .i64 a] w fun e w' => e = .returned (oneV (s.data.toList.drop a) a) ∧ Below w.heap.size w w' := by
  have t1 : (((s[a]'ha).toNat : Int) == 59) = false := nb (n := 59) h59 (by decide)
  have t2 : (((s[a]'ha).toNat : Int) == 45) = true := by rw [h45]; decide
  obtain ⟨hd, hsg⟩ := (digs_at ha).1 h45
  have HL0 := Lib.hid (fun w => rltr (s[a]'ha) w)
  rw [hl] at HL0
  have HL := Lib.hid (fun (k : Nat) (hk : k < s.size) w => rltr (s[k]'hk) w)
  have HD := Lib.hid (fun (k : Nat) (hk : k < s.size) w => rdgt (s[k]'hk) w)
  have HNone := Lib.hid (fun h => one_none ha hl h59 hd h)
  have HNum := Lib.hid (fun m hm h0 => one_num (m := m) (neg := true) ha hl hd (by rw [hsg]; omega) (by omega) (by rw [h45]; rfl) hm h0)
  generalize hv : oneV (s.data.toList.drop a) a = V at *
  clear hv hl h59 h45 hd hsg
  by_cases hfirst : ∃ hp : a + 1 < s.size, dgt (s[a + 1]'hp) = true
  · obtain ⟨hp0, hd0⟩ := hfirst
    have HD0 := Lib.hid (HD.out (a + 1) hp0)
    rw [hd0] at HD0
    have H0 := Lib.hid hd0
    have b0 : ((((a : Int) + 1 : Int)) == (s.size : Int)) = false := beq_eq_false_iff_ne.2 (by omega)
    clear hd0 HNone
    go_enter Tryz.func48, Tryz.ntmps48
    go_wp2_with fail
    refine (HL0.out _).mono ?_
    rintro e w1 ⟨rfl, rfl⟩
    go_wp2_with fail
    refine (HD0.out _).mono ?_
    rintro e w1 ⟨rfl, rfl⟩
    go_wp2_with fail
    go_loop [8, 9] (fun i n => ∃ k : Nat, a + 1 ≤ k ∧ k ≤ s.size ∧ i = .int .i64 k ∧ n = .int .i64 ((min (valAt s (a + 1) k) 1073741825 : Nat) : Int) ∧ Hid (NumAt s (a + 1) k)) (fun i _ => s.size - (intOf i).toNat)
    case atStart => exact ⟨a + 1, Nat.le_refl _, by omega, by first | rfl | go_num, by rw [valAt_start]; rfl, Lib.hid (NumAt.start _ _)⟩
    case round =>
      obtain ⟨k, hik, hk, rfl, rfl, hN⟩ := hrel
      by_cases hgo : ∃ hp : k < s.size, dgt (s[k]'hp) = true
      · obtain ⟨hp, hdk⟩ := hgo
        have HG := Lib.hid (hN.out.next hp hdk)
        have hv := valAt_next hik hp
        have HDk := Lib.hid (HD.out k hp)
        rw [hdk] at HDk
        have hb1 : (48 : Int) ≤ ((s[k]'hp).toNat : Int) := by unfold dgt at hdk; simp at hdk; omega
        have hb2 : ((s[k]'hp).toNat : Int) ≤ 57 := by unfold dgt at hdk; simp at hdk; omega
        generalize hx : min (valAt s (a + 1) k) 1073741825 = x at *
        have HX := Lib.hid (show ((min (valAt s (a + 1) (k + 1)) 1073741825 : Nat) : Int) = min (10 * (x : Int) + (((s[k]'hp).toNat : Int) - 48)) 1073741825 by rw [hv]; omega)
        have b1 : (0 : Int) ≤ x := by omega
        have b2 : (x : Int) ≤ 1073741825 := by omega
        clear hdk hv hx
        go_wp2_with fail
        refine (HDk.out _).mono ?_
        rintro e w2 ⟨rfl, rfl⟩
        go_wp2_with fail
        go_round
        case rel => exact ⟨k + 1, by omega, by omega, by go_num, by rw [HX.out], HG⟩
        case measure => simp [intOf]; omega
      · have hno : ∀ hp : k < s.size, dgt (s[k]'hp) = false := fun hp => Bool.eq_false_iff.2 fun h => hgo ⟨hp, h⟩
        have hm := hN.out.done hno
        have hm0 : k - (a + 1) ≠ 0 := by rw [← hm, sp_next hp0 H0.out]; omega
        have hV : V = if valAt s (a + 1) k ≤ 1073741824 then (if nameLen (s.data.toList.drop (a + 1 + (k - (a + 1)))) ≠ 0 then _ else _) else _ := HNum.out _ hm hm0
        have e1 : a + 1 + (k - (a + 1)) = k := by omega
        have e2 : ((a + 1 : Nat) : Int) + ((k - (a + 1) : Nat) : Int) = k := by omega
        rw [e1, e2] at hV
        change V = if valAt s (a + 1) k ≤ 1073741824 then (if nameLen (s.data.toList.drop k) ≠ 0 then .tuple #[wordV 0 ⟨#[]⟩ 0 0, .int .i64 0, .int .i64 4, .int .i64 (k : Int)] else .tuple #[wordV 2 (s.extract a k) (if true then -(valAt s (a + 1) k : Int) else (valAt s (a + 1) k : Int)) a, .int .i64 (k : Int), .int .i64 0, .int .i64 0]) else .tuple #[wordV 0 ⟨#[]⟩ 0 0, .int .i64 0, .int .i64 5, .int .i64 a] at hV
        clear hm hgo e1 e2 hm0
        generalize valAt s (a + 1) k = x at *
        have hak : a ≤ k := by omega
        by_cases hc : x ≤ 1073741824
        · rw [show min x 1073741825 = x by omega]
          rw [if_pos hc] at hV
          have b1 : (0 : Int) ≤ x := by omega
          have b2 : (x : Int) ≤ 1073741824 := by omega
          clear hc
          by_cases hp : k < s.size
          · have hD := HD.out k hp
            rw [hno hp] at hD
            have HDk := Lib.hid hD
            have hL := HL.out k hp
            cases hlk : ltr (s[k]'hp) with
            | true =>
              rw [hlk] at hL
              rw [if_pos (nameLen_yes hp hlk).2] at hV
              have HLk := Lib.hid hL
              have HV := Lib.hid hV
              clear hL hD hno hlk hV
              go_wp2_with fail
              refine (HDk.out _).mono ?_
              rintro e w2 ⟨rfl, rfl⟩
              go_wp2_with fail
              refine (HLk.out _).mono ?_
              rintro e w2 ⟨rfl, rfl⟩
              go_wp2_with fail
              refine bodyPost_ret (blk_res3 rfl _ rfl (blk_new rfl) Tryz.underlying103 rfl (by rfl)) rfl ?_
              exact ⟨by rw [HV.out]; rfl, (Below.refl _ w).alloc (Nat.le_refl _) _⟩
            | false =>
              rw [hlk] at hL
              rw [if_neg (fun h => h (nameLen_no hp hlk))] at hV
              have HLk := Lib.hid hL
              have HV := Lib.hid hV
              clear hL hD hno hlk hV
              go_wp2_with fail
              refine (HDk.out _).mono ?_
              rintro e w2 ⟨rfl, rfl⟩
              go_wp2_with fail
              refine (HLk.out _).mono ?_
              rintro e w2 ⟨rfl, rfl⟩
              go_wp2_with fail
              refine bodyPost_ret (blk_res3 rfl _ rfl (blk_new rfl) Tryz.underlying103 rfl (by rfl)) rfl ?_
              exact ⟨by rw [HV.out]; rfl, (Below.refl _ w).alloc (Nat.le_refl _) _⟩
          · rw [if_neg (fun h => h (nameLen_none hp))] at hV
            have HV := Lib.hid hV
            clear hno hV
            go_wp2_with fail
            refine bodyPost_ret (blk_res3 rfl _ rfl (blk_new rfl) Tryz.underlying103 rfl (by rfl)) rfl ?_
            exact ⟨by rw [HV.out]; rfl, (Below.refl _ w).alloc (Nat.le_refl _) _⟩
        · rw [show min x 1073741825 = 1073741825 by omega]
          rw [if_neg hc] at hV
          have HV := Lib.hid hV
          clear hc hV
          by_cases hp : k < s.size
          · have hD := HD.out k hp
            rw [hno hp] at hD
            have HDk := Lib.hid hD
            clear hD hno
            go_wp2_with fail
            refine (HDk.out _).mono ?_
            rintro e w2 ⟨rfl, rfl⟩
            go_wp2_with fail
            refine bodyPost_ret (blk_res3 rfl _ rfl (blk_new rfl) Tryz.underlying103 rfl (by rfl)) rfl ?_
            exact ⟨by rw [HV.out]; rfl, (Below.refl _ w).alloc (Nat.le_refl _) _⟩
          · clear hno
            go_wp2_with fail
            refine bodyPost_ret (blk_res3 rfl _ rfl (blk_new rfl) Tryz.underlying103 rfl (by rfl)) rfl ?_
            exact ⟨by rw [HV.out]; rfl, (Below.refl _ w).alloc (Nat.le_refl _) _⟩
  · have HV := Lib.hid (HNone.out (by
      by_cases hp : a + 1 < s.size
      · exact sp_stop hp (Bool.eq_false_iff.2 fun h => hfirst ⟨hp, h⟩)
      · exact sp_end hp))
    by_cases hp : a + 1 < s.size
    · have hD := HD.out (a + 1) hp
      rw [show dgt (s[a + 1]'hp) = false from Bool.eq_false_iff.2 fun h => hfirst ⟨hp, h⟩] at hD
      have HDk := Lib.hid hD
      have b0 : ((((a : Int) + 1 : Int)) == (s.size : Int)) = false := beq_eq_false_iff_ne.2 (by omega)
      clear hD hfirst
      go_enter Tryz.func48, Tryz.ntmps48
      go_wp2_with fail
      refine (HL0.out _).mono ?_
      rintro e w1 ⟨rfl, rfl⟩
      go_wp2_with fail
      refine (HDk.out _).mono ?_
      rintro e w1 ⟨rfl, rfl⟩
      go_wp2_with fail
      refine bodyPost_ret (blk_res3 rfl _ rfl (blk_new rfl) Tryz.underlying103 rfl (by rfl)) rfl ?_
      exact ⟨by rw [HV.out]; rfl, (Below.refl _ w).alloc (Nat.le_refl _) _⟩
    · have b0 : ((((a : Int) + 1 : Int)) == (s.size : Int)) = true := beq_iff_eq.2 (by omega)
      clear hfirst
      go_enter Tryz.func48, Tryz.ntmps48
      go_wp2_with fail
      refine (HL0.out _).mono ?_
      rintro e w1 ⟨rfl, rfl⟩
      go_wp2_with fail
      refine bodyPost_ret (blk_res3 rfl _ rfl (blk_new rfl) Tryz.underlying103 rfl (by rfl)) rfl ?_
      exact ⟨by rw [HV.out]; rfl, (Below.refl _ w).alloc (Nat.le_refl _) _⟩
set_option maxHeartbeats 4000000 in
set_option maxRecDepth 100000 in
theorem one_num_plain (s : ByteArray) (a : Nat) (w : World) (hs : s.size ≤ 20000) (ha : a < s.size) (hl : ltr (s[a]'ha) = false) (h59 : s[a]'ha ≠ 59) (h45 : s[a]'ha ≠ 45) :
    Calls Tryz.prog 48 #[.string s, .int .i64 a] w fun e w' => e = .returned (oneV (s.data.toList.drop a) a) ∧ Below w.heap.size w w' := by
  have t1 : (((s[a]'ha).toNat : Int) == 59) = false := nb (n := 59) h59 (by decide)
  have t2 : (((s[a]'ha).toNat : Int) == 45) = false := nb (n := 45) h45 (by decide)
  obtain ⟨hd, hsg⟩ := (digs_at ha).2 h45
  have HL0 := Lib.hid (fun w => rltr (s[a]'ha) w)
  rw [hl] at HL0
  have HL := Lib.hid (fun (k : Nat) (hk : k < s.size) w => rltr (s[k]'hk) w)
  have HD := Lib.hid (fun (k : Nat) (hk : k < s.size) w => rdgt (s[k]'hk) w)
  have HNone := Lib.hid (fun h => one_none ha hl h59 hd h)
  have HNum := Lib.hid (fun m hm h0 => one_num (m := m) (neg := false) ha hl hd (by rw [hsg]; omega) (by omega) (by rw [decide_eq_false h45]) hm h0)
  generalize hv : oneV (s.data.toList.drop a) a = V at *
  clear hv hl h59 h45 hd hsg
  by_cases hfirst : ∃ hp : a < s.size, dgt (s[a]'hp) = true
  · obtain ⟨hp0, hd0⟩ := hfirst
    have HD0 := Lib.hid (HD.out (a) hp0)
    rw [hd0] at HD0
    have H0 := Lib.hid hd0
    have b0 : ((((a : Int) : Int)) == (s.size : Int)) = false := beq_eq_false_iff_ne.2 (by omega)
    clear hd0 HNone
    go_enter Tryz.func48, Tryz.ntmps48
    go_wp2_with fail
    refine (HL0.out _).mono ?_
    rintro e w1 ⟨rfl, rfl⟩
    go_wp2_with fail
    refine (HD0.out _).mono ?_
    rintro e w1 ⟨rfl, rfl⟩
    go_wp2_with fail
    go_loop [8, 9] (fun i n => ∃ k : Nat, a ≤ k ∧ k ≤ s.size ∧ i = .int .i64 k ∧ n = .int .i64 ((min (valAt s (a) k) 1073741825 : Nat) : Int) ∧ Hid (NumAt s (a) k)) (fun i _ => s.size - (intOf i).toNat)
    case atStart => exact ⟨a, Nat.le_refl _, by omega, by first | rfl | go_num, by rw [valAt_start]; rfl, Lib.hid (NumAt.start _ _)⟩
    case round =>
      obtain ⟨k, hik, hk, rfl, rfl, hN⟩ := hrel
      by_cases hgo : ∃ hp : k < s.size, dgt (s[k]'hp) = true
      · obtain ⟨hp, hdk⟩ := hgo
        have HG := Lib.hid (hN.out.next hp hdk)
        have hv := valAt_next hik hp
        have HDk := Lib.hid (HD.out k hp)
        rw [hdk] at HDk
        have hb1 : (48 : Int) ≤ ((s[k]'hp).toNat : Int) := by unfold dgt at hdk; simp at hdk; omega
        have hb2 : ((s[k]'hp).toNat : Int) ≤ 57 := by unfold dgt at hdk; simp at hdk; omega
        generalize hx : min (valAt s (a) k) 1073741825 = x at *
        have HX := Lib.hid (show ((min (valAt s (a) (k + 1)) 1073741825 : Nat) : Int) = min (10 * (x : Int) + (((s[k]'hp).toNat : Int) - 48)) 1073741825 by rw [hv]; omega)
        have b1 : (0 : Int) ≤ x := by omega
        have b2 : (x : Int) ≤ 1073741825 := by omega
        clear hdk hv hx
        go_wp2_with fail
        refine (HDk.out _).mono ?_
        rintro e w2 ⟨rfl, rfl⟩
        go_wp2_with fail
        go_round
        case rel => exact ⟨k + 1, by omega, by omega, by go_num, by rw [HX.out], HG⟩
        case measure => simp [intOf]; omega
      · have hno : ∀ hp : k < s.size, dgt (s[k]'hp) = false := fun hp => Bool.eq_false_iff.2 fun h => hgo ⟨hp, h⟩
        have hm := hN.out.done hno
        have hm0 : k - (a) ≠ 0 := by rw [← hm, sp_next hp0 H0.out]; omega
        have hV : V = if valAt s (a) k ≤ 1073741824 then (if nameLen (s.data.toList.drop (a + (k - (a)))) ≠ 0 then _ else _) else _ := HNum.out _ hm hm0
        have e1 : a + (k - (a)) = k := by omega
        have e2 : ((a : Nat) : Int) + ((k - (a) : Nat) : Int) = k := by omega
        rw [e1, e2] at hV
        change V = if valAt s (a) k ≤ 1073741824 then (if nameLen (s.data.toList.drop k) ≠ 0 then .tuple #[wordV 0 ⟨#[]⟩ 0 0, .int .i64 0, .int .i64 4, .int .i64 (k : Int)] else .tuple #[wordV 2 (s.extract a k) (if false then -(valAt s (a) k : Int) else (valAt s (a) k : Int)) a, .int .i64 (k : Int), .int .i64 0, .int .i64 0]) else .tuple #[wordV 0 ⟨#[]⟩ 0 0, .int .i64 0, .int .i64 5, .int .i64 a] at hV
        clear hm hgo e1 e2 hm0
        generalize valAt s (a) k = x at *
        have hak : a ≤ k := by omega
        by_cases hc : x ≤ 1073741824
        · rw [show min x 1073741825 = x by omega]
          rw [if_pos hc] at hV
          have b1 : (0 : Int) ≤ x := by omega
          have b2 : (x : Int) ≤ 1073741824 := by omega
          clear hc
          by_cases hp : k < s.size
          · have hD := HD.out k hp
            rw [hno hp] at hD
            have HDk := Lib.hid hD
            have hL := HL.out k hp
            cases hlk : ltr (s[k]'hp) with
            | true =>
              rw [hlk] at hL
              rw [if_pos (nameLen_yes hp hlk).2] at hV
              have HLk := Lib.hid hL
              have HV := Lib.hid hV
              clear hL hD hno hlk hV
              go_wp2_with fail
              refine (HDk.out _).mono ?_
              rintro e w2 ⟨rfl, rfl⟩
              go_wp2_with fail
              refine (HLk.out _).mono ?_
              rintro e w2 ⟨rfl, rfl⟩
              go_wp2_with fail
              refine bodyPost_ret (blk_res3 rfl _ rfl (blk_new rfl) Tryz.underlying103 rfl (by rfl)) rfl ?_
              exact ⟨by rw [HV.out]; rfl, (Below.refl _ w).alloc (Nat.le_refl _) _⟩
            | false =>
              rw [hlk] at hL
              rw [if_neg (fun h => h (nameLen_no hp hlk))] at hV
              have HLk := Lib.hid hL
              have HV := Lib.hid hV
              clear hL hD hno hlk hV
              go_wp2_with fail
              refine (HDk.out _).mono ?_
              rintro e w2 ⟨rfl, rfl⟩
              go_wp2_with fail
              refine (HLk.out _).mono ?_
              rintro e w2 ⟨rfl, rfl⟩
              go_wp2_with fail
              refine bodyPost_ret (blk_res3 rfl _ rfl (blk_new rfl) Tryz.underlying103 rfl (by rfl)) rfl ?_
              exact ⟨by rw [HV.out]; rfl, (Below.refl _ w).alloc (Nat.le_refl _) _⟩
          · rw [if_neg (fun h => h (nameLen_none hp))] at hV
            have HV := Lib.hid hV
            clear hno hV
            go_wp2_with fail
            refine bodyPost_ret (blk_res3 rfl _ rfl (blk_new rfl) Tryz.underlying103 rfl (by rfl)) rfl ?_
            exact ⟨by rw [HV.out]; rfl, (Below.refl _ w).alloc (Nat.le_refl _) _⟩
        · rw [show min x 1073741825 = 1073741825 by omega]
          rw [if_neg hc] at hV
          have HV := Lib.hid hV
          clear hc hV
          by_cases hp : k < s.size
          · have hD := HD.out k hp
            rw [hno hp] at hD
            have HDk := Lib.hid hD
            clear hD hno
            go_wp2_with fail
            refine (HDk.out _).mono ?_
            rintro e w2 ⟨rfl, rfl⟩
            go_wp2_with fail
            refine bodyPost_ret (blk_res3 rfl _ rfl (blk_new rfl) Tryz.underlying103 rfl (by rfl)) rfl ?_
            exact ⟨by rw [HV.out]; rfl, (Below.refl _ w).alloc (Nat.le_refl _) _⟩
          · clear hno
            go_wp2_with fail
            refine bodyPost_ret (blk_res3 rfl _ rfl (blk_new rfl) Tryz.underlying103 rfl (by rfl)) rfl ?_
            exact ⟨by rw [HV.out]; rfl, (Below.refl _ w).alloc (Nat.le_refl _) _⟩
  · have HV := Lib.hid (HNone.out (by
      by_cases hp : a < s.size
      · exact sp_stop hp (Bool.eq_false_iff.2 fun h => hfirst ⟨hp, h⟩)
      · exact sp_end hp))
    by_cases hp : a < s.size
    · have hD := HD.out (a) hp
      rw [show dgt (s[a]'hp) = false from Bool.eq_false_iff.2 fun h => hfirst ⟨hp, h⟩] at hD
      have HDk := Lib.hid hD
      have b0 : ((((a : Int) : Int)) == (s.size : Int)) = false := beq_eq_false_iff_ne.2 (by omega)
      clear hD hfirst
      go_enter Tryz.func48, Tryz.ntmps48
      go_wp2_with fail
      refine (HL0.out _).mono ?_
      rintro e w1 ⟨rfl, rfl⟩
      go_wp2_with fail
      refine (HDk.out _).mono ?_
      rintro e w1 ⟨rfl, rfl⟩
      go_wp2_with fail
      refine bodyPost_ret (blk_res3 rfl _ rfl (blk_new rfl) Tryz.underlying103 rfl (by rfl)) rfl ?_
      exact ⟨by rw [HV.out]; rfl, (Below.refl _ w).alloc (Nat.le_refl _) _⟩
    · exact absurd ha hp
set_option maxRecDepth 100000 in
theorem one_any (s : ByteArray) (a : Nat) (w : World) (hs : s.size ≤ 20000) (ha : a < s.size) :
    Calls Tryz.prog 48 #[.string s, .int .i64 a] w fun e w' => e = .returned (oneV (s.data.toList.drop a) a) ∧ Below w.heap.size w w' := by
  by_cases h59 : s[a]'ha = 59
  · exact one_semi_any s a w hs ha h59
  · cases hl : ltr (s[a]'ha) with
    | true => exact one_name_any s a w hs ha hl
    | false =>
      by_cases h45 : s[a]'ha = 45
      · exact one_num_minus s a w hs ha hl h59 h45
      · exact one_num_plain s a w hs ha hl h59 h45
end Go.Proofs.YtdikoeeoglfmaaaGreatDoor

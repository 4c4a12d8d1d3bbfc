/-
  integer.Parse at any text.
-/
import Derived.Test.YteggfjahjanabaaRefT
namespace PB
open Go Go.RowKit
/-- What is behind a minus sign, and whether there is one. -/
def tl (s : ByteArray) : ByteArray := if 0 < s.size ∧ byte s 0 = 45 then s.extract 1 s.size else s
def ng (s : ByteArray) : Bool := decide (0 < s.size ∧ byte s 0 = 45)
/-- s is a text of digits, perhaps behind a minus sign. -/
def pok (s : ByteArray) : Prop := AllDigits (tl s) ∧ 0 < (tl s).size
theorem tl_le (s : ByteArray) : (tl s).size ≤ s.size := by
  unfold tl
  split
  · rw [ByteArray.size_extract]; omega
  · exact Nat.le_refl _
theorem tl_lt (s : ByteArray) : decide ((tl s).size < s.size) = ng s := by
  unfold tl ng
  by_cases h : 0 < s.size ∧ byte s 0 = 45
  · rw [if_pos h, decide_eq_true h, ByteArray.size_extract]
    exact decide_eq_true (by omega)
  · rw [if_neg h, decide_eq_false h]
    exact decide_eq_false (by omega)
open Classical in
/-- The number and the error of a text. -/
noncomputable def pz (s : ByteArray) : Int := if pok s ∧ s.size ≤ 3000 ∧ ¬ 256 < nl (dv (tl s) (tl s).size) then sg (ng s) (dv (tl s) (tl s).size) else 0
open Classical in
noncomputable def pe (s : ByteArray) : Int := if pok s then if s.size ≤ 3000 ∧ ¬ 256 < nl (dv (tl s) (tl s).size) then 0 else 2 else 4
theorem empty_toList {s : ByteArray} (h : s.size = 0) : s.toList.isEmpty = true := by
  rw [Lib.toList_data]
  have h4 := Lib.size_eq s
  cases h2 : s.data.toList with
  | nil => rfl
  | cons a l => rw [h2] at h4; simp at h4; omega
end PB
namespace Go.Proofs.Yteggfjahjanabaa
open Go.RowKit PB

set_option maxHeartbeats 1600000 in
theorem cut_empty (s : ByteArray) (w : World) (h0 : s.size = 0) :
    Calls Try.prog 71 #[.string s, .string ⟨#[45]⟩] w fun e w' => e = .returned (.tuple #[.string s, .bool false]) ∧ w = w' := by
  go_enter Try.func71, Try.ntmps71
  go_wp2
  go_ret2
  exact ⟨rfl, rfl⟩
theorem cutp_any (s : ByteArray) (w : World) :
    Calls Try.prog 71 #[.string s, .string ⟨#[45]⟩] w fun e w' => e = .returned (.tuple #[.string (tl s), .bool (ng s)]) ∧ w = w' := by
  by_cases h0 : s.size = 0
  · have h := cut_empty s w h0
    rwa [show tl s = s by unfold tl; rw [if_neg (by omega)], show ng s = false by unfold ng; exact decide_eq_false (by omega)]
  · by_cases h1 : byte s 0 = 45
    · have h := cut_minus s w (by omega) h1
      rwa [show tl s = s.extract 1 s.size by unfold tl; rw [if_pos ⟨by omega, h1⟩], show ng s = true by unfold ng; exact decide_eq_true ⟨by omega, h1⟩]
    · have h := cut_none s w (by omega) h1
      rwa [show tl s = s by unfold tl; rw [if_neg (fun h => h1 h.2)], show ng s = false by unfold ng; exact decide_eq_false (fun h => h1 h.2)]

set_option maxHeartbeats 1600000 in
set_option maxRecDepth 100000 in
theorem decimal_no (s : ByteArray) (w : World) (hd : ¬ (AllDigits s ∧ 0 < s.size)) (hs : s.size ≤ 1000000000) :
    Calls Try.prog 72 #[.string s] w fun e w' => e = .returned (.bool false) ∧ w = w' := by
  have HD := Lib.hid hd
  clear hd
  go_enter Try.func72, Try.ntmps72
  go_wp2_with fail
  go_loop [6] (fun i => ∃ k : Nat, k ≤ s.size ∧ Hid (∀ j, j < k → 48 ≤ byte s j ∧ byte s j ≤ 57) ∧ i = .int .i64 k) (fun i => s.size - (intOf i).toNat)
  case atStart => exact ⟨0, by omega, Lib.hid (fun j h => by omega), rfl⟩
  case round =>
    obtain ⟨k, hk, hall, rfl⟩ := hrel
    by_cases hlt : k < s.size
    · have hbe := byte_eq hlt
      obtain ⟨d, hd⟩ : ∃ d, byte s k = d := ⟨_, rfl⟩
      rw [hd] at hbe
      have HBE := Lib.hid hbe
      have HDD := Lib.hid hd
      clear hd
      by_cases h1 : d < 48
      · have t1 : (s[k].toNat : Int) < 48 := by omega
        clear hbe
        go_wp2_with fail
        go_ret
        exact ⟨rfl, rfl⟩
      · by_cases h2 : 57 < d
        · have t1 : ¬ ((s[k].toNat : Int) < 48) := by omega
          have t2 : (57 : Int) < s[k].toNat := by omega
          clear hbe
          go_wp2_with fail
          go_ret
          exact ⟨rfl, rfl⟩
        · have t1 : ¬ ((s[k].toNat : Int) < 48) := by omega
          have t2 : ¬ ((57 : Int) < s[k].toNat) := by omega
          have HA2 := Lib.hid (show ∀ j, j < k + 1 → 48 ≤ byte s j ∧ byte s j ≤ 57 from fun j hj => by
            by_cases e : j = k
            · rw [e, HDD.out]; omega
            · exact hall.out j (by omega))
          clear hbe
          go_wp2_with fail
          go_round
          case rel => exact ⟨k + 1, by omega, HA2, by go_num⟩
          case measure => simp [intOf]; omega
    · have h0 : s.size = 0 := by
        apply Classical.byContradiction
        intro h
        exact HD.out ⟨fun j hj => hall.out j (by omega), by omega⟩
      have h1 := empty_toList h0
      have H1 := Lib.hid h1
      clear h0 h1
      go_wp2_with fail
      go_ret
      refine ⟨?_, rfl⟩
      show Ending.returned (.bool (!s.toList.isEmpty)) = _
      rw [H1.out]; rfl

set_option maxHeartbeats 1600000 in
set_option maxRecDepth 100000 in
theorem parse_syntax (s : ByteArray) (w : World) (hp : ¬ pok s) (hs : s.size ≤ 1000000000) :
    Calls Try.prog 38 #[.string s] w (RetIntE w 0 4) := by
  have hts := tl_le s
  have HP := Lib.hid (fun W => decimal_no (tl s) W hp (by omega))
  clear hp
  go_enter Try.func38, Try.ntmps38
  go_wp2_with (first
    | (go_at_call 71; refine (cutp_any s _).mono ?_; rintro e w' ⟨rfl, rfl⟩)
    | (go_at_call 72; refine (HP.out _).mono ?_; rintro e w' ⟨rfl, rfl⟩))
  exact bodyPost_ret (v := .tuple #[.agg #[.bool false, .slice none 0 0], .int .i64 4]) (by simp [results, Try.results38, go_sem]) rfl ⟨_, rfl, can_zero _ _, bs_alloc (Below.refl _ _) _⟩

set_option maxHeartbeats 1600000 in
set_option maxRecDepth 100000 in
theorem parse_long (s : ByteArray) (w : World) (hp : pok s) (hs : s.size ≤ 1000000000) (hl : 3000 < s.size) :
    Calls Try.prog 38 #[.string s] w (RetIntE w 0 2) := by
  have hts := tl_le s
  have HP := Lib.hid (fun W => decimal_yes (tl s) W hp.1 hp.2 (by omega))
  have hs' : decide ((3000 : Int) < s.size) = true := decide_eq_true (by omega)
  clear hp
  go_enter Try.func38, Try.ntmps38
  go_wp2_with (first
    | (go_at_call 71; refine (cutp_any s _).mono ?_; rintro e w' ⟨rfl, rfl⟩)
    | (go_at_call 72; refine (HP.out _).mono ?_; rintro e w' ⟨rfl, rfl⟩))
  exact bodyPost_ret (v := .tuple #[.agg #[.bool false, .slice none 0 0], .int .i64 2]) (by simp [results, Try.results38, go_sem]) rfl ⟨_, rfl, can_zero _ _, bs_alloc (Below.refl _ _) _⟩
/-- integer.Parse, at any text. -/
theorem parse_any (s : ByteArray) (w : World) (hs : s.size ≤ 1000000000) :
    Calls Try.prog 38 #[.string s] w (RetIntE w (pz s) (pe s)) := by
  by_cases hp : pok s
  · by_cases hl : 3000 < s.size
    · have e1 : pz s = 0 := by unfold pz; exact if_neg (fun h => by have := h.2.1; omega)
      have e2 : pe s = 2 := by unfold pe; rw [if_pos hp, if_neg (fun h => by have := h.1; omega)]
      rw [e1, e2]
      exact parse_long s w hp hs hl
    · have h := parse_digits s (tl s) (ng s) w (cutp_any s) hp.1 hp.2 (by omega) (tl_le s)
      by_cases hb : 256 < nl (dv (tl s) (tl s).size)
      · have e1 : pz s = 0 := by unfold pz; exact if_neg (fun h => h.2.2 hb)
        have e2 : pe s = 2 := by unfold pe; rw [if_pos hp, if_neg (fun h => h.2 hb)]
        rw [if_pos hb, if_pos hb] at h
        rwa [e1, e2]
      · have e1 : pz s = sg (ng s) (dv (tl s) (tl s).size) := by unfold pz; exact if_pos ⟨hp, by omega, hb⟩
        have e2 : pe s = 0 := by unfold pe; rw [if_pos hp, if_pos ⟨by omega, hb⟩]
        rw [if_neg hb, if_neg hb] at h
        rwa [e1, e2]
  · have e1 : pz s = 0 := by unfold pz; exact if_neg (fun h => hp h.1)
    have e2 : pe s = 4 := by unfold pe; rw [if_neg hp]
    rw [e1, e2]
    exact parse_syntax s w hp hs
end Go.Proofs.Yteggfjahjanabaa

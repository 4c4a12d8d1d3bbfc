/-
  integer.Parse of digits.
  integer.Gcd, where one of the numbers has at most one limb: the call itself.
-/
import Derived.WalkLawsBesides
import Derived.WalkSpells
import Derived.Lib.IndexBytes
import Derived.Test.YtdgfmkideghhaaaM24
import Derived.Test.YtdgfmkideghhaaaM25
namespace PB
/-- Byte k of a text. -/
def byte (s : ByteArray) (k : Nat) : Nat := if h : k < s.size then (s[k]).toNat else 0
/-- The number that the first k digits are. -/
def dv (s : ByteArray) : Nat → Nat
  | 0 => 0
  | k + 1 => dv s k * 10 + (byte s k - 48)
def AllDigits (s : ByteArray) : Prop := ∀ k, k < s.size → 48 ≤ byte s k ∧ byte s k ≤ 57
open Go in
theorem nonempty_toList {s : ByteArray} (h : 0 < s.size) : s.toList.isEmpty = false := by
  rw [Lib.toList_data]
  cases h2 : s.data.toList with
  | nil =>
    have h3 : s.data.toList.length = 0 := by rw [h2]; rfl
    have h4 := Lib.size_eq s
    omega
  | cons a l => rfl
theorem byte_eq {s : ByteArray} {k : Nat} (h : k < s.size) : (s[k]).toNat = byte s k := by unfold byte; rw [dif_pos h]
open Go in
theorem first_byte {s : ByteArray} (h : 0 < s.size) : ∃ l, s.data.toList = s[0] :: l := by
  have h1 := Lib.data_getElem? s 0 h
  cases h2 : s.data.toList with
  | nil => rw [h2] at h1; simp at h1
  | cons a l => rw [h2] at h1; simp at h1; exact ⟨l, by rw [h1]⟩
open Go in
theorem prefix_no {s : ByteArray} (h : 0 < s.size) (hb : byte s 0 ≠ 45) : ((s.extract 0 1).toList == [45]) = false := by
  obtain ⟨l, hl⟩ := first_byte h
  rw [Lib.extract_toList, hl]
  simp only [List.drop_zero, Nat.sub_zero, List.take_succ_cons, List.take_zero]
  rw [← byte_eq h] at hb
  cases h3 : ([s[0]] == [(45 : UInt8)]) with
  | false => rfl
  | true =>
    have := LawfulBEq.eq_of_beq h3
    simp at this
    rw [this] at hb
    exact absurd rfl hb
open Go in
theorem prefix_yes {s : ByteArray} (h : 0 < s.size) (hb : byte s 0 = 45) : ((s.extract 0 1).toList == [45]) = true := by
  obtain ⟨l, hl⟩ := first_byte h
  rw [Lib.extract_toList, hl]
  simp only [List.drop_zero, Nat.sub_zero, List.take_succ_cons, List.take_zero]
  rw [← byte_eq h] at hb
  have : s[0] = 45 := UInt8.toNat_inj.1 hb
  rw [this]; rfl
end PB
namespace Go.Proofs.Ytdgfmkideghhaaa
open Go.RowKit PB

set_option maxHeartbeats 1600000 in
set_option maxRecDepth 100000 in
theorem decimal_yes (s : ByteArray) (w : World) (hd : AllDigits s) (h0 : 0 < s.size) (hs : s.size ≤ 1000000000) :
    Calls Try.prog 113 #[.string s] w fun e w' => e = .returned (.bool true) ∧ w = w' := by
  have HD := Lib.hid hd
  clear hd
  go_enter Try.func113, Try.ntmps113
  go_wp2_with fail
  go_loop [6] (fun i => ∃ k : Nat, k ≤ s.size ∧ i = .int .i64 k) (fun i => s.size - (intOf i).toNat)
  case atStart => exact ⟨0, by omega, rfl⟩
  case round =>
    obtain ⟨k, hk, rfl⟩ := hrel
    by_cases hlt : k < s.size
    · have hb := HD.out k hlt
      rw [← byte_eq hlt] at hb
      obtain ⟨hb1, hb2⟩ := hb
      have t1 : ¬ ((s[k].toNat : Int) < 48) := by omega
      have t2 : ¬ ((57 : Int) < s[k].toNat) := by omega
      go_wp2_with fail
      go_round
      case rel => exact ⟨k + 1, by omega, by go_num⟩
      case measure => simp [intOf]; omega
    · go_wp2_with fail
      go_ret
      have h1 := nonempty_toList h0
      refine ⟨?_, rfl⟩
      show Ending.returned (.bool (!s.toList.isEmpty)) = _
      rw [h1]; rfl

set_option maxHeartbeats 1600000 in
set_option maxRecDepth 100000 in
theorem cut_none (s : ByteArray) (w : World) (h0 : 0 < s.size) (h : byte s 0 ≠ 45) :
    Calls Try.prog 112 #[.string s, .string ⟨#[45]⟩] w fun e w' => e = .returned (.tuple #[.string s, .bool false]) ∧ w = w' := by
  have h1 := prefix_no h0 h
  have h2 : (1 : Int) ≤ s.size := by omega
  clear h
  go_enter Try.func112, Try.ntmps112
  go_wp2
  go_ret2
  exact ⟨rfl, rfl⟩
set_option maxHeartbeats 1600000 in
set_option maxRecDepth 100000 in
theorem cut_minus (s : ByteArray) (w : World) (h0 : 0 < s.size) (h : byte s 0 = 45) :
    Calls Try.prog 112 #[.string s, .string ⟨#[45]⟩] w fun e w' => e = .returned (.tuple #[.string (s.extract 1 s.size), .bool true]) ∧ w = w' := by
  have h1 := prefix_yes h0 h
  have h2 : (1 : Int) ≤ s.size := by omega
  clear h
  go_enter Try.func112, Try.ntmps112
  go_wp2
  go_ret2
  exact ⟨rfl, rfl⟩

set_option maxHeartbeats 6400000 in
set_option maxRecDepth 100000 in
/-- Parse of digits, with or without a sign in front. -/
theorem parse_digits (s t : ByteArray) (neg : Bool) (w : World) (hcut : ∀ W, Calls Try.prog 112 #[.string s, .string ⟨#[45]⟩] W fun e w' => e = .returned (.tuple #[.string t, .bool neg]) ∧ W = w')
    (hd : AllDigits t) (h0 : 0 < t.size) (hs : s.size ≤ 3000) (hts : t.size ≤ s.size) :
    Calls Try.prog 68 #[.string s] w (RetIntE w (if 256 < nl (dv t t.size) then 0 else sg neg (dv t t.size)) (if 256 < nl (dv t t.size) then 2 else 0)) := by
  have HC := Lib.hid hcut
  have HD := Lib.hid hd
  have hs' : decide ((3000 : Int) < s.size) = false := decide_eq_false (by omega)
  clear hcut hd
  obtain ⟨z, hz⟩ : ∃ z, (if 256 < nl (dv t t.size) then 0 else sg neg (dv t t.size)) = z := ⟨_, rfl⟩
  obtain ⟨er, her⟩ : ∃ er, (if 256 < nl (dv t t.size) then 2 else 0 : Int) = er := ⟨_, rfl⟩
  rw [hz, her]
  have HZ := Lib.hid hz
  have HE := Lib.hid her
  clear hz her
  go_enter Try.func68, Try.ntmps68
  go_wp2_with (first
    | (go_at_call 112; refine (HC.out _).mono ?_; rintro e w' ⟨rfl, rfl⟩)
    | (go_at_call 113; refine (decimal_yes t _ HD.out h0 (by omega)).mono ?_; rintro e w' ⟨rfl, rfl⟩))
  generalize hW : World.alloc _ _ = W
  have B0 : Blk W w.heap.size #[.bool false, .slice none 0 0] := by rw [← hW]; exact blk_new rfl
  have hbW : Below w.heap.size w W := by rw [← hW]; exact (Below.refl _ _).alloc (Nat.le_refl _) _
  have HS := Lib.hid (show W.heap.size = w.heap.size + 1 by rw [← hW]; simp)
  clear hW
  go_loopw [6, 7, 8, 25] (fun l v m i wr => ∃ k g a n L : Nat, k ≤ t.size ∧ g ≤ 8 ∧ a < 10^g ∧ (k = t.size → g = 0) ∧ n ≤ k ∧ v = .int .u32 a ∧ m = .int .u32 (10^g : Nat) ∧ i = .int .i64 k ∧ Hid (dv t k = L * 10^g + a) ∧ OwnL 77 W.heap.size wr l n L ∧ Below W.heap.size W wr) (fun _ _ _ i _ => t.size - (intOf i).toNat)
  case atStart => exact ⟨0, 0, 0, 0, 0, by omega, by omega, by omega, fun _ => rfl, by omega, rfl, rfl, rfl, Lib.hid rfl, OwnL.nil _ _ _, Below.refl _ _⟩
  case round =>
    obtain ⟨k, g, a, n, L, hk, hg, ha, hke, hnk, rfl, rfl, rfl, hE, hO, hb⟩ := hrel
    by_cases hlt : k < t.size
    · have hby := HD.out k hlt
      have heq := byte_eq hlt
      have hpw : 10^g ≤ 100000000 := Nat.pow_le_pow_right (n := 10) (j := 8) (by decide) hg
      have hps : 10^(g+1) = 10^g * 10 := Nat.pow_succ _ _
      have HPG := Lib.hid (show g = 8 → 10^g = 100000000 by rintro rfl; decide)
      have HPL := Lib.hid (show g ≠ 8 → 10^g ≤ 10000000 by intro h; exact Nat.pow_le_pow_right (n := 10) (j := 7) (by decide) (by omega))
      obtain ⟨P, hP⟩ : ∃ P, 10^g = P := ⟨_, rfl⟩
      rw [hP] at ha hpw hps
      have HPG' := Lib.hid (show g = 8 → P = 100000000 from fun h => hP ▸ HPG.out h)
      have HPL' := Lib.hid (show g ≠ 8 → P ≤ 10000000 from fun h => hP ▸ HPL.out h)
      have HP := Lib.hid hP
      have HPS := Lib.hid hps
      obtain ⟨d, hdd⟩ : ∃ d, byte t k - 48 = d := ⟨_, rfl⟩
      have HDD := Lib.hid hdd
      have hb1 : 48 ≤ t[k].toNat := by omega
      have hb2 : t[k].toNat ≤ 57 := by omega
      have hd9 : d ≤ 9 := by omega
      have hsub : ((t[k].toNat : Int) - 48) = d := by omega
      have HT := Lib.hid (show dv t (k + 1) = L * (P * 10) + (10 * a + d) by show dv t k * 10 + (byte t k - 48) = _; rw [hE.out, hP, hdd, Nat.add_mul, Nat.mul_assoc]; omega)
      have hp1 : 0 < P := by rw [← hP]; exact Nat.pow_pos (by decide)
      rw [hP]
      clear hP hps hdd heq hby hke HPG HPL
      by_cases hg8 : g = 8
      · have hP8 := HPG'.out hg8
        have ht : ((P : Int) * 10 == 1000000000) = true := by simp; omega
        have HG := Lib.hid hg8
        clear hP8 hg8
        go_wp2_with fail
        rw [show ((P : Int) * 10) = ((P * 10 : Nat) : Int) by omega, show (10 * (a : Int) + d) = ((10 * a + d : Nat) : Int) by omega]
        refine (widen_any W.heap.size _ n L (P * 10) (10 * a + d) wr hO hb.size (by unfold B; omega) (by unfold B; omega) (by omega)).mono ?_
        rintro e w2 ⟨v', n', rfl, hO2, hn2, hb2⟩
        go_wp2_with fail
        go_roundw
        case rel => exact ⟨k + 1, 0, 0, n', L * (P * 10) + (10 * a + d), by omega, by omega, by decide, fun _ => rfl, by omega, rfl, rfl, by go_num, Lib.hid (by rw [HT.out]; omega), hO2, hb.trans hb2⟩
        case measure => simp [intOf]; omega
      · have hP7 := HPL'.out hg8
        have ht : ((P : Int) * 10 == 1000000000) = false := by simp; omega
        by_cases hlast : k + 1 = t.size
        · have ht2 : ((k : Int) == (t.size : Int) - 1) = true := by simp; omega
          have HL := Lib.hid hlast
          have hk1 : k + 1 ≤ t.size := by omega
          clear hlast hg8
          go_wp2_with fail
          rw [show ((P : Int) * 10) = ((P * 10 : Nat) : Int) by omega, show (10 * (a : Int) + d) = ((10 * a + d : Nat) : Int) by omega]
          refine (widen_any W.heap.size _ n L (P * 10) (10 * a + d) wr hO hb.size (by unfold B; omega) (by unfold B; omega) (by omega)).mono ?_
          rintro e w2 ⟨v', n', rfl, hO2, hn2, hb2⟩
          go_wp2_with fail
          go_roundw
          case rel => exact ⟨k + 1, 0, 0, n', L * (P * 10) + (10 * a + d), by omega, by omega, by decide, fun _ => rfl, by omega, rfl, rfl, by go_num, Lib.hid (by rw [HT.out]; omega), hO2, hb.trans hb2⟩
          case measure => simp [intOf]; omega
        · have ht2 : ((k : Int) == (t.size : Int) - 1) = false := by simp; omega
          have hg7 : g ≤ 7 := by omega
          have hk1 : k + 1 < t.size := by omega
          clear hlast hg8
          go_wp2_with fail
          rw [show ((P : Int) * 10) = ((P * 10 : Nat) : Int) by omega, show (10 * (a : Int) + d) = ((10 * a + d : Nat) : Int) by omega]
          go_roundw
          case rel =>
            refine ⟨k + 1, g + 1, 10 * a + d, n, L, by omega, by omega, ?_, fun h => by omega, by omega, rfl, ?_, by go_num, Lib.hid ?_, hO, hb⟩
            · rw [HPS.out]; omega
            · rw [HPS.out]
            · rw [HT.out, HPS.out]
          case measure => simp [intOf]; omega
    · obtain rfl : k = t.size := by omega
      obtain rfl := hke rfl
      have ha0 : a = 0 := by simpa using ha
      have hL : dv t t.size = L := by have := hE.out; rw [ha0] at this; simpa using this
      rw [hL] at HZ HE
      have B1 := B0.kept hb
      have hbw1 : Below w.heap.size w wr := hbW.trans (hb.mono (by have := HS.out; omega))
      have HS' := Lib.hid (show w.heap.size + 1 ≤ wr.heap.size by have := HS.out; have := hb.size; omega)
      have hnum : ∃ base c g, u6 = .slice base n c ∧ (n ≠ 0 → base = some ⟨g, 0, none⟩) ∧ Num wr g 0 n L ∧ n ≤ c ∧ (n ≠ 0 → W.heap.size ≤ g) := by
        rcases hO.2.2 with ⟨rfl, rfl⟩ | ⟨g, cap, cur, rfl, hg2, hrest⟩
        · exact ⟨none, 0, 0, rfl, fun h => absurd rfl h, ⟨hO.1, fun i hi => by omega⟩, Nat.le_refl _, fun h => absurd rfl h⟩
        · exact ⟨_, cap, g, rfl, fun _ => rfl, hO.num, hrest.2.1, fun _ => hg2⟩
      obtain ⟨base, c, gg, rfl, hbase, hLn, hcn, hgg⟩ := hnum
      have HB := Lib.hid hbase
      have HG := Lib.hid hgg
      clear hbase hgg hO hL ha0 ha hE hke B0
      go_wp2_with fail
      refine (number_any neg base gg 0 n c L wr HB.out hLn hcn (by omega)).mono ?_
      rintro e w2 ⟨rfl, hb2⟩
      have hcan : IsCan W.heap.size w2 (intv neg base L) (sg neg L) := can_intv HB.out (hLn.kept hb2) (by have := nl_le hLn.lt; omega) HG.out
      obtain ⟨s', q, g, o, Z, m, hv, hq, hZ, hm, hml, hzz, hsz, hgN⟩ := hcan
      rw [hv]
      have HZZ := Lib.hid hzz
      have B2 := B1.kept hb2
      have hbw2 : Below w.heap.size w w2 := hbw1.trans (hb2.mono (by have := HS'.out; omega))
      have HS2 := Lib.hid (show w.heap.size + 1 ≤ w2.heap.size by have := HS'.out; have := hb2.size; omega)
      clear hv hzz B1
      go_wp2_with fail
      refine (bounded_any s' q g o (nl Z) m Z w2 hq hZ hm (by omega)).mono ?_
      rintro e w4 ⟨rfl, hb4⟩
      obtain ⟨c0, c1⟩ := Blk2 (B2.kept hb4)
      obtain ⟨f0, f1⟩ := Blk2f (B2.kept hb4)
      have hbw4 : Below w.heap.size w w4 := hbw2.trans (hb4.mono (by have := HS2.out; omega))
      obtain ⟨r', p', k', l', er', hbn⟩ := bnd_form s' q (nl Z) m Z
      rw [hbn]
      have HBN := Lib.hid hbn
      clear hbn B2
      go_wp2_with fail
      have hsize := HS.out
      have hZX : L = Z := by have h := congrArg Int.natAbs HZZ.out; rwa [sg_natAbs, sg_natAbs] at h
      refine bodyPost_ret (v := .tuple #[.agg #[.bool r', .slice p' k' l'], .int .i64 er']) (by simp [results, Try.results68, go_sem, c0, c1]) rfl ?_
      rw [← HZ.out, ← HE.out]
      by_cases h1 : 256 < nl L
      · have h4 := HBN.out
        rw [bnd_big _ (by rw [← hZX]; exact h1)] at h4
        simp only [Value.tuple.injEq, Array.mk.injEq, List.cons.injEq, Value.int.injEq, true_and, and_true] at h4
        rw [← h4.1, ← h4.2, if_pos h1, if_pos h1]
        exact ⟨_, rfl, can_zero _ _, (hbw4.setCell (Nat.le_refl _) _).setCell (Nat.le_refl _) _⟩
      · have h4 := HBN.out
        rw [bnd_ok _ (by rw [← hZX]; exact h1)] at h4
        simp only [Value.tuple.injEq, Array.mk.injEq, List.cons.injEq, Value.int.injEq, true_and, and_true] at h4
        rw [← h4.1, ← h4.2, if_neg h1, if_neg h1, HZZ.out]
        have hcan : IsCan W.heap.size w4 (.agg #[.bool s', .slice q (nl Z) m]) (sg s' Z) := ⟨s', q, g, o, Z, m, rfl, hq, hZ.kept hb4, hm, hml, rfl, hsz, hgN⟩
        exact ⟨_, rfl, ((hcan.set (by show w.heap.size < _; omega) _).set (by show w.heap.size < _; omega) _).mono (by omega), (hbw4.setCell (Nat.le_refl _) _).setCell (Nat.le_refl _) _⟩
end Go.Proofs.Ytdgfmkideghhaaa

namespace Go.Proofs.Ytdgfmkideghhaaa
open Go.RowKit PB
/-- integer.common, where one of the numbers has at most one limb. -/
theorem common_any (gx gy X Y : Nat) (w : World) (hX : Num w gx 0 (nl X) X) (hY : Num w gy 0 (nl Y) Y) (hc : nl X ≤ 1000000000) (hc' : nl Y ≤ 1000000000) (hs : nl X ≤ 1 ∨ nl Y ≤ 1) :
    Calls Try.prog 77 #[.slice (some ⟨gx, 0, none⟩) (nl X) (nl X), .slice (some ⟨gy, 0, none⟩) (nl Y) (nl Y)] w (fun e w' => ∃ base c b off n, e = .returned (.slice base n c) ∧ (n ≠ 0 → base = some ⟨b, off, none⟩) ∧ Num w' b off n (Nat.gcd X Y) ∧ n ≤ c ∧ n ≤ 1000000000 ∧ (n ≠ 0 → b = gx ∨ b = gy ∨ w.heap.size ≤ b) ∧ Below w.heap.size w w') := by
  by_cases h : Y ≤ X
  · have hY1 : nl Y ≤ 1 := by have := nl_mono h; omega
    refine (common_ge _ _ gx 0 X _ gy 0 Y _ w (fun _ => rfl) (fun _ => rfl) hX hY hc (Nat.le_refl _) hY1 h).mono ?_
    rintro e w' ⟨base, c, b, off, n, h1, h2, h3, h4, h5, h6, h7⟩
    exact ⟨base, c, b, off, n, h1, h2, h3, h4, h5, fun hn => (h6 hn).elim Or.inl fun h => Or.inr (Or.inr h), h7⟩
  · have hX1 : nl X ≤ 1 := by have := nl_mono (Nat.le_of_not_le h); omega
    refine (common_lt _ _ gy 0 Y _ gx 0 X _ w (fun _ => rfl) (fun _ => rfl) hY hX hc' (Nat.le_refl _) hX1 (by omega)).mono ?_
    rintro e w' ⟨base, c, b, off, n, h1, h2, h3, h4, h5, h6, h7⟩
    exact ⟨base, c, b, off, n, h1, h2, h3.val (Nat.gcd_comm _ _), h4, h5, fun hn => (h6 hn).elim (fun h => Or.inr (Or.inl h)) fun h => Or.inr (Or.inr h), h7⟩

set_option maxHeartbeats 3200000 in
set_option maxRecDepth 100000 in
/-- Gcd, at numbers that are not large, by what common does. -/
theorem gcd_ok (s t : Bool) (base : Option Addr) (b off n c X : Nat) (base' : Option Addr) (b' off' n' c' Y : Nat) (w : World)
    (hb : n ≠ 0 → base = some ⟨b, off, none⟩) (hX : Num w b off n X) (hn : n ≤ c) (hl : n ≤ 1000000000)
    (hb' : n' ≠ 0 → base' = some ⟨b', off', none⟩) (hY : Num w b' off' n' Y) (hn' : n' ≤ c') (hl' : n' ≤ 1000000000) (hsX : ¬ (256 < nl X ∨ 256 < nl Y))
    (hcom : ∀ (gx gy : Nat) (W : World), w.heap.size ≤ gx → w.heap.size ≤ gy → Num W gx 0 (nl X) X → Num W gy 0 (nl Y) Y → Free W gx 0 (nl X) → Free W gy 0 (nl Y) → Below w.heap.size w W → gx ≠ gy → gx < W.heap.size →
      Calls Try.prog 77 #[.slice (some ⟨gx, 0, none⟩) (nl X) (nl X), .slice (some ⟨gy, 0, none⟩) (nl Y) (nl Y)] W (fun e w' => ∃ base c b off n, e = .returned (.slice base n c) ∧ (n ≠ 0 → base = some ⟨b, off, none⟩) ∧ Num w' b off n (Nat.gcd X Y) ∧ n ≤ c ∧ n ≤ 1000000000 ∧ (n ≠ 0 → min gx gy ≤ b) ∧ Below (min gx gy) W w')) :
    Calls Try.prog 16 #[.agg #[.bool s, .slice base n c], .agg #[.bool t, .slice base' n' c']] w (RetIntE w (Nat.gcd X Y) 0) := by
  have hnX := nl_le hX.lt
  have hnY := nl_le hY.lt
  have HC := Lib.hid hcom
  have HB := Lib.hid hb
  have HB' := Lib.hid hb'
  clear hcom hb hb'
  go_enter Try.func16, Try.ntmps16
  go_wp2_with fail
  generalize hW : World.alloc _ _ = W
  have B0 : Blk W w.heap.size #[.bool s, .slice base n c] := by rw [← hW]; exact (((blk_new rfl).alloc _).alloc _).alloc _
  have B1 : Blk W (w.heap.size + 1) #[.bool t, .slice base' n' c'] := by rw [← hW]; exact ((blk_new (by simp)).alloc _).alloc _
  have B2 : Blk W (w.heap.size + 1 + 1) #[.bool false, .slice none 0 0] := by rw [← hW]; exact (blk_new (by simp)).alloc _
  have B3 : Blk W (w.heap.size + 1 + 1 + 1) #[.bool s, .slice base n c, .bool t, .slice base' n' c'] := by rw [← hW]; exact blk_new (by simp)
  have hbW : Below w.heap.size w W := by rw [← hW]; exact ((((Below.refl _ _).alloc (Nat.le_refl _) _).alloc (by simp) _).alloc (by simp; omega) _).alloc (by simp; omega) _
  have HS := Lib.hid (show W.heap.size = w.heap.size + 4 by rw [← hW]; simp)
  clear hW
  have call := large_two (w.heap.size + 1 + 1 + 1) s t base base' b off n c X b' off' n' c' Y W (B3.cell 0 _ rfl) (B3.cell 1 _ rfl) (B3.cell 2 _ rfl) (B3.cell 3 _ rfl) HB.out (hX.kept hbW) hn (by omega) HB'.out (hY.kept hbW) hn' (by omega)
  rw [decide_eq_false hsX] at call
  refine call.mono ?_
  clear call
  rintro e w1 ⟨rfl, hb1⟩
  have hbw1 : Below w.heap.size w w1 := hbW.trans (hb1.mono (by have := HS.out; omega))
  have HS' := Lib.hid (show w.heap.size + 4 ≤ w1.heap.size by have := HS.out; have := hb1.size; omega)
  have B0' := B0.kept hb1
  have B1' := B1.kept hb1
  have B2' := B2.kept hb1
  have HK := Lib.hid (show ∀ w2, Below w1.heap.size w1 w2 → w2.cell? ⟨w.heap.size, 1, none⟩ = some (.slice base n c) ∧ w2.cell? ⟨w.heap.size + 1, 1, none⟩ = some (.slice base' n' c') from fun w2 h => ⟨(Blk2 (B0'.kept h)).2, (Blk2 (B1'.kept h)).2⟩)
  have HL := Lib.hid (show ∀ w2, Below w1.heap.size w1 w2 → Blk w2 (w.heap.size + 1 + 1) #[.bool false, .slice none 0 0] from fun w2 h => B2'.kept h)
  obtain ⟨a1, b1⟩ := HK.out _ (Below.refl _ _)
  have hX1 := hX.kept hbw1
  have hY1 := hY.kept hbw1
  clear B0 B1 B2 B3 hbW HS hb1 B0' B1' B2'
  have HST := Lib.hid (show ∀ (w4 : World) (u0 u1 : Value), (w4.cell? ⟨w.heap.size, 1, none⟩ = some (.slice base n c) ∧ w4.cell? ⟨w.heap.size + 1, 1, none⟩ = some (.slice base' n' c')) →
      (((w4.setCell ⟨w.heap.size + 1 + 1, 0, none⟩ u0).setCell ⟨w.heap.size + 1 + 1, 1, none⟩ u1).cell? ⟨w.heap.size, 1, none⟩ = some (.slice base n c) ∧ ((w4.setCell ⟨w.heap.size + 1 + 1, 0, none⟩ u0).setCell ⟨w.heap.size + 1 + 1, 1, none⟩ u1).cell? ⟨w.heap.size + 1, 1, none⟩ = some (.slice base' n' c')) from
    fun w4 u0 u1 h => ⟨cell_other (cell_other h.1 (show w.heap.size ≠ w.heap.size + 1 + 1 by omega)) (show w.heap.size ≠ w.heap.size + 1 + 1 by omega), cell_other (cell_other h.2 (show w.heap.size + 1 ≠ w.heap.size + 1 + 1 by omega)) (show w.heap.size + 1 ≠ w.heap.size + 1 + 1 by omega)⟩)
  go_wp2_with fail
  go_region_held3 (fun w' => w'.cell? ⟨w.heap.size, 1, none⟩ = some (.slice base n c) ∧ w'.cell? ⟨w.heap.size + 1, 1, none⟩ = some (.slice base' n' c'))
    (first | exact ⟨a1, b1⟩ | exact HK.out _ hk5 | exact HK.out _ hk4 | exact HK.out _ hk3 | exact HK.out _ hk2 | exact HST.out _ _ _ (HK.out _ hk5))
    (first
      | (go_at_call_of 78 (Value.slice base n c); refine (duplicate_any base b off n c X _ HB.out (by exact hX1) hn (by omega)).mono ?_; rintro e w2 ⟨rfl, hF2⟩
         have hk2 : Below w1.heap.size w1 w2 := (by first | exact hF2.below | exact below_undrew hF2.below)
         have hfx : Num w2 w1.heap.size 0 (nl X) X := hF2.num
         have hffx : Free w2 w1.heap.size 0 (nl X) := hF2.free
         have hlx : w1.heap.size < w2.heap.size := hF2.lt)
      | (go_at_call_of 78 (Value.slice base' n' c'); refine (duplicate_any base' b' off' n' c' Y _ HB'.out (by exact hY1.kept hk2) hn' (by omega)).mono ?_; rintro e w3 ⟨rfl, hF3⟩
         have hk3 : Below w1.heap.size w1 w3 := hk2.trans (hF3.below.mono hk2.size)
         have hfx3 : Num w3 w1.heap.size 0 (nl X) X := hfx.kept hF3.below
         have hffx3 : Free w3 w1.heap.size 0 (nl X) := hffx.below hF3.below (fun _ => hlx)
         have hfy3 : Num w3 w2.heap.size 0 (nl Y) Y := hF3.num
         have hffy3 : Free w3 w2.heap.size 0 (nl Y) := hF3.free
         have hly3 : w2.heap.size < w3.heap.size := hF3.lt)
      | (go_at_call 77; refine (HC.out w1.heap.size w2.heap.size _ hbw1.size (Nat.le_trans hbw1.size hk2.size) (by exact hfx3) (by exact hfy3) (by exact hffx3) (by exact hffy3) (by exact hbw1.trans (hk3.mono hbw1.size)) (Nat.ne_of_lt hlx) (by exact Nat.lt_trans hlx hly3)).mono ?_
         rintro e w4 ⟨qb, qc, qg, qo, qn, rfl, hq1, hq2, hq3, hq4, hq5, hb4⟩
         have hk4 : Below w1.heap.size w1 w4 := hk3.trans (hb4.mono (by omega))
         have HQ1 := Lib.hid hq1
         have HQ5 := Lib.hid (show qn ≠ 0 → w1.heap.size ≤ qg from fun h => by have := hq5 h; have := hk3.size; omega)
         clear hq1 hq5)
      | (go_at_call 73; refine (number_any false qb qg qo qn qc (Nat.gcd X Y) _ HQ1.out (by exact hq2) hq3 (by omega)).mono ?_; rintro e w5 ⟨rfl, hb5⟩
         have hk5 : Below w1.heap.size w1 w5 := hk4.trans (hb5.mono hk4.size)
         have hq6 : Num w5 qg qo qn (Nat.gcd X Y) := hq2.kept hb5
         obtain ⟨s1, p1, m1, hv1⟩ := intv_form false qb (Nat.gcd X Y)
         rw [hv1]
         have HV1 := Lib.hid hv1
         clear hv1
         obtain ⟨c0, c1⟩ := Blk2 (HL.out _ hk5)
         obtain ⟨f0, f1⟩ := Blk2f (HL.out _ hk5)))
  go_wp2_with fail
  have h1 := HS'.out
  refine bodyPost_ret (v := .tuple #[.agg #[.bool s1, .slice p1 m1 m1], .int .i64 0]) (by simp [results, Try.results16, go_sem, c0, c1]) rfl ⟨_, rfl, ?_, ?_⟩
  · rw [← HV1.out]
    refine can_intv (s := false) (n := qn) HQ1.out ((hq6.other _ ?_).other _ ?_) (by have := nl_le hq6.lt; omega) (fun h => by have := HQ5.out h; omega)
    all_goals (intro h; have := HQ5.out h; simp only []; omega)
  · exact ((hbw1.trans (hk5.mono (by omega))).setCell (by show w.heap.size ≤ w.heap.size + 1 + 1; omega) _).setCell (by show w.heap.size ≤ w.heap.size + 1 + 1; omega) _
end Go.Proofs.Ytdgfmkideghhaaa

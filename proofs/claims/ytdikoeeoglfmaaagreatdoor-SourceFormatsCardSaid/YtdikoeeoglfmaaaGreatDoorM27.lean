/-
  The reference's Digits: strconv's numeral.
  The reference's write.
-/
import Derived.Lib.ItoaNum
import Derived.Laws.Concat
import Derived.Lib.ItoaLen
import Derived.Deep.DeepCutAuto
import Derived.Test.YtdikoeeoglfmaaaGreatDoorM09
import Derived.Test.YtdikoeeoglfmaaaGreatDoorM23
import Derived.Test.YtdikoeeoglfmaaaGreatDoorM25
import Derived.Test.YtdikoeeoglfmaaaGreatDoorM26
namespace PB
open Go Go.RowKit
theorem isND_nDigits {X : Nat} (hX : X ≠ 0) : IsND X (Go.Lib.nDigits X) := by
  refine ⟨Go.Lib.lt_pow_nDigits X, .inr ?_⟩
  have hp := Go.Lib.nDigits_pos X
  obtain ⟨k, hk⟩ : ∃ k, Go.Lib.nDigits X = k + 1 := ⟨Go.Lib.nDigits X - 1, by omega⟩
  rw [hk, Nat.add_sub_cancel]
  have h1 : 10 ^ k ≤ X := by
    apply Nat.le_of_not_lt
    intro hlt
    have h3 : ∀ k u : Nat, u < 10 ^ k → k ≠ 0 → Go.Lib.nDigits u ≤ k := by
      intro k
      induction k with
      | zero => intro u _ h; exact absurd rfl h
      | succ k ih =>
        intro u hu _
        by_cases h : u < 10
        · rw [Go.Lib.nDigits_small h]; omega
        · rw [Go.Lib.nDigits_big h]
          have hk0 : k ≠ 0 := by rintro rfl; rw [Nat.zero_add, Nat.pow_one] at hu; exact h hu
          have := ih (u / 10) (by rw [Nat.pow_succ] at hu; omega) hk0
          omega
    by_cases hk0 : k = 0
    · subst hk0; rw [Nat.pow_zero] at hlt; omega
    · have := h3 k X hlt hk0
      omega
  have h2 : X < 10 ^ (k + 1) := by rw [← hk]; exact Go.Lib.lt_pow_nDigits X
  unfold dch
  have h4 : 1 ≤ X / 10 ^ k := (Nat.le_div_iff_mul_le (ten_pos k)).2 (by omega)
  have h5 : X / 10 ^ k < 10 := Nat.div_lt_of_lt_mul (by rw [← Nat.pow_succ]; exact h2)
  generalize X / 10 ^ k = q at *
  omega
theorem dch_rev (X m : Nat) : ((((List.range m).map (dch X)).reverse.map Int.ofNat).map fun n => UInt8.ofNat n.toNat) = (List.range m).map fun t => Go.Lib.dg X (m - 1 - t) := by
  apply List.ext_getElem
  · simp
  · intro i h1 h2
    simp only [List.getElem_map, List.getElem_reverse, List.length_map, List.length_range, List.getElem_range]
    unfold dch Go.Lib.dg
    show UInt8.ofNat (X / 10 ^ (m - 1 - i) % 10 + 48) = UInt8.ofNat (48 + X / 10 ^ (m - 1 - i) % 10)
    rw [Nat.add_comm]
theorem itoa_txt {X m : Nat} (h : IsND X m) (hX : X ≠ 0) (s : Bool) : strOfNums ((txt s X m).map Int.ofNat) = ⟨(Go.Lib.itoa (sg s X)).toArray⟩ := by
  obtain rfl := isND_unique h (isND_nDigits hX)
  have hd : ((((List.range (Go.Lib.nDigits X)).map (dch X)).reverse.map Int.ofNat).map fun n => UInt8.ofNat n.toNat) = Go.Lib.decDigits X := by
    rw [dch_rev, Go.Lib.decDigits_eq]
  unfold strOfNums txt
  cases s with
  | false =>
    have e : Go.Lib.itoa (sg false X) = Go.Lib.decDigits X := by unfold sg Go.Lib.itoa; simp
    rw [e, ← hd]
    simp
  | true =>
    have e : Go.Lib.itoa (sg true X) = 45 :: Go.Lib.decDigits X := by
      unfold sg Go.Lib.itoa
      simp only [if_true]
      rw [if_pos (by omega)]
      simp
    rw [e, ← hd]
    simp
end PB
namespace Go.Proofs.YtdikoeeoglfmaaaGreatDoor
open Go.RowKit PB SC
set_option maxHeartbeats 4000000 in
set_option maxRecDepth 100000 in
theorem digits_ref (n : Int) (w : World) (h1 : -9223372036854775808 ≤ n) (h2 : n ≤ 9223372036854775807) :
    Calls Tryz.prog 30 #[.int .i64 n] w fun e w' => e = .returned (.string ⟨(Go.Lib.itoa n).toArray⟩) ∧ Below w.heap.size w w' := by
  have HO := Lib.hid (fun W => of_ref n W h1 h2)
  have HT := Lib.hid (show ∀ v W, IsCan w.heap.size W v n → Calls Tryz.prog 46 #[v] W fun e w' => e = .returned (.tuple #[.string ⟨(Go.Lib.itoa n).toArray⟩, .int .i64 0]) ∧ Below W.heap.size W w' from fun v W hv => by
    obtain ⟨s, base, b, off, X, c, rfl, hb, hX, hc, hl, hz, hs0, _⟩ := hv
    by_cases h0 : X = 0
    · subst h0
      obtain rfl : n = 0 := by rw [hz, hs0 rfl]; rfl
      have := text_ref0 s base b off (nl 0) c W hb hX hc hl
      rw [show (⟨(Go.Lib.itoa 0).toArray⟩ : ByteArray) = ⟨#[48]⟩ by decide +kernel]
      exact this
    · have hXl : X ≤ 9223372036854775808 := by unfold sg at hz; split at hz <;> omega
      have hnd := isND_nDigits h0
      refine text_ref s base b off (nl X) c X (Go.Lib.nDigits X) W hb hX hc hl ?_ h0 hnd ?_ _ (by rw [itoa_txt hnd h0 s, hz])
      · have := nl_le (X := X) (k := 2) (by show X < 4294967296 ^ 2; omega)
        omega
      · have h3 := isND_ge hnd (Go.Lib.nDigits_pos X)
        apply Nat.le_of_not_lt
        intro hlt
        have h4 : 10 ^ 20 ≤ 10 ^ (Go.Lib.nDigits X - 1) := Nat.pow_le_pow_right (by decide) (by omega)
        have h5 : (9223372036854775808 : Nat) < 10 ^ 20 := by decide
        omega)
  clear h1 h2
  go_enter Tryz.func30, Tryz.ntmps30
  go_wp2_with fail
  refine (HO.out _).mono ?_
  rintro e w1 ⟨v, rfl, hc, q1⟩
  have HC := Lib.hid hc
  obtain ⟨s, base, b, off, X, c, rfl, -⟩ := hc
  go_wp2_with fail
  refine (HT.out _ _ HC.out).mono ?_
  rintro e w2 ⟨rfl, q2⟩
  go_wp2_with fail
  go_ret
  exact ⟨rfl, next q1 q2⟩
end Go.Proofs.YtdikoeeoglfmaaaGreatDoor

namespace SS
open Go Go.RowKit PB SC
theorem wrL_step {l : List I} {i : Nat} {x : I} {t T : List UInt8} (h : wrL t (l.drop i) = T) (hx : l[i]? = some x) : (20000 < t.length → t = T) ∧ (¬ 20000 < t.length → wrL (wrI t x) (l.drop (i + 1)) = T) := by
  obtain ⟨hi, e⟩ := List.getElem?_eq_some_iff.1 hx
  rw [List.drop_eq_getElem_cons hi, e] at h
  unfold wrL at h
  exact ⟨fun hh => by rw [if_pos hh] at h; exact h, fun hh => by rw [if_neg hh] at h; exact h⟩
theorem wrL_end {l : List I} {i : Nat} {t T : List UInt8} (h : wrL t (l.drop i) = T) (hi : l.length ≤ i) : t = T := by
  rw [List.drop_eq_nil_of_le hi] at h; exact h
theorem wrK_step {l : List K} {i : Nat} {x : K} {t T : List UInt8} (h : wrK t (l.drop i) = T) (hx : l[i]? = some x) : (20000 < t.length → t = T) ∧ (¬ 20000 < t.length → wrK (wrV (t ++ 32 :: x.key.data.toList) x.vals) (l.drop (i + 1)) = T) := by
  obtain ⟨hi, e⟩ := List.getElem?_eq_some_iff.1 hx
  rw [List.drop_eq_getElem_cons hi, e] at h
  unfold wrK at h
  exact ⟨fun hh => by rw [if_pos hh] at h; exact h, fun hh => by rw [if_neg hh] at h; exact h⟩
theorem wrK_end {l : List K} {i : Nat} {t T : List UInt8} (h : wrK t (l.drop i) = T) (hi : l.length ≤ i) : t = T := by
  rw [List.drop_eq_nil_of_le hi] at h; exact h
theorem wrV_step {l : List Int} {i : Nat} {x : Int} {t T : List UInt8} (h : wrV t (l.drop i) = T) (hx : l[i]? = some x) : (20000 < t.length → t = T) ∧ (¬ 20000 < t.length → wrV (t ++ 32 :: Lib.itoa x) (l.drop (i + 1)) = T) := by
  obtain ⟨hi, e⟩ := List.getElem?_eq_some_iff.1 hx
  rw [List.drop_eq_getElem_cons hi, e] at h
  unfold wrV at h
  exact ⟨fun hh => by rw [if_pos hh] at h; exact h, fun hh => by rw [if_neg hh] at h; exact h⟩
theorem wrV_end {l : List Int} {i : Nat} {t T : List UInt8} (h : wrV t (l.drop i) = T) (hi : l.length ≤ i) : t = T := by
  rw [List.drop_eq_nil_of_le hi] at h; exact h
theorem ba_len (S : ByteArray) : S.data.toList.length = S.size := by simp
theorem ba_add (S T : ByteArray) : (S ++ T).data.toList = S.data.toList ++ T.data.toList := by rw [ByteArray.data_append, Array.toList_append]
theorem ba_mk (S : ByteArray) : (⟨S.data.toList.toArray⟩ : ByteArray) = S := by cases S; simp
end SS
namespace Go.Proofs.YtdikoeeoglfmaaaGreatDoor
open Go.RowKit SC PB SS
set_option maxHeartbeats 16000000 in
set_option maxRecDepth 100000 in
theorem write_any (l : List I) (v : Value) (w : World) (hr : RdI w v l) (hok : ∀ x ∈ l, OkI x) (hn : l.length ≤ 1000000) :
    Calls Tryz.prog 15 #[v] w fun e w' => e = .returned (.string ⟨(wrL [] l).toArray⟩) ∧ (wrL [] l).length ≤ 4000000 ∧ Below w.heap.size w w' := by
  obtain ⟨base1, b1, off1, cp1, rfl, h1, h2, h4⟩ := hr
  have HI1 := Lib.hid (irow_of h2 h4)
  have HB1 := Lib.hid h1
  have HX := Lib.hid (fun (k : Nat) (hk : k < l.length) => (⟨l[k], List.getElem?_eq_getElem hk, hok _ (List.getElem_mem hk)⟩ : ∃ x, l[k]? = some x ∧ OkI x))
  have HDG := Lib.hid (fun n h1 h2 W => digits_ref n W h1 h2)
  generalize hT : wrL [] l = T
  have HT0 := Lib.hid (show wrL (⟨#[]⟩ : ByteArray).data.toList (l.drop 0) = T from hT)
  have HST := Lib.hid (fun (i : Nat) (x : I) (S : ByteArray) (h : wrL S.data.toList (l.drop i) = T) (hx : l[i]? = some x) => wrL_step h hx)
  have HSE := Lib.hid (fun (i : Nat) (S : ByteArray) (h : wrL S.data.toList (l.drop i) = T) (hi : l.length ≤ i) => wrL_end h hi)
  clear h1 h2 h4 hok hT
  generalize hnl : l.length = n at *
  clear hnl
  go_enter Tryz.func15, Tryz.ntmps15
  go_wp2_with fail
  go_loopw [3, 4] (fun sv iv wr => ∃ (i : Nat) (S : ByteArray), i ≤ n ∧ sv = .string S ∧ iv = .int .i64 i ∧ S.size ≤ 4000000 ∧ Hid (wrL S.data.toList (l.drop i) = T) ∧ Hid (Below w.heap.size w wr)) (fun _ iv _ => n - (intOf iv).toNat)
  case atStart => exact ⟨0, ⟨#[]⟩, Nat.zero_le _, rfl, rfl, by decide, HT0, Lib.hid (Below.refl _ _)⟩
  case round =>
    clear HT0
    obtain ⟨i, S, hin, rfl, rfl, hS, hA, hwr⟩ := hrel
    by_cases hkn : i < n
    · obtain rfl := HB1.out (by omega)
      obtain ⟨x, hx, hxo⟩ := HX.out i hkn
      obtain ⟨s1, s2⟩ := HST.out i x S hA.out hx
      rw [ba_len] at s1 s2
      have hik : (i : Int) < n := by omega
      by_cases hbig : S.size ≤ 20000
      · have hbi : (S.size : Int) ≤ 20000 := by omega
        obtain ⟨hlt1, zb1, kb1, ko1, zc1, a1, a2, a3, a4⟩ := HI1.out i x hx
        have HN := Lib.hid (s2 (by omega))
        have HA1 := Lib.hid a1
        have HA2 := Lib.hid a2
        have HA3 := Lib.hid a3
        have HA4 := Lib.hid a4
        have hw6 := hxo.word
        have hn6 := hxo.name
        have hk6 := hxo.keys
        have HXX := Lib.hid (fun (k : Nat) (hk : k < x.keys.length) => (⟨x.keys[k], List.getElem?_eq_getElem hk, hxo.key _ (List.getElem_mem hk)⟩ : ∃ y, x.keys[k]? = some y ∧ y.key.size ≤ 1000000 ∧ y.vals.length ≤ 1000000 ∧ ∀ n ∈ y.vals, -9223372036854775808 ≤ n ∧ n ≤ 9223372036854775807))
        obtain ⟨c0, c1, c2, c3⟩ := a3 _ hwr.out
        have hl1 : b1 < wr.heap.size := Nat.lt_of_lt_of_le hlt1 hwr.out.size
        have HLT := Lib.hid hlt1
        clear a1 a2 a3 a4 s1 s2 hx hxo
        have hs1 : (S ++ x.word).size ≤ 1020000 := by rw [ByteArray.size_append]; omega
        have hs2 : (S ++ x.word ++ (⟨#[32]⟩ : ByteArray)).size ≤ 1020001 := by rw [ByteArray.size_append]; have : (⟨#[32]⟩ : ByteArray).size = 1 := rfl; omega
        go_upto_if 30 with fail
        obtain ⟨tb, htb⟩ : ∃ tb, (!(x.word.toList == [116, 97, 98, 108, 101])) = tb := ⟨_, rfl⟩
        rw [htb]
        have HTB := Lib.hid htb
        clear htb
        go_cut [3] (fun s3 wx => ∃ S2 : ByteArray, s3 = .string S2 ∧ Hid (S2.data.toList = S.data.toList ++ x.word.data.toList ++ rnameT x) ∧ S2.size ≤ 3000000 ∧ Hid (Below w.heap.size w wx))
        case first =>
          by_cases ht : x.word = bTable
          · obtain rfl : tb = false := by rw [← HTB.out, ht]; kernel_rfl
            have HE := Lib.hid (show (S ++ x.word).data.toList = S.data.toList ++ x.word.data.toList ++ rnameT x by rw [ba_add]; unfold rnameT; rw [if_pos ht, List.append_nil])
            clear ht
            go_wp2_with fail
            go_meet
            exact ⟨S ++ x.word, rfl, HE, by omega, hwr⟩
          · have t0 := beq_l (s := x.word) (l := [116, 97, 98, 108, 101]) ht
            obtain rfl : tb = true := by rw [← HTB.out, t0]; rfl
            have HE := Lib.hid (show (S ++ x.word ++ (⟨#[32]⟩ : ByteArray) ++ x.name).data.toList = S.data.toList ++ x.word.data.toList ++ rnameT x by
              rw [ba_add, ba_add, ba_add]; unfold rnameT; rw [if_neg ht]; simp)
            have hs3 : (S ++ x.word ++ (⟨#[32]⟩ : ByteArray) ++ x.name).size ≤ 2020001 := by rw [ByteArray.size_append]; omega
            clear t0 ht
            go_wp2_with fail
            go_meet
            exact ⟨S ++ x.word ++ (⟨#[32]⟩ : ByteArray) ++ x.name, rfl, HE, by omega, hwr⟩
        case rest =>
          have hs := hcut
          clear hcut c0 c1 c2 c3 hs1 hs2
          obtain ⟨S2, rfl, HE, hS2, HW⟩ := hs
          generalize hTK : wrK S2.data.toList (x.keys.drop 0) = TK
          have HTK := Lib.hid hTK
          have HNX := Lib.hid (show wrL (TK ++ [59, 10]) (l.drop (i + 1)) = T by
            have h := HN.out
            unfold wrI at h
            rw [← HE.out] at h
            rw [List.drop_zero] at hTK
            rw [hTK] at h
            exact h)
          have HKS := Lib.hid (fun (k : Nat) (y : K) (S : ByteArray) (h : wrK S.data.toList (x.keys.drop k) = TK) (hy : x.keys[k]? = some y) => wrK_step h hy)
          have HKE := Lib.hid (fun (k : Nat) (S : ByteArray) (h : wrK S.data.toList (x.keys.drop k) = TK) (hk : x.keys.length ≤ k) => wrK_end h hk)
          clear hTK HN HE hl1
          generalize hkn2 : x.keys.length = kn at *
          clear hkn2
          go_wp2_with fail
          obtain ⟨wo, hwo⟩ : ∃ wo, wo = wr := ⟨_, rfl⟩
          subst hwo
          go_loopw [3, 5] (fun sv kv wq => ∃ (k : Nat) (S : ByteArray), k ≤ kn ∧ sv = .string S ∧ kv = .int .i64 k ∧ S.size ≤ 3000000 ∧ Hid (wrK S.data.toList (x.keys.drop k) = TK) ∧ Hid (Below w.heap.size w wq)) (fun _ kv _ => kn - (intOf kv).toNat)
          case atStart => exact ⟨0, S2, Nat.zero_le _, rfl, rfl, hS2, HTK, HW⟩
          case round =>
            clear HTK HW
            obtain ⟨k, S3, hk, rfl, rfl, hS3, hB, hwq⟩ := hrel
            obtain ⟨c0, c1, c2, c3⟩ := HA3.out _ hwq.out
            have hl1 : b1 < wr.heap.size := Nat.lt_of_lt_of_le HLT.out hwq.out.size
            by_cases hkm : k < kn
            · obtain rfl := HA1.out (by omega)
              obtain ⟨y, hy, hy1, hy2, hy3⟩ := HXX.out k hkm
              obtain ⟨ub, ug, uo, uc, u1, u2, u3⟩ := HA4.out k y hy
              obtain ⟨s1, s2⟩ := HKS.out k y S3 hB.out hy
              rw [ba_len] at s1 s2
              have hkl : kb1 < wr.heap.size := Nat.lt_of_lt_of_le (HA2.out (by omega)) hwq.out.size
              obtain ⟨c4, c5, _⟩ := u3 _ hwq.out
              have hkmi : (k : Int) < kn := by omega
              by_cases hbig : S3.size ≤ 20000
              · have hbi : (S3.size : Int) ≤ 20000 := by omega
                have hs1 : (S3 ++ (⟨#[32]⟩ : ByteArray)).size ≤ 20001 := by rw [ByteArray.size_append]; have : (⟨#[32]⟩ : ByteArray).size = 1 := rfl; omega
                have hs2 : (S3 ++ (⟨#[32]⟩ : ByteArray) ++ y.key).size ≤ 1020001 := by rw [ByteArray.size_append]; omega
                generalize hTV : wrV (S3 ++ (⟨#[32]⟩ : ByteArray) ++ y.key).data.toList (y.vals.drop 0) = TV
                have HTV := Lib.hid hTV
                have HNV := Lib.hid (show wrK TV (x.keys.drop (k + 1)) = TK by
                  have h := s2 (by omega)
                  rw [show S3.data.toList ++ 32 :: y.key.data.toList = (S3 ++ (⟨#[32]⟩ : ByteArray) ++ y.key).data.toList by rw [ba_add, ba_add]; simp] at h
                  rw [List.drop_zero] at hTV
                  rw [hTV] at h
                  exact h)
                have HVS := Lib.hid (fun (j : Nat) (n : Int) (S : ByteArray) (h : wrV S.data.toList (y.vals.drop j) = TV) (hn : y.vals[j]? = some n) => wrV_step h hn)
                have HVE := Lib.hid (fun (j : Nat) (S : ByteArray) (h : wrV S.data.toList (y.vals.drop j) = TV) (hj : y.vals.length ≤ j) => wrV_end h hj)
                have HYY := Lib.hid (fun (j : Nat) (hj : j < y.vals.length) => (⟨y.vals[j], List.getElem?_eq_getElem hj, hy3 _ (List.getElem_mem hj)⟩ : ∃ n, y.vals[j]? = some n ∧ -9223372036854775808 ≤ n ∧ n ≤ 9223372036854775807))
                have HU1 := Lib.hid u1
                have HU2 := Lib.hid u2
                have HU3 := Lib.hid u3
                have HKL := Lib.hid (HA2.out (by omega))
                clear s1 s2 hTV hy hy3 u1 u2 u3
                generalize hvn : y.vals.length = vn at *
                clear hvn
                go_wp2_with fail
                obtain ⟨wk, hwk⟩ : ∃ wk, wk = wr := ⟨_, rfl⟩
                subst hwk
                generalize S3 ++ (⟨#[32]⟩ : ByteArray) ++ y.key = S4 at *
                clear c0 c1 c2 c3 c4 c5 hl1 hkl hs1 hbi hbig hS3 hB
                go_loopw [3, 6] (fun sv jv wv => ∃ (j : Nat) (S : ByteArray), j ≤ vn ∧ sv = .string S ∧ jv = .int .i64 j ∧ S.size ≤ 2000000 ∧ Hid (wrV S.data.toList (y.vals.drop j) = TV) ∧ Hid (Below w.heap.size w wv)) (fun _ jv _ => vn - (intOf jv).toNat)
                case atStart => exact ⟨0, S4, Nat.zero_le _, rfl, rfl, by omega, HTV, hwq⟩
                case round =>
                  clear HTV
                  obtain ⟨j, S5, hj, rfl, rfl, hS5, hC, hwv⟩ := hrel
                  obtain ⟨c0, c1, c2, c3⟩ := HA3.out _ hwv.out
                  obtain ⟨c4, c5, c6⟩ := HU3.out _ hwv.out
                  have hl1 : b1 < wr.heap.size := Nat.lt_of_lt_of_le HLT.out hwv.out.size
                  have hkl : kb1 < wr.heap.size := Nat.lt_of_lt_of_le HKL.out hwv.out.size
                  by_cases hjm : j < vn
                  · obtain rfl := HU1.out (by omega)
                    obtain ⟨nn, hnn, hn1, hn2⟩ := HYY.out j hjm
                    obtain ⟨s1, s2⟩ := HVS.out j nn S5 hC.out hnn
                    rw [ba_len] at s1 s2
                    have c7 := c6 j nn hnn
                    have hul : ug < wr.heap.size := Nat.lt_of_lt_of_le (HU2.out (by omega)) hwv.out.size
                    have hjmi : (j : Int) < vn := by omega
                    by_cases hbig : S5.size ≤ 20000
                    · have hbi : (S5.size : Int) ≤ 20000 := by omega
                      have HV := Lib.hid (s2 (by omega))
                      have hil := Lib.itoa_length_le nn hn1 hn2
                      have HDN := Lib.hid (fun W => HDG.out nn hn1 hn2 W)
                      have hs1 : (S5 ++ (⟨#[32]⟩ : ByteArray)).size ≤ 20001 := by rw [ByteArray.size_append]; have : (⟨#[32]⟩ : ByteArray).size = 1 := rfl; omega
                      obtain ⟨D, hD⟩ : ∃ D : ByteArray, D = ⟨(Lib.itoa nn).toArray⟩ := ⟨_, rfl⟩
                      have HDD := Lib.hid (show D.data.toList = Lib.itoa nn by rw [hD])
                      have hDs : D.size ≤ 21 := by rw [← ba_len, HDD.out]; exact hil
                      rw [← hD] at HDN
                      have hs2 : (S5 ++ (⟨#[32]⟩ : ByteArray) ++ D).size ≤ 20022 := by rw [ByteArray.size_append]; omega
                      clear s1 s2 hnn c6 hn1 hn2 hil hD
                      go_wp2_with fail
                      refine (HDN.out _).mono ?_
                      rintro e w6 ⟨rfl, q6⟩
                      go_wp2_with fail
                      go_roundw
                      case rel => exact ⟨j + 1, S5 ++ (⟨#[32]⟩ : ByteArray) ++ D, by omega, rfl, by go_num, by omega, Lib.hid (by
                        have h := HV.out
                        rw [← HDD.out] at h
                        rw [ba_add, ba_add]
                        simpa using h), Lib.hid (next hwv.out q6)⟩
                      case measure => simp [intOf]; omega
                    · have hbi : ¬ (S5.size : Int) ≤ 20000 := by omega
                      have HV := Lib.hid (s1 (by omega))
                      clear s1 s2 hnn c6
                      go_wp2_with fail
                      go_roundw
                      case rel => exact ⟨k + 1, S5, by omega, rfl, by go_num, by omega, Lib.hid (by rw [HV.out]; exact HNV.out), hwv⟩
                      case measure => simp [intOf]; omega
                  · have hje : j = vn := by omega
                    have hjmi : ¬ (j : Int) < vn := by omega
                    have HV := Lib.hid (HVE.out j S5 hC.out (by omega))
                    clear c6
                    go_wp2_with fail
                    go_roundw
                    case rel => exact ⟨k + 1, S5, by omega, rfl, by go_num, by omega, Lib.hid (by rw [HV.out]; exact HNV.out), hwv⟩
                    case measure => simp [intOf]; omega
              · have hbi : ¬ (S3.size : Int) ≤ 20000 := by omega
                have HV := Lib.hid (s1 (by omega))
                have hs2 : (S3 ++ (⟨#[59, 10]⟩ : ByteArray)).size ≤ 3000002 := by rw [ByteArray.size_append]; have : (⟨#[59, 10]⟩ : ByteArray).size = 2 := rfl; omega
                clear s1 s2 hy hy3 u1 u2 u3
                go_wp2_with fail
                go_roundw
                case rel => exact ⟨i + 1, S3 ++ (⟨#[59, 10]⟩ : ByteArray), by omega, rfl, by go_num, by omega, Lib.hid (by rw [ba_add, HV.out]; exact HNX.out), hwq⟩
                case measure => simp [intOf]; omega
            · have hke : k = kn := by omega
              have hkmi : ¬ (k : Int) < kn := by omega
              have HV := Lib.hid (HKE.out k S3 hB.out (by omega))
              have hs2 : (S3 ++ (⟨#[59, 10]⟩ : ByteArray)).size ≤ 3000002 := by rw [ByteArray.size_append]; have : (⟨#[59, 10]⟩ : ByteArray).size = 2 := rfl; omega
              go_wp2_with fail
              go_roundw
              case rel => exact ⟨i + 1, S3 ++ (⟨#[59, 10]⟩ : ByteArray), by omega, rfl, by go_num, by omega, Lib.hid (by rw [ba_add, HV.out]; exact HNX.out), hwq⟩
              case measure => simp [intOf]; omega
      · have hbi : ¬ (S.size : Int) ≤ 20000 := by omega
        have hV := s1 (by omega)
        subst hV
        clear s1 s2 hx hxo
        go_wp2_with fail
        go_ret
        exact ⟨by rw [ba_mk]; rfl, hwr.out⟩
    · have hie : i = n := by omega
      subst hie
      have hV := HSE.out i S hA.out (Nat.le_refl _)
      subst hV
      have hik : ¬ (i : Int) < i := by omega
      go_wp2_with fail
      go_ret
      exact ⟨by rw [ba_mk]; rfl, hwr.out⟩
end Go.Proofs.YtdikoeeoglfmaaaGreatDoor

/-
  The reference's test of a word: plain laws.
-/
import Derived.Test.YtialbhllnhkkeaaDoorScAgainM
namespace SC
open Go Go.RowKit PB
/-- What the reference asks of the words of a word's text. -/
def okW (kd : Int) (T : List UInt8) (nm : Int) : WR → Bool
  | .ok [y] => decide (y.kind = kd) && (decide (y.text = T) && decide (y.num = nm))
  | _ => false
theorem okW_fit {kd nm : Int} {T : List UInt8} : okW kd T nm (words T) = (decide (T.length ≤ 20000) && fitB kd T nm) := by
  rw [Bool.eq_iff_iff]
  constructor
  · intro h
    cases hw : words T with
    | bad e p => rw [hw] at h; cases h
    | ok l =>
      rw [hw] at h
      match l, h with
      | [y], h =>
        have hc := words_chain hw
        have hT : T.length ≤ 20000 := by
          unfold words at hw
          split at hw
          · cases hw
          · omega
        unfold okW at h
        simp only [Bool.and_eq_true, decide_eq_true_eq] at h
        obtain ⟨rfl, rfl, rfl⟩ := h
        rw [Bool.and_eq_true]
        exact ⟨by simpa using hT, fitB_fit hc.2.2.2.1⟩
  · intro h
    rw [Bool.and_eq_true, decide_eq_true_eq] at h
    have hf : Fit ⟨kd, T, nm, 0⟩ := fit_fitB h.2
    obtain ⟨m, hm, hs, _⟩ := words_join (ws := [⟨kd, T, nm, 0⟩]) (r := T) (by
      rw [joinF, if_pos ⟨by show ([] : List UInt8).length + T.length ≤ 20000; simpa using h.1, h.2⟩]
      rfl)
    rw [hm]
    match m, hs with
    | [y], hs =>
      obtain ⟨⟨h1, h2, h3⟩, _⟩ := hs
      have e1 : y.kind = kd := h1
      have e2 : y.text = T := h2
      have e3 : y.num = nm := h3
      show (decide (y.kind = kd) && (decide (y.text = T) && decide (y.num = nm))) = true
      rw [e1, e2, e3]
      simp
/-- The reference joins with strings. -/
theorem joinF_bad {acc : List UInt8} {first : Bool} {ws : List W} {k : Nat} {x : W} {r : Option (List UInt8)} (h : joinF acc first (ws.drop k) = r) (hx : ws[k]? = some x) (h1 : okW x.kind x.text x.num (words x.text) = false) : r = none :=
  joinF_no h hx (fun hh => by
    rw [okW_fit, hh.2, Bool.and_true, decide_eq_false_iff_not] at h1
    exact h1 (by have := hh.1; omega))
theorem joinF_long {acc : List UInt8} {first : Bool} {ws : List W} {k : Nat} {x : W} {r : Option (List UInt8)} (h : joinF acc first (ws.drop k) = r) (hx : ws[k]? = some x) (h1 : 20000 < (sepB first acc).length + x.text.length) : r = none :=
  joinF_no h hx (fun hh => by have := hh.1; omega)
theorem joinF_good {acc : List UInt8} {first : Bool} {ws : List W} {k : Nat} {x : W} {r : Option (List UInt8)} (h : joinF acc first (ws.drop k) = r) (hx : ws[k]? = some x) (h1 : okW x.kind x.text x.num (words x.text) = true) (h2 : (sepB first acc).length + x.text.length ≤ 20000) : joinF (sepB first acc ++ x.text) false (ws.drop (k + 1)) = r :=
  joinF_go h hx h2 (by rw [okW_fit, Bool.and_eq_true] at h1; exact h1.2)
end SC

/-
  The table of words and keys: the code.
-/
import Derived.Test.YtdikoeeoglfmaaaGreatDoorM02
import Derived.Test.YtdikoeeoglfmaaaGreatDoorM10
namespace SS
open Go Go.RowKit PB SC
theorem rowIn_mem {t : List (ByteArray × List (ByteArray × Nat))} {w : ByteArray} (h : rowIn t w ≠ []) : ∃ r ∈ t, r.1 = w ∧ rowIn t w = r.2 := by
  induction t with
  | nil => exact absurd rfl h
  | cons r t ih =>
    by_cases hr : r.1 = w
    · exact ⟨r, List.mem_cons_self, hr, by unfold rowIn; rw [if_pos hr]⟩
    · unfold rowIn at h ⊢
      rw [if_neg hr] at h ⊢
      obtain ⟨q, hq, h1, h2⟩ := ih h
      exact ⟨q, List.mem_cons_of_mem _ hq, h1, h2⟩
theorem rowOf_none {w : ByteArray} (h : ∀ r ∈ tab, ¬ w = r.1) : rowOf w = [] := by
  by_cases h0 : rowIn tab w = []
  · exact h0
  · obtain ⟨r, hr, h1, _⟩ := rowIn_mem h0
    exact absurd h1.symm (h r hr)
theorem beq_str {a b : ByteArray} (h : ¬ a = b) : (a.toList == b.toList) = false := by
  rw [beq_eq_false_iff_ne, Lib.toList_data, Lib.toList_data]
  intro e
  apply h
  cases a; cases b
  congr 1
  exact Array.toList_inj.1 e
theorem beq_str_self (a : ByteArray) : (a.toList == a.toList) = true := beq_self_eq_true _
theorem beq_str_dec (a b : ByteArray) : (a.toList == b.toList) = decide (a = b) := by
  by_cases h : a = b
  · subst h; simp
  · rw [beq_str h, decide_eq_false h]
end SS
namespace SS
open Go Go.RowKit PB SC
instance decMemB (x : ByteArray) : (l : List ByteArray) → Decidable (x ∈ l)
  | [] => isFalse (by simp)
  | y :: t => if h : x = y then isTrue (by simp [h]) else
    match decMemB x t with
    | isTrue h' => isTrue (List.mem_cons_of_mem _ h')
    | isFalse h' => isFalse (by simp [h, h'])
theorem beq_l {s : ByteArray} {l : List UInt8} (h : ¬ s = ⟨l.toArray⟩) : (s.toList == l) = false := by
  have := beq_str h
  rw [Lib.toList_data (⟨l.toArray⟩ : ByteArray)] at this
  exact this
/-- A new slice of strings. -/
theorem rds_new (w : World) (ss : List ByteArray) (T : TypeId) (vs : Array Value) (hv : vs = (ss.map Value.string).toArray) (h0 : ss ≠ []) : RdS (w.alloc (.cells vs T)) (.slice (some ⟨w.heap.size, 0, none⟩) ss.length ss.length) ss := by
  subst hv
  refine ⟨_, w.heap.size, 0, _, rfl, fun _ => rfl, fun _ => by simp, fun h => absurd (List.eq_nil_of_length_eq_zero h) h0, fun j u hu => ?_⟩
  exact cell_new w _ T _ _ _ rfl (by simpa using hu)
end SS
namespace Go.Proofs.YtdikoeeoglfmaaaGreatDoor
open Go.RowKit SC PB SS
set_option maxHeartbeats 4000000 in
set_option maxRecDepth 100000 in
theorem keys_any (s : ByteArray) (w : World) :
    Calls Tryz.prog 25 #[.string s] w fun e w' => ∃ v, e = .returned v ∧ RdS w' v (keysOf s) ∧ Below w.heap.size w w' := by
  by_cases h : ∃ r ∈ tab, s = r.1
  · obtain ⟨r, hr, rfl⟩ := h
    simp only [tab, List.mem_cons, List.not_mem_nil, or_false] at hr
    rcases hr with rfl | rfl | rfl | rfl | rfl | rfl | rfl | rfl | rfl | rfl | rfl | rfl | rfl | rfl
    · have HK := Lib.hid (show keysOf ⟨#[116, 97, 98, 108, 101]⟩ = [⟨#[114, 97, 100, 105, 117, 115]⟩, ⟨#[98, 97, 108, 108, 115]⟩, ⟨#[103, 114, 97, 118, 105, 116, 121]⟩, ⟨#[100, 114, 97, 103]⟩, ⟨#[114, 101, 115, 116]⟩, ⟨#[116, 114, 111, 117, 103, 104]⟩] by kernel_rfl)
      dsimp only
      go_enter Tryz.func25, Tryz.ntmps25
      go_wp2_with fail
      go_ret
      exact ⟨_, rfl, by rw [HK.out]; exact rds_new w [⟨#[114, 97, 100, 105, 117, 115]⟩, ⟨#[98, 97, 108, 108, 115]⟩, ⟨#[103, 114, 97, 118, 105, 116, 121]⟩, ⟨#[100, 114, 97, 103]⟩, ⟨#[114, 101, 115, 116]⟩, ⟨#[116, 114, 111, 117, 103, 104]⟩] _ _ rfl (List.cons_ne_nil _ _), (Below.refl _ _).alloc (Nat.le_refl _) _⟩
    · have HK := Lib.hid (show keysOf ⟨#[119, 97, 108, 108]⟩ = [⟨#[108, 101, 118, 101, 108]⟩, ⟨#[102, 114, 111, 109]⟩, ⟨#[116, 111]⟩, ⟨#[114, 101, 115, 116]⟩, ⟨#[103, 114, 105, 112]⟩, ⟨#[107, 105, 99, 107]⟩, ⟨#[109, 105, 110]⟩, ⟨#[99, 111, 105, 108]⟩, ⟨#[115, 119, 105, 116, 99, 104]⟩] by kernel_rfl)
      dsimp only
      go_enter Tryz.func25, Tryz.ntmps25
      go_wp2_with fail
      go_ret
      exact ⟨_, rfl, by rw [HK.out]; exact rds_new w [⟨#[108, 101, 118, 101, 108]⟩, ⟨#[102, 114, 111, 109]⟩, ⟨#[116, 111]⟩, ⟨#[114, 101, 115, 116]⟩, ⟨#[103, 114, 105, 112]⟩, ⟨#[107, 105, 99, 107]⟩, ⟨#[109, 105, 110]⟩, ⟨#[99, 111, 105, 108]⟩, ⟨#[115, 119, 105, 116, 99, 104]⟩] _ _ rfl (List.cons_ne_nil _ _), (Below.refl _ _).alloc (Nat.le_refl _) _⟩
    · have HK := Lib.hid (show keysOf ⟨#[103, 97, 116, 101]⟩ = [⟨#[108, 101, 118, 101, 108]⟩, ⟨#[102, 114, 111, 109]⟩, ⟨#[116, 111]⟩, ⟨#[114, 101, 115, 116]⟩, ⟨#[103, 114, 105, 112]⟩, ⟨#[107, 105, 99, 107]⟩, ⟨#[109, 105, 110]⟩, ⟨#[99, 111, 105, 108]⟩, ⟨#[115, 119, 105, 116, 99, 104]⟩] by kernel_rfl)
      dsimp only
      go_enter Tryz.func25, Tryz.ntmps25
      go_wp2_with fail
      go_ret
      exact ⟨_, rfl, by rw [HK.out]; exact rds_new w [⟨#[108, 101, 118, 101, 108]⟩, ⟨#[102, 114, 111, 109]⟩, ⟨#[116, 111]⟩, ⟨#[114, 101, 115, 116]⟩, ⟨#[103, 114, 105, 112]⟩, ⟨#[107, 105, 99, 107]⟩, ⟨#[109, 105, 110]⟩, ⟨#[99, 111, 105, 108]⟩, ⟨#[115, 119, 105, 116, 99, 104]⟩] _ _ rfl (List.cons_ne_nil _ _), (Below.refl _ _).alloc (Nat.le_refl _) _⟩
    · have HK := Lib.hid (show keysOf ⟨#[116, 97, 114, 103, 101, 116]⟩ = [⟨#[108, 101, 118, 101, 108]⟩, ⟨#[102, 114, 111, 109]⟩, ⟨#[116, 111]⟩, ⟨#[114, 101, 115, 116]⟩, ⟨#[103, 114, 105, 112]⟩, ⟨#[107, 105, 99, 107]⟩, ⟨#[109, 105, 110]⟩, ⟨#[99, 111, 105, 108]⟩, ⟨#[115, 119, 105, 116, 99, 104]⟩] by kernel_rfl)
      dsimp only
      go_enter Tryz.func25, Tryz.ntmps25
      go_wp2_with fail
      go_ret
      exact ⟨_, rfl, by rw [HK.out]; exact rds_new w [⟨#[108, 101, 118, 101, 108]⟩, ⟨#[102, 114, 111, 109]⟩, ⟨#[116, 111]⟩, ⟨#[114, 101, 115, 116]⟩, ⟨#[103, 114, 105, 112]⟩, ⟨#[107, 105, 99, 107]⟩, ⟨#[109, 105, 110]⟩, ⟨#[99, 111, 105, 108]⟩, ⟨#[115, 119, 105, 116, 99, 104]⟩] _ _ rfl (List.cons_ne_nil _ _), (Below.refl _ _).alloc (Nat.le_refl _) _⟩
    · have HK := Lib.hid (show keysOf ⟨#[115, 108, 105, 110, 103]⟩ = [⟨#[108, 101, 118, 101, 108]⟩, ⟨#[102, 114, 111, 109]⟩, ⟨#[116, 111]⟩, ⟨#[114, 101, 115, 116]⟩, ⟨#[103, 114, 105, 112]⟩, ⟨#[107, 105, 99, 107]⟩, ⟨#[109, 105, 110]⟩, ⟨#[99, 111, 105, 108]⟩, ⟨#[115, 119, 105, 116, 99, 104]⟩] by kernel_rfl)
      dsimp only
      go_enter Tryz.func25, Tryz.ntmps25
      go_wp2_with fail
      go_ret
      exact ⟨_, rfl, by rw [HK.out]; exact rds_new w [⟨#[108, 101, 118, 101, 108]⟩, ⟨#[102, 114, 111, 109]⟩, ⟨#[116, 111]⟩, ⟨#[114, 101, 115, 116]⟩, ⟨#[103, 114, 105, 112]⟩, ⟨#[107, 105, 99, 107]⟩, ⟨#[109, 105, 110]⟩, ⟨#[99, 111, 105, 108]⟩, ⟨#[115, 119, 105, 116, 99, 104]⟩] _ _ rfl (List.cons_ne_nil _ _), (Below.refl _ _).alloc (Nat.le_refl _) _⟩
    · have HK := Lib.hid (show keysOf ⟨#[97, 114, 99]⟩ = [⟨#[108, 101, 118, 101, 108]⟩, ⟨#[99, 101, 110, 116, 101, 114]⟩, ⟨#[102, 114, 111, 109]⟩, ⟨#[116, 111]⟩, ⟨#[114, 101, 115, 116]⟩, ⟨#[103, 114, 105, 112]⟩, ⟨#[109, 105, 110]⟩, ⟨#[115, 119, 105, 116, 99, 104]⟩] by kernel_rfl)
      dsimp only
      go_enter Tryz.func25, Tryz.ntmps25
      go_wp2_with fail
      go_ret
      exact ⟨_, rfl, by rw [HK.out]; exact rds_new w [⟨#[108, 101, 118, 101, 108]⟩, ⟨#[99, 101, 110, 116, 101, 114]⟩, ⟨#[102, 114, 111, 109]⟩, ⟨#[116, 111]⟩, ⟨#[114, 101, 115, 116]⟩, ⟨#[103, 114, 105, 112]⟩, ⟨#[109, 105, 110]⟩, ⟨#[115, 119, 105, 116, 99, 104]⟩] _ _ rfl (List.cons_ne_nil _ _), (Below.refl _ _).alloc (Nat.le_refl _) _⟩
    · have HK := Lib.hid (show keysOf ⟨#[112, 111, 115, 116]⟩ = [⟨#[108, 101, 118, 101, 108]⟩, ⟨#[99, 101, 110, 116, 101, 114]⟩, ⟨#[115, 105, 122, 101]⟩, ⟨#[114, 101, 115, 116]⟩, ⟨#[103, 114, 105, 112]⟩, ⟨#[107, 105, 99, 107]⟩, ⟨#[109, 105, 110]⟩, ⟨#[99, 111, 105, 108]⟩, ⟨#[115, 119, 105, 116, 99, 104]⟩] by kernel_rfl)
      dsimp only
      go_enter Tryz.func25, Tryz.ntmps25
      go_wp2_with fail
      go_ret
      exact ⟨_, rfl, by rw [HK.out]; exact rds_new w [⟨#[108, 101, 118, 101, 108]⟩, ⟨#[99, 101, 110, 116, 101, 114]⟩, ⟨#[115, 105, 122, 101]⟩, ⟨#[114, 101, 115, 116]⟩, ⟨#[103, 114, 105, 112]⟩, ⟨#[107, 105, 99, 107]⟩, ⟨#[109, 105, 110]⟩, ⟨#[99, 111, 105, 108]⟩, ⟨#[115, 119, 105, 116, 99, 104]⟩] _ _ rfl (List.cons_ne_nil _ _), (Below.refl _ _).alloc (Nat.le_refl _) _⟩
    · have HK := Lib.hid (show keysOf ⟨#[102, 108, 105, 112, 112, 101, 114]⟩ = [⟨#[108, 101, 118, 101, 108]⟩, ⟨#[99, 101, 110, 116, 101, 114]⟩, ⟨#[108, 101, 110, 103, 116, 104]⟩, ⟨#[109, 105, 114, 114, 111, 114]⟩, ⟨#[114, 97, 110, 103, 101]⟩, ⟨#[117, 112]⟩, ⟨#[100, 111, 119, 110]⟩, ⟨#[109, 97, 120]⟩, ⟨#[114, 101, 115, 116]⟩, ⟨#[103, 114, 105, 112]⟩, ⟨#[99, 111, 105, 108]⟩, ⟨#[115, 119, 105, 116, 99, 104]⟩] by kernel_rfl)
      dsimp only
      go_enter Tryz.func25, Tryz.ntmps25
      go_wp2_with fail
      go_ret
      exact ⟨_, rfl, by rw [HK.out]; exact rds_new w [⟨#[108, 101, 118, 101, 108]⟩, ⟨#[99, 101, 110, 116, 101, 114]⟩, ⟨#[108, 101, 110, 103, 116, 104]⟩, ⟨#[109, 105, 114, 114, 111, 114]⟩, ⟨#[114, 97, 110, 103, 101]⟩, ⟨#[117, 112]⟩, ⟨#[100, 111, 119, 110]⟩, ⟨#[109, 97, 120]⟩, ⟨#[114, 101, 115, 116]⟩, ⟨#[103, 114, 105, 112]⟩, ⟨#[99, 111, 105, 108]⟩, ⟨#[115, 119, 105, 116, 99, 104]⟩] _ _ rfl (List.cons_ne_nil _ _), (Below.refl _ _).alloc (Nat.le_refl _) _⟩
    · have HK := Lib.hid (show keysOf ⟨#[122, 111, 110, 101]⟩ = [⟨#[108, 101, 118, 101, 108]⟩, ⟨#[102, 114, 111, 109]⟩, ⟨#[116, 111]⟩, ⟨#[104, 97, 108, 102]⟩, ⟨#[99, 111, 105, 108]⟩] by kernel_rfl)
      dsimp only
      go_enter Tryz.func25, Tryz.ntmps25
      go_wp2_with fail
      go_ret
      exact ⟨_, rfl, by rw [HK.out]; exact rds_new w [⟨#[108, 101, 118, 101, 108]⟩, ⟨#[102, 114, 111, 109]⟩, ⟨#[116, 111]⟩, ⟨#[104, 97, 108, 102]⟩, ⟨#[99, 111, 105, 108]⟩] _ _ rfl (List.cons_ne_nil _ _), (Below.refl _ _).alloc (Nat.le_refl _) _⟩
    · have HK := Lib.hid (show keysOf ⟨#[115, 97, 117, 99, 101, 114]⟩ = [⟨#[108, 101, 118, 101, 108]⟩, ⟨#[99, 101, 110, 116, 101, 114]⟩, ⟨#[115, 105, 122, 101]⟩, ⟨#[108, 105, 109, 105, 116]⟩, ⟨#[111, 117, 116]⟩, ⟨#[99, 111, 105, 108]⟩, ⟨#[115, 119, 105, 116, 99, 104]⟩] by kernel_rfl)
      dsimp only
      go_enter Tryz.func25, Tryz.ntmps25
      go_wp2_with fail
      go_ret
      exact ⟨_, rfl, by rw [HK.out]; exact rds_new w [⟨#[108, 101, 118, 101, 108]⟩, ⟨#[99, 101, 110, 116, 101, 114]⟩, ⟨#[115, 105, 122, 101]⟩, ⟨#[108, 105, 109, 105, 116]⟩, ⟨#[111, 117, 116]⟩, ⟨#[99, 111, 105, 108]⟩, ⟨#[115, 119, 105, 116, 99, 104]⟩] _ _ rfl (List.cons_ne_nil _ _), (Below.refl _ _).alloc (Nat.le_refl _) _⟩
    · have HK := Lib.hid (show keysOf ⟨#[108, 97, 110, 101]⟩ = [⟨#[108, 101, 118, 101, 108]⟩, ⟨#[99, 101, 110, 116, 101, 114]⟩, ⟨#[115, 105, 122, 101]⟩, ⟨#[115, 119, 105, 116, 99, 104]⟩] by kernel_rfl)
      dsimp only
      go_enter Tryz.func25, Tryz.ntmps25
      go_wp2_with fail
      go_ret
      exact ⟨_, rfl, by rw [HK.out]; exact rds_new w [⟨#[108, 101, 118, 101, 108]⟩, ⟨#[99, 101, 110, 116, 101, 114]⟩, ⟨#[115, 105, 122, 101]⟩, ⟨#[115, 119, 105, 116, 99, 104]⟩] _ _ rfl (List.cons_ne_nil _ _), (Below.refl _ _).alloc (Nat.le_refl _) _⟩
    · have HK := Lib.hid (show keysOf ⟨#[114, 97, 109, 112]⟩ = [⟨#[108, 101, 118, 101, 108]⟩, ⟨#[105, 110, 116, 111]⟩, ⟨#[99, 101, 110, 116, 101, 114]⟩, ⟨#[115, 105, 122, 101]⟩, ⟨#[100, 105, 114]⟩] by kernel_rfl)
      dsimp only
      go_enter Tryz.func25, Tryz.ntmps25
      go_wp2_with fail
      go_ret
      exact ⟨_, rfl, by rw [HK.out]; exact rds_new w [⟨#[108, 101, 118, 101, 108]⟩, ⟨#[105, 110, 116, 111]⟩, ⟨#[99, 101, 110, 116, 101, 114]⟩, ⟨#[115, 105, 122, 101]⟩, ⟨#[100, 105, 114]⟩] _ _ rfl (List.cons_ne_nil _ _), (Below.refl _ _).alloc (Nat.le_refl _) _⟩
    · have HK := Lib.hid (show keysOf ⟨#[100, 114, 97, 105, 110]⟩ = [⟨#[108, 101, 118, 101, 108]⟩, ⟨#[99, 101, 110, 116, 101, 114]⟩, ⟨#[115, 105, 122, 101]⟩] by kernel_rfl)
      dsimp only
      go_enter Tryz.func25, Tryz.ntmps25
      go_wp2_with fail
      go_ret
      exact ⟨_, rfl, by rw [HK.out]; exact rds_new w [⟨#[108, 101, 118, 101, 108]⟩, ⟨#[99, 101, 110, 116, 101, 114]⟩, ⟨#[115, 105, 122, 101]⟩] _ _ rfl (List.cons_ne_nil _ _), (Below.refl _ _).alloc (Nat.le_refl _) _⟩
    · have HK := Lib.hid (show keysOf ⟨#[108, 97, 117, 110, 99, 104, 101, 114]⟩ = [⟨#[108, 101, 118, 101, 108]⟩, ⟨#[99, 101, 110, 116, 101, 114]⟩, ⟨#[111, 117, 116]⟩, ⟨#[99, 111, 105, 108]⟩] by kernel_rfl)
      dsimp only
      go_enter Tryz.func25, Tryz.ntmps25
      go_wp2_with fail
      go_ret
      exact ⟨_, rfl, by rw [HK.out]; exact rds_new w [⟨#[108, 101, 118, 101, 108]⟩, ⟨#[99, 101, 110, 116, 101, 114]⟩, ⟨#[111, 117, 116]⟩, ⟨#[99, 111, 105, 108]⟩] _ _ rfl (List.cons_ne_nil _ _), (Below.refl _ _).alloc (Nat.le_refl _) _⟩
  · have h0 : ∀ r ∈ tab, ¬ s = r.1 := fun r hr e => h ⟨r, hr, e⟩
    have HK := Lib.hid (show keysOf s = [] by unfold keysOf; rw [rowOf_none h0]; rfl)
    simp only [tab, List.mem_cons, List.not_mem_nil, or_false, forall_eq_or_imp, forall_eq] at h0
    obtain ⟨u0, u1, u2, u3, u4, u5, u6, u7, u8, u9, u10, u11, u12, u13⟩ := h0
    have t0 := beq_l (l := [116, 97, 98, 108, 101]) u0
    have t1 := beq_l (l := [119, 97, 108, 108]) u1
    have t2 := beq_l (l := [103, 97, 116, 101]) u2
    have t3 := beq_l (l := [116, 97, 114, 103, 101, 116]) u3
    have t4 := beq_l (l := [115, 108, 105, 110, 103]) u4
    have t5 := beq_l (l := [97, 114, 99]) u5
    have t6 := beq_l (l := [112, 111, 115, 116]) u6
    have t7 := beq_l (l := [102, 108, 105, 112, 112, 101, 114]) u7
    have t8 := beq_l (l := [122, 111, 110, 101]) u8
    have t9 := beq_l (l := [115, 97, 117, 99, 101, 114]) u9
    have t10 := beq_l (l := [108, 97, 110, 101]) u10
    have t11 := beq_l (l := [114, 97, 109, 112]) u11
    have t12 := beq_l (l := [100, 114, 97, 105, 110]) u12
    have t13 := beq_l (l := [108, 97, 117, 110, 99, 104, 101, 114]) u13
    clear h u0 u1 u2 u3 u4 u5 u6 u7 u8 u9 u10 u11 u12 u13
    go_enter Tryz.func25, Tryz.ntmps25
    go_wp2_with fail
    go_ret
    exact ⟨_, rfl, by rw [HK.out]; exact ⟨none, 0, 0, 0, rfl, fun h => absurd rfl h, fun h => absurd rfl h, fun _ => rfl, fun j u hu => by simp at hu⟩, Below.refl _ _⟩
end Go.Proofs.YtdikoeeoglfmaaaGreatDoor
namespace SS
/-- How many numbers stand behind a key, whatever its word. -/
def numsOf (k : ByteArray) : Nat := if k = ⟨#[109, 105, 114, 114, 111, 114]⟩ then 0 else if k ∈ ([⟨#[103, 114, 97, 118, 105, 116, 121]⟩, ⟨#[100, 114, 97, 103]⟩, ⟨#[102, 114, 111, 109]⟩, ⟨#[116, 111]⟩, ⟨#[99, 101, 110, 116, 101, 114]⟩, ⟨#[114, 97, 110, 103, 101]⟩, ⟨#[104, 97, 108, 102]⟩, ⟨#[111, 117, 116]⟩, ⟨#[100, 105, 114]⟩] : List ByteArray) then 2 else 1
theorem look_mem {l : List (ByteArray × Nat)} {k : ByteArray} (h : ∀ r ∈ l, r.2 = numsOf r.1) : look l k = if k ∈ l.map (·.1) then some (numsOf k) else none := by
  induction l with
  | nil => rfl
  | cons r t ih =>
    unfold look
    by_cases hr : r.1 = k
    · subst hr
      rw [if_pos rfl, if_pos (by simp), h r List.mem_cons_self]
    · rw [if_neg hr, ih (fun q hq => h q (List.mem_cons_of_mem _ hq))]
      have : (k ∈ (r :: t).map (·.1)) ↔ k ∈ t.map (·.1) := by
        simp only [List.map_cons, List.mem_cons]
        exact ⟨fun h => h.resolve_left (fun e => hr e.symm), .inr⟩
      by_cases hm : k ∈ t.map (·.1)
      · rw [if_pos hm, if_pos (this.2 hm)]
      · rw [if_neg hm, if_neg (fun h => hm (this.1 h))]
theorem tab_nums : ∀ r ∈ tab, ∀ q ∈ r.2, q.2 = numsOf q.1 := by decide +kernel
theorem row_nums (w : ByteArray) : ∀ q ∈ rowOf w, q.2 = numsOf q.1 := by
  intro q hq
  have hne : rowIn tab w ≠ [] := by intro e; unfold rowOf at hq; rw [e] at hq; simp at hq
  obtain ⟨r, hr, _, h2⟩ := rowIn_mem hne
  unfold rowOf at hq
  rw [h2] at hq
  exact tab_nums r hr q hq
theorem arityN_eq (w k : ByteArray) : arityN w k = if k ∈ keysOf w then some (numsOf k) else none := look_mem (row_nums w)
theorem tab_few : ∀ r ∈ tab, r.2.length ≤ 12 := by decide +kernel
theorem keysOf_few (w : ByteArray) : (keysOf w).length ≤ 12 := by
  unfold keysOf
  rw [List.length_map]
  by_cases h : rowIn tab w = []
  · unfold rowOf; rw [h]; decide
  · obtain ⟨r, hr, _, h2⟩ := rowIn_mem h
    unfold rowOf; rw [h2]; exact tab_few r hr
theorem containsS_eq (l : List ByteArray) (x : ByteArray) : Go.Lib.containsS l x = decide (x ∈ l) := by
  rw [Bool.eq_iff_iff, Go.Lib.containsS_iff]; simp
end SS
namespace Go.Proofs.YtdikoeeoglfmaaaGreatDoor
open Go.RowKit SC PB SS
set_option maxHeartbeats 4000000 in
set_option maxRecDepth 100000 in
theorem numbers_any (s : ByteArray) (w : World) :
    Calls Tryz.prog 26 #[.string s] w fun e w' => e = .returned (.int .i64 (numsOf s : Nat)) ∧ w' = w := by
  by_cases h : s ∈ ([⟨#[109, 105, 114, 114, 111, 114]⟩, ⟨#[103, 114, 97, 118, 105, 116, 121]⟩, ⟨#[100, 114, 97, 103]⟩, ⟨#[102, 114, 111, 109]⟩, ⟨#[116, 111]⟩, ⟨#[99, 101, 110, 116, 101, 114]⟩, ⟨#[114, 97, 110, 103, 101]⟩, ⟨#[104, 97, 108, 102]⟩, ⟨#[111, 117, 116]⟩, ⟨#[100, 105, 114]⟩] : List ByteArray)
  · simp only [List.mem_cons, List.not_mem_nil, or_false] at h
    rcases h with rfl | rfl | rfl | rfl | rfl | rfl | rfl | rfl | rfl | rfl
    all_goals
      go_enter Tryz.func26, Tryz.ntmps26
      go_wp2_with fail
      go_ret
      exact ⟨by kernel_rfl, rfl⟩
  · have HK := Lib.hid (show numsOf s = 1 by
      unfold numsOf
      rw [if_neg (fun e => h (by rw [e]; decide)), if_neg (fun e => h (List.mem_cons_of_mem _ e))])
    have t0 := beq_l (s := s) (l := [109, 105, 114, 114, 111, 114]) (fun e => h (by rw [e]; decide))
    have t1 := beq_l (s := s) (l := [103, 114, 97, 118, 105, 116, 121]) (fun e => h (by rw [e]; decide))
    have t2 := beq_l (s := s) (l := [100, 114, 97, 103]) (fun e => h (by rw [e]; decide))
    have t3 := beq_l (s := s) (l := [102, 114, 111, 109]) (fun e => h (by rw [e]; decide))
    have t4 := beq_l (s := s) (l := [116, 111]) (fun e => h (by rw [e]; decide))
    have t5 := beq_l (s := s) (l := [99, 101, 110, 116, 101, 114]) (fun e => h (by rw [e]; decide))
    have t6 := beq_l (s := s) (l := [114, 97, 110, 103, 101]) (fun e => h (by rw [e]; decide))
    have t7 := beq_l (s := s) (l := [104, 97, 108, 102]) (fun e => h (by rw [e]; decide))
    have t8 := beq_l (s := s) (l := [111, 117, 116]) (fun e => h (by rw [e]; decide))
    have t9 := beq_l (s := s) (l := [100, 105, 114]) (fun e => h (by rw [e]; decide))
    clear h
    go_enter Tryz.func26, Tryz.ntmps26
    go_wp2_with fail
    go_ret
    exact ⟨by rw [HK.out]; rfl, rfl⟩
set_option maxHeartbeats 4000000 in
set_option maxRecDepth 100000 in
/-- Arity. -/
theorem arity_any (s k : ByteArray) (w : World) :
    Calls Tryz.prog 11 #[.string s, .string k] w fun e w' => e = .returned (.int .i64 (arity s k)) ∧ Below w.heap.size w w' := by
  have HK := Lib.hid (keys_any s)
  have HN := Lib.hid (numbers_any k)
  have HC : Hid (∀ w v, RdS w v (keysOf s) → Calls Tryz.prog 24 #[v, .string k] w fun e w' => e = .returned (.bool (decide (k ∈ keysOf s))) ∧ w' = w) := Lib.hid fun w v h => by
    obtain ⟨base, b, off, c, rfl, h1, h2, h4⟩ := h.form
    by_cases h0 : (keysOf s).length = 0
    · rw [h0, List.eq_nil_of_length_eq_zero h0]
      refine (Tryz.slices_Contains_string_empty base c k w).mono ?_
      rintro e w' ⟨rfl, rfl⟩
      exact ⟨by simp, rfl⟩
    · obtain rfl := h1 h0
      refine (Tryz.slices_Contains_string b off (keysOf s).length c (keysOf s) k w (Nat.le_refl _) (by have := keysOf_few s; omega) (fun j hj => ?_)).mono ?_
      · rw [h4 j _ (List.getElem?_eq_getElem hj), List.getD_eq_getElem?_getD, List.getElem?_eq_getElem hj]; rfl
      · rintro e w' ⟨rfl, rfl⟩
        exact ⟨by rw [List.take_length, containsS_eq], rfl⟩
  have HA := Lib.hid (arityN_eq s k)
  generalize hr : arity s k = r
  have HR := Lib.hid hr
  by_cases hk : k ∈ keysOf s
  · rw [decide_eq_true hk] at HC
    have HV := Lib.hid (show r = (numsOf k : Nat) by rw [← hr]; unfold arity; rw [arityN_eq, if_pos hk]; rfl)
    clear hk hr
    go_enter Tryz.func11, Tryz.ntmps11
    go_wp2_with fail
    refine (HK.out _).mono ?_
    rintro e w1 ⟨v1, rfl, r1, q1⟩
    have HR1 := Lib.hid r1
    clear r1
    go_wp2_with fail
    refine (HC.out _ _ HR1.out).mono ?_
    rintro e w2 ⟨rfl, rfl⟩
    go_wp2_with fail
    refine (HN.out _).mono ?_
    rintro e w2 ⟨rfl, rfl⟩
    go_wp2_with fail
    go_ret
    exact ⟨by rw [HV.out]; rfl, q1⟩
  · rw [decide_eq_false hk] at HC
    have HV := Lib.hid (show r = -1 by rw [← hr]; unfold arity; rw [arityN_eq, if_neg hk]; rfl)
    clear hk hr
    go_enter Tryz.func11, Tryz.ntmps11
    go_wp2_with fail
    refine (HK.out _).mono ?_
    rintro e w1 ⟨v1, rfl, r1, q1⟩
    have HR1 := Lib.hid r1
    clear r1
    go_wp2_with fail
    refine (HC.out _ _ HR1.out).mono ?_
    rintro e w2 ⟨rfl, rfl⟩
    go_wp2_with fail
    go_ret
    exact ⟨by rw [HV.out]; rfl, q1⟩
end Go.Proofs.YtdikoeeoglfmaaaGreatDoor

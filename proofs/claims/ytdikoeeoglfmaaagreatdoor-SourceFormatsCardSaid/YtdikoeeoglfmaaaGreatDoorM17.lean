/-
  Parse.
-/
import Derived.Test.YtdikoeeoglfmaaaGreatDoorM16
namespace SS
open Go Go.RowKit PB SC
theorem OwnIs.form {EV EK E : TypeId} {N : Nat} {w : World} {v : Value} {l : List I} (h : OwnIs EV EK E N w v l) : ∃ (b : Option Addr) (c : Nat), v = .slice b l.length c := by
  obtain ⟨zs, hl, hr, hz⟩ := h
  exact row_form hr
theorem itemsP_round {sz : Int} {acc : List I} {y : W} {l : List W} {R : SR} (h : itemsP sz acc (y :: l) = R) :
    (acc.length = 400 → R = .bad 9 y.pos) ∧ (¬ acc.length = 400 → ∀ e p, itemP sz (y :: l) = .bad e p → R = .bad e p) ∧ (¬ acc.length = 400 → ∀ x r, itemP sz (y :: l) = .ok x r → itemsP sz (acc ++ [x]) r = R) := by
  rw [itemsP_cons] at h
  refine ⟨fun h3 => by rw [if_pos h3] at h; exact h.symm, fun h3 e p hk => by rw [if_neg h3, hk] at h; exact h.symm, fun h3 k r hk => by rw [if_neg h3, hk] at h; exact h⟩
theorem blk_set1 {w : World} {g : Nat} {x v : Value} (h : Blk w g #[x]) : Blk (w.setCell ⟨g, 0, none⟩ v) g #[v] := h.set 0 v
theorem chain_len : ∀ {s : List UInt8} {a : Nat} {ws : List W}, Chain s a ws → a + ws.length ≤ s.length
  | s, a, [], h => h
  | s, a, x :: t, h => by
    obtain ⟨h1, h2, h3, h4, h5⟩ := h
    have := chain_len h5
    have h6 : x.text.length ≠ 0 := fun h => h4.2 (List.eq_nil_of_length_eq_zero h)
    simp only [List.length_cons]
    omega
theorem words_few {s : List UInt8} {ws : List W} (h : words s = .ok ws) : ws.length ≤ 20000 := by
  have h1 := chain_len (words_chain h)
  unfold words at h
  split at h
  · cases h
  · omega
theorem ownw_cap {E : TypeId} {N n c : Nat} {b : Option Addr} {w : World} {ws : List W} (h : OwnW E N w (.slice b n c) ws) : n ≤ c := by
  rcases h.2 with ⟨e, _⟩ | ⟨g, cap, cur, e, _, _, h1, _⟩
  · cases e; exact Nat.le_refl _
  · cases e; exact h1
theorem OwnIs.setb {EV EK E : TypeId} {N q : Nat} {w : World} {v : Value} {l : List I} (h : OwnIs EV EK E N w v l) (hq : q < N) (o : Nat) (u : Value) : OwnIs EV EK E N (w.setCell ⟨q, o, none⟩ u) v l := by
  obtain ⟨zs, hl, hr, hz⟩ := h
  exact ⟨zs, hl, ownsRow_setCell_below hr hq u, fun i k z a b => (hz i k z a b).setb hq o u⟩
theorem RS.seto {w : World} {p g q : Nat} {sz : Int} {ws : List W} {k o : Nat} (h : RS w p g sz ws k) (hq : p ≠ q) (hqg : q ≠ g) (v : Value) : RS (w.setCell ⟨q, o, none⟩ v) p g sz ws k := by
  obtain ⟨⟨b, c, h1, h2, h3⟩, hr, hl⟩ := h
  refine ⟨⟨b, c, h1.other v (by dsimp only; omega), h2, h3⟩, fun i x hx => ?_, hl⟩
  obtain ⟨a1, a2, a3, a4⟩ := hr i x hx
  have e : ∀ j, (w.setCell ⟨q, o, none⟩ v).cell? ⟨g, j, none⟩ = w.cell? ⟨g, j, none⟩ := fun j => World.cell?_setCell_other w _ _ v (by intro e; injection e; omega)
  exact ⟨by rw [e]; exact a1, by rw [e]; exact a2, by rw [e]; exact a3, by rw [e]; exact a4⟩
/-- The head of the loop of Parse. -/
def PInv (EV EK EI : TypeId) (w : World) (p g : Nat) (sz : Int) (ws : List W) (R : SR) (wr : World) : Prop :=
  ∃ (k : Nat) (acc : List I) (v : Value), itemsP sz acc (ws.drop k) = R ∧ k ≤ ws.length ∧ acc.length ≤ k ∧ acc.length ≤ 400 ∧ Blk wr w.heap.size #[v] ∧ OwnIs EV EK EI (p + 1) wr v acc ∧ RS wr p g sz ws k ∧ Blk wr (w.heap.size + 1) #[.int .i64 0] ∧ Blk wr (w.heap.size + 1 + 1) #[.int .i64 0] ∧ Below w.heap.size w wr
/-- What Parse returns. -/
def RetS (r : SR) (w : World) (e : Ending) (w' : World) : Prop := ∃ v, e = .returned (.tuple #[v, .int .i64 r.err, .int .i64 r.at]) ∧ RdI w' v r.list ∧ Below w.heap.size w w'
theorem rdi_nil (w : World) : RdI w (.slice none 0 0) [] := ⟨none, 0, 0, 0, rfl, fun h => absurd rfl h, fun h => absurd rfl h, fun j x hx => by simp at hx⟩
end SS
namespace Go.Proofs.YtdikoeeoglfmaaaGreatDoor
open Go.RowKit SC PB SS
set_option maxRecDepth 100000 in
theorem info_item : (Tryz.prog.info? 38).map (fun i => (i.zero, i.size, i.bytes)) = some (some (.agg #[.string ⟨#[]⟩, .string ⟨#[]⟩, .slice none 0 0, .int .i64 0]), 4, 64) := by kernel_rfl
set_option maxRecDepth 100000 in
theorem res3 (t : Array Value) (w : World) (L E A : Nat) (v : Value) (er q : Int) (b : Option Addr) (n c : Nat) (hv : v = .slice b n c) (h2 : t[2]?.getD undef = .pointer (some ⟨L, 0, none⟩)) (h3 : t[3]?.getD undef = .pointer (some ⟨E, 0, none⟩)) (h4 : t[4]?.getD undef = .pointer (some ⟨A, 0, none⟩)) (hL : Blk w L #[v]) (hE : Blk w E #[.int .i64 er]) (hA : Blk w A #[.int .i64 q]) :
    (results Tryz.f9 t).run Tryz.prog w = .ok (.tuple #[v, .int .i64 er, .int .i64 q]) w := by
  have c0 := hL.cell 0 _ rfl
  have c1 := hE.cell 0 _ rfl
  have c2 := hA.cell 0 _ rfl
  subst hv
  simp [results, Tryz.results9, h2, h3, h4, go_sem, c0, c1, c2]
set_option maxRecDepth 100000 in
theorem door_ret (t : Array Value) (R : Ending → World → Prop) (w : World) (L E A : Nat) (v : Value) (er q : Int) (b : Option Addr) (n c : Nat) (hv : v = .slice b n c) (h2 : t[2]?.getD undef = .pointer (some ⟨L, 0, none⟩)) (h3 : t[3]?.getD undef = .pointer (some ⟨E, 0, none⟩)) (h4 : t[4]?.getD undef = .pointer (some ⟨A, 0, none⟩)) (hL : Blk w L #[v]) (hE : Blk w E #[.int .i64 er]) (hA : Blk w A #[.int .i64 q])
    (h : ∀ w', Below w.heap.size w w' → R (.returned (.tuple #[v, .int .i64 er, .int .i64 q])) w') : Leaves Tryz.prog Tryz.f9 t R [{ target := .fn (.func 18) #[.pointer (some ⟨L, 0, none⟩), .pointer (some ⟨E, 0, none⟩), .pointer (some ⟨A, 0, none⟩)], args := #[] }] .returning w := by
  refine leaves_cons (f := 18) (args := #[.pointer (some ⟨L, 0, none⟩), .pointer (some ⟨E, 0, none⟩), .pointer (some ⟨A, 0, none⟩)]) (by simp) (by simp [go_sem]) ?_
  refine (catch_idle L E A w).mono ?_
  rintro e u' w' ⟨rfl, rfl, hb⟩
  exact ⟨_, res3 t w' L E A v er q b n c hv h2 h3 h4 (hL.kept hb) (hE.kept hb) (hA.kept hb), h w' hb⟩
set_option maxRecDepth 100000 in
theorem door_pan (t : Array Value) (R : Ending → World → Prop) (w : World) (L E A : Nat) (v0 v1 v2 : Value) (er q : Int) (h2 : t[2]?.getD undef = .pointer (some ⟨L, 0, none⟩)) (h3 : t[3]?.getD undef = .pointer (some ⟨E, 0, none⟩)) (h4 : t[4]?.getD undef = .pointer (some ⟨A, 0, none⟩)) (hL : Blk w L #[v0]) (hE : Blk w E #[v1]) (hA : Blk w A #[v2]) (hLE : L ≠ E) (hLA : L ≠ A) (hEA : E ≠ A)
    (h : ∀ w', (∀ N, N ≤ L → N ≤ E → N ≤ A → N ≤ w.heap.size → Below N w w') → R (.returned (.tuple #[.slice none 0 0, .int .i64 er, .int .i64 q])) w') : Leaves Tryz.prog Tryz.f9 t R [{ target := .fn (.func 18) #[.pointer (some ⟨L, 0, none⟩), .pointer (some ⟨E, 0, none⟩), .pointer (some ⟨A, 0, none⟩)], args := #[] }] (.panicking [{ v := .iface 55 (.agg #[.int .i64 er, .int .i64 q]), recovered := false }]) w := by
  refine leaves_cons (f := 18) (args := #[.pointer (some ⟨L, 0, none⟩), .pointer (some ⟨E, 0, none⟩), .pointer (some ⟨A, 0, none⟩)]) (by simp) (by simp [go_sem]) ?_
  refine (catch_pan L E A er q [] v0 v1 v2 w hL hE hA hLE hLA hEA).mono ?_
  rintro e u' w' ⟨rfl, rfl, kL, kE, kA, hb⟩
  exact ⟨_, res3 t w' L E A _ er q none 0 0 rfl h2 h3 h4 kL kE kA, h w' hb⟩
set_option maxHeartbeats 16000000 in
set_option maxRecDepth 100000 in
theorem parse_any (s : ByteArray) (w : World) (hs : s.size ≤ 9223372036854775807) :
    Calls Tryz.prog 9 #[.string s] w (RetS (parse s.data.toList) w) := by
  have hmf : ∀ (fn : Fn) (first cap : Array Value) (w : World), (Instr.makeFunc fn first cap).run Tryz.prog w = .ok (.func fn first cap) w := fun _ _ _ _ => rfl
  have HW := Lib.hid (fun w => words_any s w hs)
  have hsl : s.data.toList.length = s.size := by simp
  cases hr : words s.data.toList with
  | bad er p =>
    rw [hr] at HW
    have HP := Lib.hid (show parse s.data.toList = .bad er p by unfold parse; rw [hr])
    rw [HP.out]
    have hne : ((er : Int) == 0) = false := by rw [beq_eq_false_iff_ne]; rcases words_ne hr with rfl | rfl | rfl | rfl <;> decide
    have hne2 : ((er : Int) != 0) = true := by simp [bne, hne]
    clear hr HP hsl
    go_enter_defers Tryz.func9, Tryz.ntmps9
    go_wp2_with fail
    refine (HW.out _).mono ?_
    rintro e w1 ⟨v1, rfl, o1, q1⟩
    obtain ⟨b1, g1, c1, rfl, -, -, -, -⟩ := ownw_slice o1
    dsimp only [WR.list, WR.err, WR.at, List.length]
    have L1 := (((show Blk _ w.heap.size _ from blk_new rfl).alloc _).alloc _).kept q1
    have E1 := ((show Blk _ (w.heap.size + 1) _ from blk_new (by simp)).alloc _).kept q1
    have A1 := (show Blk _ (w.heap.size + 1 + 1) _ from blk_new (by simp)).kept q1
    have q0 : Below w.heap.size w w1 := next (sb_alloc (sb_alloc (sb_alloc (Below.refl _ _) _) _) _) q1
    have l0 := L1.cell 0 _ rfl
    have l1 := L1.free 0
    have e0 := E1.cell 0 _ rfl
    have e1 := E1.free 0
    have a0 := A1.cell 0 _ rfl
    have a1 := A1.free 0
    have HL1 := Lib.hid L1
    have HE1 := Lib.hid E1
    have HA1 := Lib.hid A1
    clear o1 q1 L1 E1 A1 hne
    go_wp2_with fail
    go_region
    all_goals
      go_wp2_with fail
      refine door_ret _ _ _ w.heap.size (w.heap.size + 1) (w.heap.size + 1 + 1) (.slice none 0 0) er p none 0 0 rfl rfl rfl rfl ?_ ?_ ?_ ?_
      · exact Blk.drew (Blk.other (Blk.other (blk_set1 (Blk.other (Blk.other HL1.out _ (by dsimp only; omega)) _ (by dsimp only; omega))) _ (by dsimp only; omega)) _ (by dsimp only; omega))
      · exact Blk.drew (Blk.other (blk_set1 (Blk.other (Blk.other (blk_set1 HE1.out) _ (by dsimp only; omega)) _ (by dsimp only; omega))) _ (by dsimp only; omega))
      · exact Blk.drew (blk_set1 (Blk.other (Blk.other (blk_set1 (Blk.other HA1.out _ (by dsimp only; omega))) _ (by dsimp only; omega)) _ (by dsimp only; omega)))
      · intro w' hb
        refine ⟨_, rfl, rdi_nil _, next ?_ hb⟩
        repeat (first | exact q0 | refine sb_drew ?_ | refine sb_set ?_ (by dsimp only; omega) _)
  | ok ws =>
    rw [hr] at HW
    have hfew := words_few hr
    have hsp : parse s.data.toList = itemsP s.size [] ws := by unfold parse; rw [hr, ← hsl]
    rw [hsp]
    generalize hsz : (s.size : Int) = sz at *
    generalize hR : itemsP sz [] ws = R
    have HR0 := Lib.hid hR
    have HWS := Lib.hid (show ws.length ≤ 1000000 by omega)
    have HX := Lib.hid (fun (k : Nat) (hk : k < ws.length) => (⟨ws[k], List.getElem?_eq_getElem hk⟩ : ∃ x, ws[k]? = some x))
    obtain ⟨i0, hi, hz0, hz1, hz2⟩ := info_parts info_item
    clear hr hsl hfew hsp hR
    go_enter_defers Tryz.func9, Tryz.ntmps9
    go_wp2_with fail
    refine (HW.out _).mono ?_
    rintro e w1 ⟨v1, rfl, o1, q1⟩
    obtain ⟨b1, g1, c1, rfl, hb1, hrow1, hlt1, -⟩ := ownw_slice o1
    have hcap := ownw_cap o1
    dsimp only [WR.list, WR.err, WR.at] at *
    have L1 := (((show Blk _ w.heap.size _ from blk_new rfl).alloc _).alloc _).kept q1
    have E1 := ((show Blk _ (w.heap.size + 1) _ from blk_new (by simp)).alloc _).kept q1
    have A1 := (show Blk _ (w.heap.size + 1 + 1) _ from blk_new (by simp)).kept q1
    have q0 : Below w.heap.size w w1 := next (sb_alloc (sb_alloc (sb_alloc (Below.refl _ _) _) _) _) q1
    have hsz1 := q1.size
    simp only [World.size_alloc] at hsz1
    have e0 := E1.cell 0 _ rfl
    have e1 := E1.free 0
    have a0 := A1.cell 0 _ rfl
    have a1 := A1.free 0
    have el := E1.lt
    have al := A1.lt
    have HL2 := Lib.hid ((L1.other (a := ⟨w.heap.size + 1, 0, none⟩) (.int .i64 0) (by dsimp only; omega)).other (a := ⟨w.heap.size + 1 + 1, 0, none⟩) (.int .i64 0) (by dsimp only; omega))
    have HE2 := Lib.hid ((blk_set1 (v := .int .i64 0) E1).other (a := ⟨w.heap.size + 1 + 1, 0, none⟩) (.int .i64 0) (by dsimp only; omega))
    have HA2 := Lib.hid (blk_set1 (v := .int .i64 0) (A1.other (a := ⟨w.heap.size + 1, 0, none⟩) (.int .i64 0) (by dsimp only; omega)))
    have HQ2 := Lib.hid (sb_set (sb_set q0 (p := ⟨w.heap.size + 1, 0, none⟩) (by dsimp only; omega) (.int .i64 0)) (p := ⟨w.heap.size + 1 + 1, 0, none⟩) (by dsimp only; omega) (.int .i64 0))
    obtain ⟨g, hg, hbg, hrow⟩ : ∃ g, g < w1.heap.size ∧ (ws.length ≠ 0 → b1 = some ⟨g, 0, none⟩ ∧ w.heap.size + 1 + 1 < g) ∧ WRow w1 g ws := by
      by_cases h0 : ws.length = 0
      · exact ⟨0, by omega, fun h => absurd h0 h, fun i x hx => by rw [List.eq_nil_of_length_eq_zero h0] at hx; simp at hx⟩
      · refine ⟨g1, hlt1 h0, fun h => ⟨hb1 h, ?_⟩, hrow1⟩
        have h2 : ∀ g, (Value.slice b1 ws.length c1).ownBlock = some g → w.heap.size + 1 + 1 + 1 ≤ g := fun g hg => by have := (World.ownsRow.lt o1 g hg).1; simpa using this
        have := h2 g1 (by rw [hb1 h0]; rfl)
        omega
    have HROW := Lib.hid (show WRow ((w1.setCell ⟨w.heap.size + 1, 0, none⟩ (.int .i64 0)).setCell ⟨w.heap.size + 1 + 1, 0, none⟩ (.int .i64 0)) g ws from fun i x hx => by
      have hne : w.heap.size + 1 + 1 < g := (hbg (by have := (List.getElem?_eq_some_iff.1 hx).1; omega)).2
      obtain ⟨a1, a2, a3, a4⟩ := hrow i x hx
      have e : ∀ j, ((w1.setCell ⟨w.heap.size + 1, 0, none⟩ (.int .i64 0)).setCell ⟨w.heap.size + 1 + 1, 0, none⟩ (.int .i64 0)).cell? ⟨g, j, none⟩ = w1.cell? ⟨g, j, none⟩ := fun j => by
        rw [World.cell?_setCell_other _ _ _ _ (by intro e; injection e; omega), World.cell?_setCell_other _ _ _ _ (by intro e; injection e; omega)]
      exact ⟨by rw [e]; exact a1, by rw [e]; exact a2, by rw [e]; exact a3, by rw [e]; exact a4⟩)
    have HBG := Lib.hid (fun h => (hbg h).1)
    have HG := Lib.hid (fun h => (hbg h).2)
    have HCAP := Lib.hid hcap
    clear o1 q1 hb1 hrow1 hlt1 hcap L1 E1 A1 q0 hbg hrow
    have hz : ((0 : Int) != 0) = false := by decide
    go_wp2_with fail
    have HE : Hid (PInv 3 41 38 w w1.heap.size g sz ws R (((w1.setCell ⟨w.heap.size + 1, 0, none⟩ (.int .i64 0)).setCell ⟨w.heap.size + 1 + 1, 0, none⟩ (.int .i64 0)).alloc (.cells #[.slice b1 ws.length c1, .int .i64 sz] 61))) :=
      Lib.hid ⟨0, [], .slice none 0 0, by rw [List.drop_zero]; exact HR0.out, Nat.zero_le _, Nat.zero_le _, by decide, HL2.out.alloc _, OwnIs.nil _ _ _ _ _, ⟨⟨b1, c1, blk_new (by simp), fun h => by rw [HBG.out (by omega), Nat.zero_mul], by have := HCAP.out; omega⟩, WRow.kept HROW.out (sb_alloc (Below.refl _ _) _) (fun _ => by simpa using hg), hg⟩, HE2.out.alloc _, HA2.out.alloc _, sb_alloc HQ2.out _⟩
    have HP := Lib.hid (show w.heap.size + 1 + 1 < w1.heap.size ∧ g < w1.heap.size from ⟨al, hg⟩)
    clear HBG HCAP HROW HQ2 HL2 HE2 HA2 hg al el a0 a1 e0 e1 hsz1 HR0 hz
    generalize w1.heap.size = p at *
    go_loopw [] (fun wr => Hid (PInv 3 41 38 w p g sz ws R wr)) (fun wr => wleft wr p)
    case atStart => exact HE
    case round =>
      clear HE HW
      obtain ⟨k, acc, v, hR, hk, hak, ha4, hL, hown, hrs, hE, hA, hq⟩ := hrel.out
      have hP := HP.out
      obtain ⟨vb, vc, rfl⟩ := hown.form
      have l0 := hL.cell 0 _ rfl
      have HL := Lib.hid hL
      have HEE := Lib.hid hE
      have HAA := Lib.hid hA
      have HQ := Lib.hid hq
      have HRS := Lib.hid hrs
      have HOWN := Lib.hid hown
      by_cases hkn : k < ws.length
      · obtain ⟨y, hy⟩ := HX.out k hkn
        obtain ⟨⟨base, c, hB, hbase, hc⟩, hrow, hgp⟩ := hrs
        obtain rfl := hbase hkn
        obtain ⟨c0, c1⟩ := Blk2 hB
        obtain ⟨x0, x1, x2, x3⟩ := hrow k y hy
        have hm1 : 0 < ws.length - k := by omega
        rw [drop_at hy] at hR
        obtain ⟨h9, hbad, hok⟩ := itemsP_round hR
        rw [← drop_at hy] at hbad hok
        generalize ws.length - k = m at *
        have hm2 : (0 : Int) < m := by omega
        by_cases h4 : acc.length = 400
        · have hV := h9 h4
          have HDn := Lib.hid (show ∀ W, Calls Tryz.prog 20 #[.bool (decide ((acc.length : Int) < 400)), .int .i64 9, wordW y] W fun e w' => e = Gave 55 9 y.pos ∧ Below W.heap.size W w' from fun W => by rw [decide_eq_false (by omega)]; exact demand_no y 9 W)
          subst hV
          clear h9 hbad hok hR hrel hL hown hE hA hq hrow hB hy hbase hc h4
          unfold wordW at HDn
          go_wp2_with fail
          refine wp_region_held_drew (S := fun w' => w'.cell? ⟨w.heap.size, 0, none⟩ = some (.slice vb acc.length vc) ∧ (w'.cell? ⟨p, 0, none⟩ = some (.slice (some ⟨g, k * 4, none⟩) m c) ∧ w'.cell? ⟨p, 1, none⟩ = some (.int .i64 sz)) ∧ w'.cell? ⟨g, k * 4, none⟩ = some (.int .i64 y.kind) ∧ w'.cell? ⟨g, k * 4 + 1, none⟩ = some (.string ⟨y.text.toArray⟩) ∧ w'.cell? ⟨g, k * 4 + 2, none⟩ = some (.int .i64 y.num) ∧ w'.cell? ⟨g, k * 4 + 3, none⟩ = some (.int .i64 y.pos)) (by kernel_rfl) (⟨l0, ⟨c0, c1⟩, x0, x1, x2, x3⟩) (fun hHeld => ?_)
          try simp only [Act.put, List.setIfInBounds_toArray, List.set_cons_zero, List.set_cons_succ]
          refine wpAnyH_take (i := 0) (oi := { dst := some 26, op := Go.Op.load 22 (Go.Operand.tmp 2), type := 22, pos := "reader.go:24", after := #[], guard := none }) (v := ?v1_0) rfl (by kernel_rfl) (by kernel_rfl) (by kernel_rfl) (fun _ _ _ h => leaves_congr (res_put 26 (by decide) (by decide) (by decide) _ _) _ _ _ h) (Or.inl ⟨by rfl, ?hy1_0⟩) (by assumption) ?rest1_0
          case hy1_0 => ((intro w hSw; (try dsimp only at hSw); go_simp); (try (with_reducible rfl)))
          try simp only [Act.put, List.setIfInBounds_toArray, List.set_cons_zero, List.set_cons_succ]
          refine wpAnyH_take (i := 1) (oi := { dst := some 27, op := Go.Op.call { callee := Go.Callee.builtin Go.Builtin.len, args := #[Go.Operand.tmp 26], argTypes := #[22] }, type := 3, pos := "reader.go:24", after := #[{ on := 0, ground := Go.Ground.data }], guard := none }) (v := ?v1_1) rfl (by kernel_rfl) (by kernel_rfl) (by kernel_rfl) (fun _ _ _ h => leaves_congr (res_put 27 (by decide) (by decide) (by decide) _ _) _ _ _ h) (Or.inl ⟨by rfl, ?hy1_1⟩) (by assumption) ?rest1_1
          case hy1_1 => ((intro w hSw; (try dsimp only at hSw); go_simp); (try (with_reducible rfl)))
          try simp only [Act.put, List.setIfInBounds_toArray, List.set_cons_zero, List.set_cons_succ]
          refine wpAnyH_take (i := 2) (oi := { dst := some 28, op := Go.Op.binOp Go.BinOp.lss 3 (Go.Operand.tmp 27) (Go.Operand.const (Go.Value.int Go.IntKind.i64 400)) 3, type := 4, pos := "reader.go:24", after := #[{ on := 1, ground := Go.Ground.data }], guard := none }) (v := ?v1_2) rfl (by kernel_rfl) (by kernel_rfl) (by kernel_rfl) (fun _ _ _ h => leaves_congr (res_put 28 (by decide) (by decide) (by decide) _ _) _ _ _ h) (Or.inl ⟨by rfl, ?hy1_2⟩) (by assumption) ?rest1_2
          case hy1_2 => ((intro w hSw; (try dsimp only at hSw); go_simp); (try (with_reducible rfl)))
          try simp only [Act.put, List.setIfInBounds_toArray, List.set_cons_zero, List.set_cons_succ]
          refine wpAnyH_take (i := 3) (oi := { dst := some 29, op := Go.Op.fieldAddr 61 (Go.Operand.tmp 6) 0, type := 0, pos := "reader.go:24", after := #[], guard := none }) (v := ?v1_3) rfl (by kernel_rfl) (by kernel_rfl) (by kernel_rfl) (fun _ _ _ h => leaves_congr (res_put 29 (by decide) (by decide) (by decide) _ _) _ _ _ h) (Or.inl ⟨by rfl, ?hy1_3⟩) (by assumption) ?rest1_3
          case hy1_3 => ((intro w hSw; (try dsimp only at hSw); go_simp); (try (with_reducible rfl)))
          try simp only [Act.put, List.setIfInBounds_toArray, List.set_cons_zero, List.set_cons_succ]
          refine wpAnyH_take (i := 4) (oi := { dst := some 30, op := Go.Op.load 57 (Go.Operand.tmp 29), type := 57, pos := "reader.go:24", after := #[{ on := 3, ground := Go.Ground.data }], guard := none }) (v := ?v1_4) rfl (by kernel_rfl) (by kernel_rfl) (by kernel_rfl) (fun _ _ _ h => leaves_congr (res_put 30 (by decide) (by decide) (by decide) _ _) _ _ _ h) (Or.inl ⟨by rfl, ?hy1_4⟩) (by assumption) ?rest1_4
          case hy1_4 => ((intro w hSw; (try dsimp only at hSw); go_simp); (try (with_reducible rfl)))
          try simp only [Act.put, List.setIfInBounds_toArray, List.set_cons_zero, List.set_cons_succ]
          refine wpAnyH_take (i := 5) (oi := { dst := some 31, op := Go.Op.indexAddr 57 (Go.Operand.tmp 30) (Go.Operand.const (Go.Value.int Go.IntKind.i64 0)), type := 0, pos := "reader.go:24", after := #[{ on := 4, ground := Go.Ground.data }], guard := none }) (v := ?v1_5) rfl (by kernel_rfl) (by kernel_rfl) (by kernel_rfl) (fun _ _ _ h => leaves_congr (res_put 31 (by decide) (by decide) (by decide) _ _) _ _ _ h) (Or.inl ⟨by rfl, ?hy1_5⟩) (by assumption) ?rest1_5
          case hy1_5 => ((intro w hSw; (try dsimp only at hSw); go_simp); (try (with_reducible rfl)))
          try simp only [Act.put, List.setIfInBounds_toArray, List.set_cons_zero, List.set_cons_succ]
          refine wpAnyH_take (i := 6) (oi := { dst := some 32, op := Go.Op.load 64 (Go.Operand.tmp 31), type := 64, pos := "reader.go:24", after := #[{ on := 5, ground := Go.Ground.data }], guard := none }) (v := ?v1_6) rfl (by kernel_rfl) (by kernel_rfl) (by kernel_rfl) (fun _ _ _ h => leaves_congr (res_put 32 (by decide) (by decide) (by decide) _ _) _ _ _ h) (Or.inl ⟨by rfl, ?hy1_6⟩) (by assumption) ?rest1_6
          case hy1_6 => ((intro w hSw; (try dsimp only at hSw); go_simp); (try (with_reducible rfl)))
          try simp only [Act.put, List.setIfInBounds_toArray, List.set_cons_zero, List.set_cons_succ]
          refine wpAnyH_ready (rs := [7]) (by kernel_rfl) (by simp) ?_
          refine AllReadyH.cons (o := { dst := some 33, op := Go.Op.call { callee := Go.Callee.value (Go.Operand.func 20), args := #[Go.Operand.tmp 28, Go.Operand.const (Go.Value.int Go.IntKind.i64 9), Go.Operand.tmp 32], argTypes := #[4, 30, 64] }, type := 0, pos := "reader.go:24", after := #[{ on := 2, ground := Go.Ground.data }, { on := 6, ground := Go.Ground.data }], guard := none }) rfl (fun K hK => ?_) AllReadyH.nil
          go_simp
          refine (HDn.out _).mono ?_
          rintro e w3 ⟨rfl, q3⟩
          have hb3 : Below wr.heap.size wr w3 := next (sb_drew (Below.refl _ _)) q3
          refine door_pan _ _ _ w.heap.size (w.heap.size + 1) (w.heap.size + 1 + 1) _ _ _ 9 y.pos rfl rfl rfl (HL.out.kept hb3) (HEE.out.kept hb3) (HAA.out.kept hb3) (by omega) (by omega) (by omega) ?_
          intro w4 hw4
          refine ⟨_, rfl, rdi_nil _, (HQ.out.trans (hb3.mono HQ.out.size)).trans (hw4 _ (Nat.le_refl _) (by omega) (by omega) (Nat.le_trans HQ.out.size hb3.size))⟩
        · have h4lt : acc.length < 400 := by omega
          have HDy := Lib.hid (show ∀ W, Calls Tryz.prog 20 #[.bool (decide ((acc.length : Int) < 400)), .int .i64 9, wordW y] W fun e w' => e = .returned (.tuple #[]) ∧ Below W.heap.size W w' from fun W => by rw [decide_eq_true (by omega)]; exact demand_yes y 9 W)
          have HIT := Lib.hid (fun W (h : RS W p g sz ws k) => item_any p g k sz ws y hy HWS.out W h)
          have HXT := Lib.hid (fun W (h : Below wr.heap.size wr W) => ((hL.kept h).cell 0 _ rfl : W.cell? ⟨w.heap.size, 0, none⟩ = some (.slice vb acc.length vc)))
          have HXP := Lib.hid (fun W (h : Below wr.heap.size wr W) => (⟨Blk2 (hB.kept h), (hrow k y hy).kept h (Nat.lt_trans hgp hB.lt)⟩ : (_ ∧ _) ∧ WAt W g k y))
          unfold wordW at HDy
          unfold WAt at HXP
          have hqd : Below wr.heap.size wr wr.drew := sb_drew (Below.refl _ _)
          clear hR hrel hL hown hE hA hq hrow hB hbase hc h9
          go_wp2_with fail
          go_region_held3 (fun w' => w'.cell? ⟨w.heap.size, 0, none⟩ = some (.slice vb acc.length vc) ∧ (w'.cell? ⟨p, 0, none⟩ = some (.slice (some ⟨g, k * 4, none⟩) m c) ∧ w'.cell? ⟨p, 1, none⟩ = some (.int .i64 sz)) ∧ w'.cell? ⟨g, k * 4, none⟩ = some (.int .i64 y.kind) ∧ w'.cell? ⟨g, k * 4 + 1, none⟩ = some (.string ⟨y.text.toArray⟩) ∧ w'.cell? ⟨g, k * 4 + 2, none⟩ = some (.int .i64 y.num) ∧ w'.cell? ⟨g, k * 4 + 3, none⟩ = some (.int .i64 y.pos))
            (first | exact ⟨l0, ⟨c0, c1⟩, x0, x1, x2, x3⟩ | exact ⟨HXT.out _ hb3, HXP.out _ hb3⟩)
            (first
              | (go_at_call 20; (with_reducible refine (HDy.out _).mono ?_); rintro e w3 ⟨rfl, q3⟩; have hb3 : Below wr.heap.size wr w3 := next hqd q3)
              | fail "no arm")
          have HB3 := Lib.hid hb3
          have l0 := HXT.out _ hb3
          have hrs3 := (HRS.out.kept hb3).kept (sb_drew (Below.refl _ _))
          clear hb3 hqd q3 HXT HXP HDy
          cases hip : itemP sz (ws.drop k) with
          | bad e q =>
            have hV := hbad (by omega) e q hip
            subst hV
            rw [hip] at HIT
            clear hbad hok hip hy
            go_wp2_with fail
            refine wp_region_held_drew (S := fun w' => w'.cell? ⟨w.heap.size, 0, none⟩ = some (.slice vb acc.length vc)) (by kernel_rfl) (l0) (fun hHeld => ?_)
            try simp only [Act.put, List.setIfInBounds_toArray, List.set_cons_zero, List.set_cons_succ]
            refine wpAnyH_take (i := 0) (oi := { dst := some 34, op := Go.Op.load 22 (Go.Operand.tmp 2), type := 22, pos := "reader.go:25", after := #[], guard := none }) (v := ?v2_0) rfl (by kernel_rfl) (by kernel_rfl) (by kernel_rfl) (fun _ _ _ h => leaves_congr (res_put 34 (by decide) (by decide) (by decide) _ _) _ _ _ h) (Or.inl ⟨by rfl, ?hy2_0⟩) (by assumption) ?rest2_0
            case hy2_0 => ((intro w hSw; (try dsimp only at hSw); go_simp); (try (with_reducible rfl)))
            try simp only [Act.put, List.setIfInBounds_toArray, List.set_cons_zero, List.set_cons_succ]
            refine wpAnyH_ready (rs := [1]) (by kernel_rfl) (by simp) ?_
            refine AllReadyH.cons (o := { dst := some 35, op := Go.Op.call { callee := Go.Callee.value (Go.Operand.func 21), args := #[Go.Operand.tmp 6], argTypes := #[61] }, type := 38, pos := "reader.go:25", after := #[], guard := none }) rfl (fun K hK => ?_) AllReadyH.nil
            go_simp
            refine (HIT.out _ hrs3).mono ?_
            rintro e5 w5 ⟨rfl, hb5⟩
            have hb3 := HB3.out
            refine door_pan _ _ _ w.heap.size (w.heap.size + 1) (w.heap.size + 1 + 1) _ _ _ e q rfl rfl rfl (hb5.blk ((HL.out.kept hb3).kept (sb_drew (Below.refl _ _))) (by omega)) (hb5.blk ((HEE.out.kept hb3).kept (sb_drew (Below.refl _ _))) (by omega)) (hb5.blk ((HAA.out.kept hb3).kept (sb_drew (Below.refl _ _))) (by omega)) (by omega) (by omega) (by omega) ?_
            intro w4 hw4
            have hs3 : w.heap.size ≤ w3.heap.size := Nat.le_trans HQ.out.size hb3.size
            refine ⟨_, rfl, rdi_nil _, ((HQ.out.trans (hb3.mono HQ.out.size)).trans ((sb_drew (Below.refl _ _)).mono hs3)).trans ((hb5.below (by omega) hs3).trans (hw4 _ (Nat.le_refl _) (by omega) (by omega) (Nat.le_trans hs3 hb5.size)))⟩
          | ok x rest =>
            have hle := itemP_len hip
            have hnk := hok (by omega) x rest hip
            rw [hip] at HIT
            have HLE := Lib.hid hle
            have HNK := Lib.hid hnk
            clear hbad hok hip hy hle hnk
            go_wp2_with fail
            refine wp_region_noPanic ?_
            refine wp_region_last (L := 4) (n := 4) (S := fun w' => w'.cell? ⟨w.heap.size, 0, none⟩ = some (.slice vb acc.length vc)) (by kernel_rfl) (by kernel_rfl) rfl (l0) (fun hHeld => ?_)
            try simp only [Act.put, List.setIfInBounds_toArray, List.set_cons_zero, List.set_cons_succ]
            refine wpAnyH_take (i := 0) (oi := { dst := some 34, op := Go.Op.load 22 (Go.Operand.tmp 2), type := 22, pos := "reader.go:25", after := #[], guard := none }) (v := ?v3_0) rfl (by kernel_rfl) (by kernel_rfl) (by kernel_rfl) (fun _ _ _ h => h) (Or.inl ⟨by rfl, ?hy3_0⟩) (by assumption) ?rest3_0
            case hy3_0 => ((intro w hSw; (try dsimp only at hSw); go_simp); (try (with_reducible rfl)))
            try simp only [Act.put, List.setIfInBounds_toArray, List.set_cons_zero, List.set_cons_succ]
            refine wpAnyH_ready (rs := [1]) (by kernel_rfl) (by simp) ?_
            refine AllReadyH.cons (o := { dst := some 35, op := Go.Op.call { callee := Go.Callee.value (Go.Operand.func 21), args := #[Go.Operand.tmp 6], argTypes := #[61] }, type := 38, pos := "reader.go:25", after := #[], guard := none }) rfl (fun K hK => ?_) AllReadyH.nil
            go_simp
            refine (HIT.out _ hrs3).mono ?_
            rintro e w5 ⟨v5, k5, rfl, hd5, hk5, ⟨u5, rfl, hov5⟩, hrs5, hbut5⟩
            unfold iagg
            have hp3 : p < w3.heap.size := hrs3.ltp
            have hown5 := ((HOWN.out.kept HB3.out).kept (sb_drew (Below.refl _ _))).but (p := p) (by omega) hbut5
            obtain ⟨zs5, hl5, hr5, hz5⟩ := hown5
            obtain ⟨vb5, vc5, rfl⟩ := hov5.form
            have HOV5 := Lib.hid (hov5.mono (N' := p + 1) (by show p + 1 ≤ w3.heap.size; omega))
            have HLb5 := Lib.hid (hbut5.blk ((HL.out.kept HB3.out).kept (sb_drew (Below.refl _ _))) (by omega))
            have HE5 := Lib.hid (hbut5.blk ((HEE.out.kept HB3.out).kept (sb_drew (Below.refl _ _))) (by omega))
            have HA5 := Lib.hid (hbut5.blk ((HAA.out.kept HB3.out).kept (sb_drew (Below.refl _ _))) (by omega))
            have HQ5 := Lib.hid (((HQ.out.trans (HB3.out.mono HQ.out.size)).trans ((sb_drew (Below.refl _ _)).mono (Nat.le_trans HQ.out.size HB3.out.size))).trans (hbut5.below (N := w.heap.size) (by omega) (Nat.le_trans HQ.out.size HB3.out.size)))
            have HR5 := Lib.hid hr5
            have HZS5 := Lib.hid hz5
            have HL5 := Lib.hid hl5
            have HRS5 := Lib.hid hrs5
            have HD5 := Lib.hid hd5
            have l0 := HLb5.out.cell 0 _ rfl
            have hp5 : p < w5.heap.size := hrs5.ltp
            have hLlt := HLb5.out.lt
            clear hov5 hr5 hz5 hl5 hrs5 hbut5 hd5
            go_simp
            refine hK.out _ _ (l0) (fun hHeld => ?_)
            clear hK K
            try simp only [Act.put, List.setIfInBounds_toArray, List.set_cons_zero, List.set_cons_succ]
            refine wpAnyH_ready (rs := [2]) (by kernel_rfl) (by simp) ?_
            refine AllReadyH.cons (o := { dst := some 36, op := Go.Op.buildSlice 22 1 #[(0, Go.Operand.tmp 35)], type := 22, pos := "reader.go:25", after := #[{ on := 1, ground := Go.Ground.data }], guard := none }) rfl (fun K hK => ?_) AllReadyH.nil
            go_simp
            refine hK.out _ _ ((HLb5.out.alloc _).cell 0 _ rfl) (fun hHeld => ?_)
            clear hK K
            try simp only [Act.put, List.setIfInBounds_toArray, List.set_cons_zero, List.set_cons_succ]
            refine wpAnyH_ready (rs := [3]) (by kernel_rfl) (by simp) ?_
            refine AllReadyH.cons (o := { dst := some 37, op := Go.Op.call { callee := Go.Callee.builtin Go.Builtin.append, args := #[Go.Operand.tmp 34, Go.Operand.tmp 36], argTypes := #[22, 22] }, type := 22, pos := "reader.go:25", after := #[{ on := 0, ground := Go.Ground.data }, { on := 2, ground := Go.Ground.data }, { on := 1, ground := Go.Ground.chain }], guard := none }) rfl (fun K hK => ?_) AllReadyH.nil
            refine step_append_n (by rfl) _ _ 22 (by rfl) 38 i0 (.agg #[.string ⟨#[]⟩, .string ⟨#[]⟩, .slice none 0 0, .int .i64 0]) 4 64 Tryz.underlying22 hi hz0 hz1 hz2 rfl (by decide) (p + 1) _ acc.length (ics acc zs5) (by rfl) (by exact World.ownsRow.alloc HR5.out _) _ [.string x.word, .string x.name, .slice vb5 x.keys.length vc5, .int .i64 x.pos] (by rfl) rfl (fun u hu => by simp at hu; rcases hu with rfl | rfl | rfl | rfl <;> rfl) (by exact cells_news _ _ _) (by omega) (by omega) (by simp; omega) ?_
            intro v6 w6 hown6 hbl6 hg6
            obtain ⟨vb6, vc6, rfl⟩ := row_form hown6
            have hL6 := (HLb5.out.alloc _).below hbl6 (by omega)
            have HE6 := Lib.hid ((HE5.out.alloc _).below hbl6 (by omega))
            have HA6 := Lib.hid ((HA5.out.alloc _).below hbl6 (by omega))
            have l0 := hL6.cell 0 _ rfl
            have l1 := hL6.free 0
            have HL6 := Lib.hid hL6
            have HIS6 := Lib.hid (show OwnIs 3 41 38 (p + 1) w6 (.slice vb6 (acc.length + 1) vc6) (acc ++ [x]) from OwnIs.snoc HL5.out (World.ownsRow.alloc HR5.out _) (fun i k z a b => (HZS5.out i k z a b).kept (sb_alloc (Below.refl _ _) _)) (HOV5.out.kept (sb_alloc (Below.refl _ _) _)) (by decide) (by decide) (by exact hg6) hown6)
            have HB7 := Lib.hid (show Below (p + 1) w5 w6 from ((Below.refl _ _).alloc (by omega) _).trans hbl6)
            clear hL6 hown6 hbl6 hg6
            refine hK.out _ _ (l0) (fun hHeld => ?_)
            clear hK K
            try simp only [Act.put, List.setIfInBounds_toArray, List.set_cons_zero, List.set_cons_succ]
            refine wpAnyH_done (by kernel_rfl) ?_ _
            refine QLast.normal ?_
            refine wpOp_step (o := { dst := none, op := Go.Op.store 22 (Go.Operand.tmp 2) (Go.Operand.tmp 37), type := 0, pos := "reader.go:25", after := #[{ on := 3, ground := Go.Ground.data }, { on := 3, ground := Go.Ground.chain }, { on := 0, ground := Go.Ground.phase }, { on := 1, ground := Go.Ground.phase }, { on := 2, ground := Go.Ground.phase }, { on := 3, ground := Go.Ground.phase }], guard := none }) rfl (fun K hK => ?_)
            go_simp
            refine hK _ _ ?_
            clear hK K
            refine NoPanic.normal ?_
            have hd5 := HD5.out
            subst hd5
            have hle := HLE.out
            rw [List.length_drop, List.length_drop] at hle
            have hb3 := HB3.out
            have HRS7 := Lib.hid ((HRS5.out.below (N := p + 1) (by omega) HB7.out))
            have HL7 : Hid (Blk (w6.setCell ⟨w.heap.size, 0, none⟩ (.slice vb6 (acc.length + 1) vc6)) w.heap.size #[.slice vb6 (acc.length + 1) vc6]) := Lib.hid (blk_set1 HL6.out)
            clear hHeld l0 c0 x0 x1 x2 x3 HIT HL6 HR5 HZS5 HL5 HOV5
            have hgL := HG.out (by omega)
            have HRS8 := Lib.hid (HRS7.out.seto (q := w.heap.size) (o := 0) (by omega) (by omega) (.slice vb6 (acc.length + 1) vc6))
            have HB8 := Lib.hid (sb_set (HQ5.out.trans (HB7.out.mono (by omega))) (p := ⟨w.heap.size, 0, none⟩) (Nat.le_refl _) (.slice vb6 (acc.length + 1) vc6))
            have HREL : Hid (PInv 3 41 38 w p g sz ws R (w6.setCell ⟨w.heap.size, 0, none⟩ (.slice vb6 (acc.length + 1) vc6))) := Lib.hid ⟨k5, acc ++ [x], _, HNK.out, hk5, by simp; omega, by simp; omega, HL7.out, HIS6.out.setb (q := w.heap.size) (by omega) _ _, HRS8.out, HE6.out.other (a := ⟨w.heap.size, 0, none⟩) _ (by dsimp only; omega), HA6.out.other (a := ⟨w.heap.size, 0, none⟩) _ (by dsimp only; omega), HB8.out⟩
            have hme : wleft (w6.setCell ⟨w.heap.size, 0, none⟩ (.slice vb6 (acc.length + 1) vc6)) p < wleft wr p := by
              rw [HRS8.out.left, HRS.out.left]
              omega
            go_roundw
            case rel => exact ⟨_, _, _, _, _, _, _, _, _, _, _, _, _, _, _, _, HREL, rfl⟩
            case measure => exact hme
      · have hke : k = ws.length := by omega
        subst hke
        rw [List.drop_length] at hR
        have hV : R = .ok acc := hR.symm
        subst hV
        obtain ⟨⟨base, c, hB, hbase, hc⟩, hrow, hgp⟩ := hrs
        rw [Nat.sub_self] at hB
        obtain ⟨c0, c1⟩ := Blk2 hB
        have l1 := hL.free 0
        have e0 := hE.cell 0 _ rfl
        have e1 := hE.free 0
        have a0 := hA.cell 0 _ rfl
        have a1 := hA.free 0
        clear hR hrel hL hown hE hA hq hrow hB hbase hc
        go_wp2_with fail
        refine door_ret _ _ _ w.heap.size (w.heap.size + 1) (w.heap.size + 1 + 1) (.slice vb acc.length vc) 0 0 vb acc.length vc rfl rfl rfl rfl ?_ ?_ ?_ ?_
        · exact Blk.other (Blk.other (blk_set1 HL.out) _ (by dsimp only; omega)) _ (by dsimp only; omega)
        · exact Blk.other (blk_set1 (Blk.other HEE.out _ (by dsimp only; omega))) _ (by dsimp only; omega)
        · exact blk_set1 (Blk.other (Blk.other HAA.out _ (by dsimp only; omega)) _ (by dsimp only; omega))
        · intro w' hb
          refine ⟨_, rfl, ((((HOWN.out.setb (q := w.heap.size) (by omega) _ _).setb (q := w.heap.size + 1) (by omega) _ _).setb (q := w.heap.size + 1 + 1) (by omega) _ _).kept hb).rd, next (sb_set (sb_set (sb_set HQ.out (by dsimp only; omega) _) (by dsimp only; omega) _) (by dsimp only; omega) _) hb⟩
end Go.Proofs.YtdikoeeoglfmaaaGreatDoor

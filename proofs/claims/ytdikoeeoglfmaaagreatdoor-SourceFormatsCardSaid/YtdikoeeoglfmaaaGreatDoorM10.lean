/-
  Statements in memory: slices that can be read, rows that are owned.
-/
import Derived.Test.YtdikoeeoglfmaaaGreatDoorM01
import Derived.Test.YtdikoeeoglfmaaaGreatDoorM06
import Derived.Test.YtdikoeeoglfmaaaGreatDoorM09
namespace SS
open Go Go.RowKit PB SC
theorem oaddr (b off j : Nat) : (⟨b, off, none⟩ : Addr).add j = ⟨b, off + j, none⟩ := by unfold Addr.add; split <;> simp_all
/-- v is a slice of n elements, whose cells hold cs. -/
def Rd (w : World) (v : Value) (n : Nat) (cs : List Value) : Prop :=
  ∃ (base : Option Addr) (b off c : Nat), v = .slice base n c ∧ (n ≠ 0 → base = some ⟨b, off, none⟩) ∧ (n ≠ 0 → b < w.heap.size) ∧ (n = 0 → cs = []) ∧ ∀ j u, cs[j]? = some u → w.cell? ⟨b, off + j, none⟩ = some u
theorem Rd.kept {w w' : World} {v : Value} {n : Nat} {cs : List Value} (h : Rd w v n cs) (hb : Below w.heap.size w w') : Rd w' v n cs := by
  obtain ⟨base, b, off, c, rfl, h1, h2, h3, h4⟩ := h
  refine ⟨base, b, off, c, rfl, h1, fun h0 => Nat.lt_of_lt_of_le (h2 h0) hb.size, h3, fun j u hu => ?_⟩
  by_cases h0 : n = 0
  · rw [h3 h0] at hu; simp at hu
  · rw [hb.cell (p := ⟨b, off + j, none⟩) (h2 h0)]; exact h4 j u hu
theorem own_rd {E : TypeId} {N size : Nat} {w : World} {v : Value} {n : Nat} {xs : List Value} (h : w.ownsRow N E size v n xs) : Rd w v n xs := by
  have hl := World.ownsRow.lt h
  rcases h.2 with ⟨rfl, rfl⟩ | ⟨g, cap, cur, rfl, hg, hh, r⟩
  · exact ⟨none, 0, 0, 0, rfl, fun h => absurd rfl h, fun h => absurd rfl h, fun _ => List.eq_nil_of_length_eq_zero (by rw [h.1]; simp), fun j u hu => by
      rw [List.eq_nil_of_length_eq_zero (show xs.length = 0 by rw [h.1]; simp)] at hu; simp at hu⟩
  · refine ⟨_, g, 0, cap, rfl, fun _ => rfl, fun _ => (hl g rfl).2, fun h0 => List.eq_nil_of_length_eq_zero (by rw [h.1, h0]; simp), fun j u hu => ?_⟩
    have := World.ownsRow.cells h (g := g) rfl _ _ hu
    rw [oaddr] at this
    exact this
def vcs (vals : List Int) : List Value := vals.map fun n => .int .i64 n
def RdV (w : World) (v : Value) (vals : List Int) : Prop := Rd w v vals.length (vcs vals)
def RdS (w : World) (v : Value) (ss : List ByteArray) : Prop := Rd w v ss.length (ss.map .string)
theorem RdV.kept {w w' : World} {v : Value} {vals : List Int} (h : RdV w v vals) (hb : Below w.heap.size w w') : RdV w' v vals := Rd.kept h hb
theorem RdS.kept {w w' : World} {v : Value} {vals : List ByteArray} (h : RdS w v vals) (hb : Below w.heap.size w w') : RdS w' v vals := Rd.kept h hb
/-- What a slice of ints gives to a walk. -/
theorem RdV.form {w : World} {v : Value} {vals : List Int} (h : RdV w v vals) : ∃ (base : Option Addr) (b off c : Nat), v = .slice base vals.length c ∧ (vals.length ≠ 0 → base = some ⟨b, off, none⟩) ∧ (vals.length ≠ 0 → b < w.heap.size) ∧ ∀ j x, vals[j]? = some x → w.cell? ⟨b, off + j, none⟩ = some (.int .i64 x) := by
  obtain ⟨base, b, off, c, rfl, h1, h2, _, h4⟩ := h
  exact ⟨base, b, off, c, rfl, h1, h2, fun j x hx => h4 j _ (by unfold vcs; rw [List.getElem?_map, hx]; rfl)⟩
theorem RdS.form {w : World} {v : Value} {ss : List ByteArray} (h : RdS w v ss) : ∃ (base : Option Addr) (b off c : Nat), v = .slice base ss.length c ∧ (ss.length ≠ 0 → base = some ⟨b, off, none⟩) ∧ (ss.length ≠ 0 → b < w.heap.size) ∧ ∀ j x, ss[j]? = some x → w.cell? ⟨b, off + j, none⟩ = some (.string x) := by
  obtain ⟨base, b, off, c, rfl, h1, h2, _, h4⟩ := h
  exact ⟨base, b, off, c, rfl, h1, h2, fun j x hx => h4 j _ (by rw [List.getElem?_map, hx]; rfl)⟩
/-- A key at a place. -/
def KAt (w : World) (b o : Nat) (k : K) (z : Value) : Prop := w.cell? ⟨b, o, none⟩ = some (.string k.key) ∧ w.cell? ⟨b, o + 1, none⟩ = some z ∧ w.cell? ⟨b, o + 2, none⟩ = some (.int .i64 k.pos) ∧ RdV w z k.vals
def RdK (w : World) (v : Value) (ks : List K) : Prop :=
  ∃ (base : Option Addr) (b off c : Nat), v = .slice base ks.length c ∧ (ks.length ≠ 0 → base = some ⟨b, off, none⟩) ∧ (ks.length ≠ 0 → b < w.heap.size) ∧ ∀ j k, ks[j]? = some k → ∃ z, KAt w b (off + j * 3) k z
/-- A statement at a place. -/
def IAt (w : World) (b o : Nat) (x : I) (z : Value) : Prop := w.cell? ⟨b, o, none⟩ = some (.string x.word) ∧ w.cell? ⟨b, o + 1, none⟩ = some (.string x.name) ∧ w.cell? ⟨b, o + 2, none⟩ = some z ∧ w.cell? ⟨b, o + 3, none⟩ = some (.int .i64 x.pos) ∧ RdK w z x.keys
def RdI (w : World) (v : Value) (l : List I) : Prop :=
  ∃ (base : Option Addr) (b off c : Nat), v = .slice base l.length c ∧ (l.length ≠ 0 → base = some ⟨b, off, none⟩) ∧ (l.length ≠ 0 → b < w.heap.size) ∧ ∀ j x, l[j]? = some x → ∃ z, IAt w b (off + j * 4) x z
theorem KAt.kept {w w' : World} {b o : Nat} {k : K} {z : Value} (h : KAt w b o k z) (hb : Below w.heap.size w w') (hlt : b < w.heap.size) : KAt w' b o k z := by
  obtain ⟨h1, h2, h3, h4⟩ := h
  exact ⟨by rw [hb.cell (p := ⟨b, _, none⟩) hlt]; exact h1, by rw [hb.cell (p := ⟨b, _, none⟩) hlt]; exact h2, by rw [hb.cell (p := ⟨b, _, none⟩) hlt]; exact h3, h4.kept hb⟩
theorem RdK.kept {w w' : World} {v : Value} {ks : List K} (h : RdK w v ks) (hb : Below w.heap.size w w') : RdK w' v ks := by
  obtain ⟨base, b, off, c, rfl, h1, h2, h4⟩ := h
  refine ⟨base, b, off, c, rfl, h1, fun h0 => Nat.lt_of_lt_of_le (h2 h0) hb.size, fun j u hu => ?_⟩
  obtain ⟨z, hz⟩ := h4 j u hu
  exact ⟨z, hz.kept hb (h2 (by have := (List.getElem?_eq_some_iff.1 hu).1; omega))⟩
theorem IAt.kept {w w' : World} {b o : Nat} {k : I} {z : Value} (h : IAt w b o k z) (hb : Below w.heap.size w w') (hlt : b < w.heap.size) : IAt w' b o k z := by
  obtain ⟨h1, h2, h3, h3', h4⟩ := h
  exact ⟨by rw [hb.cell (p := ⟨b, _, none⟩) hlt]; exact h1, by rw [hb.cell (p := ⟨b, _, none⟩) hlt]; exact h2, by rw [hb.cell (p := ⟨b, _, none⟩) hlt]; exact h3, by rw [hb.cell (p := ⟨b, _, none⟩) hlt]; exact h3', h4.kept hb⟩
theorem RdI.kept {w w' : World} {v : Value} {ks : List I} (h : RdI w v ks) (hb : Below w.heap.size w w') : RdI w' v ks := by
  obtain ⟨base, b, off, c, rfl, h1, h2, h4⟩ := h
  refine ⟨base, b, off, c, rfl, h1, fun h0 => Nat.lt_of_lt_of_le (h2 h0) hb.size, fun j u hu => ?_⟩
  obtain ⟨z, hz⟩ := h4 j u hu
  exact ⟨z, hz.kept hb (h2 (by have := (List.getElem?_eq_some_iff.1 hu).1; omega))⟩
theorem RdV.len {w : World} {base : Option Addr} {n c : Nat} {vals : List Int} (h : RdV w (.slice base n c) vals) : n = vals.length := by
  obtain ⟨_, _, _, _, e, _⟩ := h; injection e
theorem RdK.len {w : World} {base : Option Addr} {n c : Nat} {ks : List K} (h : RdK w (.slice base n c) ks) : n = ks.length := by
  obtain ⟨_, _, _, _, e, _⟩ := h; injection e
theorem RdI.len {w : World} {base : Option Addr} {n c : Nat} {ks : List I} (h : RdI w (.slice base n c) ks) : n = ks.length := by
  obtain ⟨_, _, _, _, e, _⟩ := h; injection e
/-- Nothing older than w has changed, but for the block p. -/
structure But (p : Nat) (w w' : World) : Prop where
  os : w'.os = w.os
  tape : w'.tape = w.tape
  output : w'.output = w.output
  size : w.heap.size ≤ w'.heap.size
  block : ∀ k, k < w.heap.size → k ≠ p → w'.heap[k]? = w.heap[k]?
theorem But.refl (p : Nat) (w : World) : But p w w := ⟨rfl, rfl, rfl, Nat.le_refl _, fun _ _ _ => rfl⟩
theorem But.trans {p : Nat} {a b c : World} (h : But p a b) (k : But p b c) : But p a c :=
  ⟨k.os.trans h.os, k.tape.trans h.tape, k.output.trans h.output, Nat.le_trans h.size k.size, fun i hi hp => (k.block i (Nat.lt_of_lt_of_le hi h.size) hp).trans (h.block i hi hp)⟩
theorem But.of {p : Nat} {a b : World} (h : Below a.heap.size a b) : But p a b := ⟨h.os, h.tape, h.output, h.size, fun k hk _ => h.block k hk⟩
theorem But.below {p N : Nat} {a b : World} (h : But p a b) (hN : N ≤ p) (hs : N ≤ a.heap.size) : Below N a b := ⟨h.os, h.tape, h.output, h.size, fun k hk => h.block k (by omega) (by omega)⟩
theorem But.set (p : Nat) (w : World) (o : Nat) (v : Value) : But p w (w.setCell ⟨p, o, none⟩ v) := by
  have h : Below p w (w.setCell ⟨p, o, none⟩ v) := (Below.refl p w).setCell (Nat.le_refl _) v
  exact ⟨h.os, h.tape, h.output, h.size, fun k _ hp => Below.heap_setCell w ⟨p, o, none⟩ v k hp⟩
theorem But.drewN {p : Nat} {a b : World} (h : But p a b) (n : Nat) : But p a (b.drewN n) := by
  have k := PB.below_drewN (Below.refl b.heap.size b) n
  exact h.trans (But.of k)
theorem But.drew {p : Nat} {a b : World} (h : But p a b) : But p a b.drew := h.drewN 1
theorem But.alloc {p : Nat} {a b : World} (h : But p a b) (o : Obj) : But p a (b.alloc o) := h.trans (But.of ((Below.refl _ _).alloc (Nat.le_refl _) o))
theorem But.setp {p : Nat} {a b : World} (h : But p a b) (o : Nat) (v : Value) : But p a (b.setCell ⟨p, o, none⟩ v) := h.trans (But.set p b o v)
theorem But.setn {p : Nat} {a b : World} (h : But p a b) {q : Addr} (hq : a.heap.size ≤ q.block) (v : Value) : But p a (b.setCell q v) :=
  ⟨h.os, h.tape, h.output, by rw [World.size_setCell]; exact h.size, fun k hk hp => by rw [Below.heap_setCell _ _ _ _ (show k ≠ q.block by omega)]; exact h.block k hk hp⟩
theorem But.cell {p : Nat} {a b : World} (h : But p a b) {q : Addr} (hq : q.block < a.heap.size) (hp : q.block ≠ p) : b.cell? q = a.cell? q := by
  unfold World.cell?; rw [h.block _ hq hp]
theorem But.blk {p : Nat} {a b : World} (h : But p a b) {g : Nat} {cs : Array Value} (hb : Blk a g cs) (hp : g ≠ p) : Blk b g cs := by
  obtain ⟨T, hT⟩ := hb
  exact ⟨T, by rw [h.block g (Array.getElem?_eq_some_iff.1 hT).1 hp]; exact hT⟩
/-- A row stays where its block does. -/
theorem row_kept {w w' : World} {E : TypeId} {N size n : Nat} {v : Value} {xs : List Value} (h : w.ownsRow N E size v n xs) (hb : ∀ g, v.ownBlock = some g → w'.heap[g]? = w.heap[g]?) : w'.ownsRow N E size v n xs := by
  obtain ⟨h1, h2⟩ := h
  refine ⟨h1, ?_⟩
  rcases h2 with h2 | ⟨g, cap, cur, rfl, hg, hh, r⟩
  · exact .inl h2
  · exact .inr ⟨g, cap, cur, rfl, hg, by rw [hb g rfl]; exact hh, r⟩
theorem row_mono {w : World} {E : TypeId} {N N' size n : Nat} {v : Value} {xs : List Value} (h : w.ownsRow N E size v n xs) (hN : N' ≤ N) : w.ownsRow N' E size v n xs := by
  obtain ⟨h1, h2⟩ := h
  refine ⟨h1, ?_⟩
  rcases h2 with h2 | ⟨g, cap, cur, rfl, hg, r⟩
  · exact .inl h2
  · exact .inr ⟨g, cap, cur, rfl, Nat.le_trans hN hg, r⟩
theorem row_below {w w' : World} {E : TypeId} {N size n : Nat} {v : Value} {xs : List Value} (h : w.ownsRow N E size v n xs) (hb : Below w.heap.size w w') : w'.ownsRow N E size v n xs :=
  row_kept h fun g hg => hb.block g (World.ownsRow.lt h g hg).2
theorem row_but {p : Nat} {w w' : World} {E : TypeId} {N size n : Nat} {v : Value} {xs : List Value} (h : w.ownsRow N E size v n xs) (hp : p < N) (hb : But p w w') : w'.ownsRow N E size v n xs :=
  row_kept h fun g hg => hb.block g (World.ownsRow.lt h g hg).2 (by have := (World.ownsRow.lt h g hg).1; omega)
/-- Rows of two types lie apart. -/
theorem row_grown {w w' : World} {E E' : TypeId} {N N' size size' n n' : Nat} {v v' : Value} {xs xs' : List Value} (h : w.ownsRow N E size v n xs) (h' : w.ownsRow N' E' size' v' n' xs') (hE : E ≠ E') (hg : w.grownBy w' v'.ownBlock) : w'.ownsRow N E size v n xs :=
  row_kept h fun g hgv => hg.block g (World.ownsRow.lt h g hgv).2 fun e => by
    rcases h.2 with ⟨rfl, _⟩ | ⟨g1, c1, cur1, rfl, _, hh1, _⟩
    · cases hgv
    · obtain rfl : g1 = g := Option.some.inj hgv
      rcases h'.2 with ⟨rfl, _⟩ | ⟨g2, c2, cur2, rfl, _, hh2, _⟩
      · cases e
      · obtain rfl : g1 = g2 := Option.some.inj e
        rw [hh1] at hh2
        injection hh2 with hh2
        injection hh2 with _ hh2 _
        exact hE hh2
theorem row_form {w : World} {E : TypeId} {N size n : Nat} {v : Value} {xs : List Value} (h : w.ownsRow N E size v n xs) : ∃ (b : Option Addr) (c : Nat), v = .slice b n c := by
  rcases h.2 with ⟨rfl, rfl⟩ | ⟨g, cap, cur, rfl, _⟩
  · exact ⟨_, _, rfl⟩
  · exact ⟨_, _, rfl⟩
def OwnVs (EV : TypeId) (N : Nat) (w : World) (v : Value) (vals : List Int) : Prop := w.ownsRow N EV 1 v vals.length (vcs vals)
def kcs : List K → List Value → List Value
  | k :: ks, z :: zs => .string k.key :: z :: .int .i64 k.pos :: kcs ks zs
  | _, _ => []
def OwnKs (EV EK : TypeId) (N : Nat) (w : World) (v : Value) (ks : List K) : Prop :=
  ∃ zs : List Value, zs.length = ks.length ∧ w.ownsRow N EK 3 v ks.length (kcs ks zs) ∧ ∀ (i : Nat) (k : K) (z : Value), ks[i]? = some k → zs[i]? = some z → OwnVs EV N w z k.vals
def ics : List I → List Value → List Value
  | k :: ks, z :: zs => .string k.word :: .string k.name :: z :: .int .i64 k.pos :: ics ks zs
  | _, _ => []
def OwnIs (EV EK EI : TypeId) (N : Nat) (w : World) (v : Value) (l : List I) : Prop :=
  ∃ zs : List Value, zs.length = l.length ∧ w.ownsRow N EI 4 v l.length (ics l zs) ∧ ∀ (i : Nat) (k : I) (z : Value), l[i]? = some k → zs[i]? = some z → OwnKs EV EK N w z k.keys
theorem OwnVs.rd {EV : TypeId} {N : Nat} {w : World} {v : Value} {vals : List Int} (h : OwnVs EV N w v vals) : RdV w v vals := own_rd h
theorem kcs_get : ∀ {ks : List K} {zs : List Value} {i : Nat} {k : K} {z : Value}, ks[i]? = some k → zs[i]? = some z → (kcs ks zs)[i * 3]? = some (.string k.key) ∧ (kcs ks zs)[i * 3 + 1]? = some z ∧ (kcs ks zs)[i * 3 + 2]? = some (.int .i64 k.pos)
  | [], _, i, k, z, h, _ => by simp at h
  | k0 :: ks, [], i, k, z, _, h => by simp at h
  | k0 :: ks, z0 :: zs, 0, k, z, h, h' => by
    obtain rfl : k0 = k := by simpa using h
    obtain rfl : z0 = z := by simpa using h'
    exact ⟨rfl, rfl, rfl⟩
  | k0 :: ks, z0 :: zs, i + 1, k, z, h, h' => by
    have := kcs_get (ks := ks) (zs := zs) (i := i) (k := k) (z := z) (by simpa using h) (by simpa using h')
    rw [show (i + 1) * 3 = i * 3 + 1 + 1 + 1 by omega, show i * 3 + 1 + 1 + 1 + 1 = i * 3 + 1 + 1 + 1 + 1 by omega]
    exact this
theorem ics_get : ∀ {ks : List I} {zs : List Value} {i : Nat} {k : I} {z : Value}, ks[i]? = some k → zs[i]? = some z → (ics ks zs)[i * 4]? = some (.string k.word) ∧ (ics ks zs)[i * 4 + 1]? = some (.string k.name) ∧ (ics ks zs)[i * 4 + 2]? = some z ∧ (ics ks zs)[i * 4 + 3]? = some (.int .i64 k.pos)
  | [], _, i, k, z, h, _ => by simp at h
  | k0 :: ks, [], i, k, z, _, h => by simp at h
  | k0 :: ks, z0 :: zs, 0, k, z, h, h' => by
    obtain rfl : k0 = k := by simpa using h
    obtain rfl : z0 = z := by simpa using h'
    exact ⟨rfl, rfl, rfl, rfl⟩
  | k0 :: ks, z0 :: zs, i + 1, k, z, h, h' => by
    have := ics_get (ks := ks) (zs := zs) (i := i) (k := k) (z := z) (by simpa using h) (by simpa using h')
    rw [show (i + 1) * 4 = i * 4 + 1 + 1 + 1 + 1 by omega]
    exact this
theorem kcs_snoc : ∀ {ks : List K} {zs : List Value} (k : K) (z : Value), zs.length = ks.length → kcs (ks ++ [k]) (zs ++ [z]) = kcs ks zs ++ [.string k.key, z, .int .i64 k.pos]
  | [], [], k, z, _ => rfl
  | k0 :: ks, z0 :: zs, k, z, h => by
    show _ :: _ :: _ :: kcs (ks ++ [k]) (zs ++ [z]) = _ :: _ :: _ :: (kcs ks zs ++ _)
    rw [kcs_snoc k z (by simpa using h)]
  | [], z0 :: zs, _, _, h => by simp at h
  | k0 :: ks, [], _, _, h => by simp at h
theorem ics_snoc : ∀ {ks : List I} {zs : List Value} (k : I) (z : Value), zs.length = ks.length → ics (ks ++ [k]) (zs ++ [z]) = ics ks zs ++ [.string k.word, .string k.name, z, .int .i64 k.pos]
  | [], [], k, z, _ => rfl
  | k0 :: ks, z0 :: zs, k, z, h => by
    show _ :: _ :: _ :: _ :: ics (ks ++ [k]) (zs ++ [z]) = _ :: _ :: _ :: _ :: (ics ks zs ++ _)
    rw [ics_snoc k z (by simpa using h)]
  | [], z0 :: zs, _, _, h => by simp at h
  | k0 :: ks, [], _, _, h => by simp at h
theorem nth_of_len {α β : Type} {l : List α} {m : List β} (h : m.length = l.length) {i : Nat} {x : α} (hx : l[i]? = some x) : ∃ z, m[i]? = some z := by
  have := (List.getElem?_eq_some_iff.1 hx).1
  exact ⟨m[i], List.getElem?_eq_getElem (by omega)⟩
theorem OwnKs.rd {EV EK : TypeId} {N : Nat} {w : World} {v : Value} {ks : List K} (h : OwnKs EV EK N w v ks) : RdK w v ks := by
  obtain ⟨zs, hl, hr, hz⟩ := h
  obtain ⟨base, b, off, c, rfl, h1, h2, _, h4⟩ := own_rd hr
  refine ⟨base, b, off, c, rfl, h1, h2, fun j k hk => ?_⟩
  obtain ⟨z, hzj⟩ := nth_of_len hl hk
  obtain ⟨a1, a2, a3⟩ := kcs_get hk hzj
  exact ⟨z, h4 _ _ a1, by have := h4 _ _ a2; rw [← Nat.add_assoc] at this; exact this, by have := h4 _ _ a3; rw [← Nat.add_assoc] at this; exact this, (hz j k z hk hzj).rd⟩
theorem OwnIs.rd {EV EK EI : TypeId} {N : Nat} {w : World} {v : Value} {ks : List I} (h : OwnIs EV EK EI N w v ks) : RdI w v ks := by
  obtain ⟨zs, hl, hr, hz⟩ := h
  obtain ⟨base, b, off, c, rfl, h1, h2, _, h4⟩ := own_rd hr
  refine ⟨base, b, off, c, rfl, h1, h2, fun j k hk => ?_⟩
  obtain ⟨z, hzj⟩ := nth_of_len hl hk
  obtain ⟨a1, a2, a3, a4⟩ := ics_get hk hzj
  exact ⟨z, h4 _ _ a1, by have := h4 _ _ a2; rw [← Nat.add_assoc] at this; exact this, by have := h4 _ _ a3; rw [← Nat.add_assoc] at this; exact this, by have := h4 _ _ a4; rw [← Nat.add_assoc] at this; exact this, (hz j k z hk hzj).rd⟩
theorem OwnVs.nil (E : TypeId) (N : Nat) (w : World) : OwnVs E N w (.slice none 0 0) [] := World.ownsRow_nil w N E 1
theorem OwnKs.nil (EV E : TypeId) (N : Nat) (w : World) : OwnKs EV E N w (.slice none 0 0) [] := ⟨[], rfl, World.ownsRow_nil w N E 3, fun i k z h => by simp at h⟩
theorem OwnIs.nil (EV EK E : TypeId) (N : Nat) (w : World) : OwnIs EV EK E N w (.slice none 0 0) [] := ⟨[], rfl, World.ownsRow_nil w N E 4, fun i k z h => by simp at h⟩
theorem OwnVs.mono {E : TypeId} {N N' : Nat} {w : World} {v : Value} {vals : List Int} (h : OwnVs E N w v vals) (hN : N' ≤ N) : OwnVs E N' w v vals := row_mono h hN
theorem OwnKs.mono {EV E : TypeId} {N N' : Nat} {w : World} {v : Value} {ks : List K} (h : OwnKs EV E N w v ks) (hN : N' ≤ N) : OwnKs EV E N' w v ks := by
  obtain ⟨zs, hl, hr, hz⟩ := h; exact ⟨zs, hl, row_mono hr hN, fun i k z a b => (hz i k z a b).mono hN⟩
theorem OwnVs.kept {E : TypeId} {N : Nat} {w w' : World} {v : Value} {vals : List Int} (h : OwnVs E N w v vals) (hb : Below w.heap.size w w') : OwnVs E N w' v vals := row_below h hb
theorem OwnKs.kept {EV E : TypeId} {N : Nat} {w w' : World} {v : Value} {ks : List K} (h : OwnKs EV E N w v ks) (hb : Below w.heap.size w w') : OwnKs EV E N w' v ks := by
  obtain ⟨zs, hl, hr, hz⟩ := h; exact ⟨zs, hl, row_below hr hb, fun i k z a b => (hz i k z a b).kept hb⟩
theorem OwnIs.kept {EV EK E : TypeId} {N : Nat} {w w' : World} {v : Value} {ks : List I} (h : OwnIs EV EK E N w v ks) (hb : Below w.heap.size w w') : OwnIs EV EK E N w' v ks := by
  obtain ⟨zs, hl, hr, hz⟩ := h; exact ⟨zs, hl, row_below hr hb, fun i k z a b => (hz i k z a b).kept hb⟩
theorem OwnVs.but {E : TypeId} {N p : Nat} {w w' : World} {v : Value} {vals : List Int} (h : OwnVs E N w v vals) (hp : p < N) (hb : But p w w') : OwnVs E N w' v vals := row_but h hp hb
theorem OwnKs.but {EV E : TypeId} {N p : Nat} {w w' : World} {v : Value} {ks : List K} (h : OwnKs EV E N w v ks) (hp : p < N) (hb : But p w w') : OwnKs EV E N w' v ks := by
  obtain ⟨zs, hl, hr, hz⟩ := h; exact ⟨zs, hl, row_but hr hp hb, fun i k z a b => (hz i k z a b).but hp hb⟩
theorem OwnIs.but {EV EK E : TypeId} {N p : Nat} {w w' : World} {v : Value} {ks : List I} (h : OwnIs EV EK E N w v ks) (hp : p < N) (hb : But p w w') : OwnIs EV EK E N w' v ks := by
  obtain ⟨zs, hl, hr, hz⟩ := h; exact ⟨zs, hl, row_but hr hp hb, fun i k z a b => (hz i k z a b).but hp hb⟩
theorem OwnKs.grown {EV E E' : TypeId} {N N' size' n' : Nat} {w w' : World} {v v' : Value} {ks : List K} {xs' : List Value} (h : OwnKs EV E N w v ks) (h' : w.ownsRow N' E' size' v' n' xs') (h1 : EV ≠ E') (h2 : E ≠ E') (hg : w.grownBy w' v'.ownBlock) : OwnKs EV E N w' v ks := by
  obtain ⟨zs, hl, hr, hz⟩ := h; exact ⟨zs, hl, row_grown hr h' h2 hg, fun i k z a b => row_grown (hz i k z a b) h' h1 hg⟩
/-- One key more. -/
theorem OwnKs.snoc {EV E : TypeId} {N : Nat} {w w' : World} {v v' z : Value} {ks : List K} {zs : List Value} {k : K} (hl : zs.length = ks.length) (hr : w.ownsRow N E 3 v ks.length (kcs ks zs)) (hz : ∀ (i : Nat) (k : K) (z : Value), ks[i]? = some k → zs[i]? = some z → OwnVs EV N w z k.vals)
    (hk : OwnVs EV N w z k.vals) (hE : EV ≠ E) (hg : w.grownBy w' v.ownBlock) (hr' : w'.ownsRow N E 3 v' (ks.length + 1) (kcs ks zs ++ [.string k.key, z, .int .i64 k.pos])) : OwnKs EV E N w' v' (ks ++ [k]) := by
  refine ⟨zs ++ [z], by simp [hl], by rw [kcs_snoc k z hl]; simpa using hr', fun i k1 z1 a b => ?_⟩
  by_cases hi : i < ks.length
  · rw [List.getElem?_append_left hi] at a
    rw [List.getElem?_append_left (by omega)] at b
    exact row_grown (hz i k1 z1 a b) hr hE hg
  · have hi2 : i = ks.length := by have := (List.getElem?_eq_some_iff.1 a).1; simp at this; omega
    subst hi2
    rw [← hl] at b
    simp at a b
    subst a b
    exact row_grown hk hr hE hg
/-- One statement more. -/
theorem OwnIs.snoc {EV EK E : TypeId} {N : Nat} {w w' : World} {v v' z : Value} {ks : List I} {zs : List Value} {k : I} (hl : zs.length = ks.length) (hr : w.ownsRow N E 4 v ks.length (ics ks zs)) (hz : ∀ (i : Nat) (k : I) (z : Value), ks[i]? = some k → zs[i]? = some z → OwnKs EV EK N w z k.keys)
    (hk : OwnKs EV EK N w z k.keys) (hE : EV ≠ E) (hE2 : EK ≠ E) (hg : w.grownBy w' v.ownBlock) (hr' : w'.ownsRow N E 4 v' (ks.length + 1) (ics ks zs ++ [.string k.word, .string k.name, z, .int .i64 k.pos])) : OwnIs EV EK E N w' v' (ks ++ [k]) := by
  refine ⟨zs ++ [z], by simp [hl], by rw [ics_snoc k z hl]; simpa using hr', fun i k1 z1 a b => ?_⟩
  by_cases hi : i < ks.length
  · rw [List.getElem?_append_left hi] at a
    rw [List.getElem?_append_left (by omega)] at b
    exact (hz i k1 z1 a b).grown hr hE hE2 hg
  · have hi2 : i = ks.length := by have := (List.getElem?_eq_some_iff.1 a).1; simp at this; omega
    subst hi2
    rw [← hl] at b
    simp at a b
    subst a b
    exact hk.grown hr hE hE2 hg
end SS

/-
  Texts of the proof, several in one: AdjBase.
-/
import Derived.Test.YtpeglndlhjnaaaaGreatDoorPack7
import Derived.Test.YtpeglndlhjnaaaaGreatDoorPack29
import Derived.Test.YtpeglndlhjnaaaaGreatDoorPack20
import Derived.Test.YtpeglndlhjnaaaaGreatDoorPack3
import Derived.Test.YtpeglndlhjnaaaaGreatDoorPack21
/-
  An adjuster in memory: its blocks, its state, and what stays when a part of it changes. No Go is walked here.
-/
namespace Go.Proofs.YtpeglndlhjnaaaaGreatDoor
open Go.RowKit Bt
set_option linter.unusedVariables false
set_option linter.unusedSimpArgs false

/-- The blocks. -/
structure AdI where
  ab : Nat
  mb : Nat
  cp : Nat
  cq : Nat
  kp : Nat
  kq : Nat
  bp : Nat
  bq : Nat
  shb : Nat
  aq : Nat
  ak : Nat
  N : Nat
  ws : List Nat
  lv : Value
  wt : Value
  tk : Value
  co : Option Addr
  cn : Nat
  ck : Nat

def fnA (ph : Nat) : FuncId := if ph = 0 then 87 else if ph = 1 then 134 else 138
def wkA (b ab : Nat) (x : AdW) (pv : Value) : Array Value := #[.func (.func (fnA x.ph)) #[.pointer (some ⟨b, 0, none⟩)] #[], .pointer (some ⟨ab, 0, none⟩), .int .i64 (x.fr : Int), .int .i64 (x.en : Int), pv, .int .i64 (x.at_ : Int), .int .i64 x.rf]
def adC (I : AdI) (P : PN) (ft : Int) : Array Value := #[.pointer (some ⟨I.cp, 0, none⟩), .slice I.co I.cn I.ck, .pointer (some ⟨I.bp, 0, none⟩), .int .i64 P.f, .int .i64 P.t, .int .i64 P.k, .int .i64 P.d, .int .i64 P.e, I.lv, .slice (some ⟨I.aq, 0, none⟩) P.R I.ak, I.wt, I.tk, .pointer (some ⟨I.shb, 0, none⟩), .map (some I.mb), .int .i64 ft]

/-- Places that can be read. -/
def Plc (w : World) (v : Value) (T : List Nat) : Prop :=
  (T = [] ∧ ∃ ao cap, v = .slice ao 0 cap) ∨ ∃ b off cap c, v = .slice (some ⟨b, off, none⟩) T.length cap ∧ w.heap[b]? = some (.cells c 3) ∧ T.length ≤ cap ∧ ∀ (i : Nat) x, T[i]? = some x → c[off + i]? = some (.int .i64 ((x : Nat) : Int))
theorem Plc.keep {w w' : World} {v : Value} {T : List Nat} (h : Plc w v T) {L : List Nat} (t : Turned L w w') (hL : ∀ i, i ∈ L → ∀ c e fr, w.heap[i]? = some (.cells c e fr) → e ≠ 3) : Plc w' v T := by
  rcases h with h | ⟨b, off, cap, c, h1, h2, h3, h4⟩
  · exact .inl h
  · exact .inr ⟨b, off, cap, c, h1, by rw [t.block b (lt_of_heap h2) (fun hm => hL b hm _ _ _ h2 rfl)]; exact h2, h3, h4⟩
theorem Plc.shape {w : World} {v : Value} {T : List Nat} (h : Plc w v T) : ∃ ao cap, v = .slice ao T.length cap := by
  rcases h with ⟨rfl, ao, cap, rfl⟩ | ⟨b, off, cap, c, h1, _⟩
  · exact ⟨ao, cap, rfl⟩
  · exact ⟨_, _, h1⟩
theorem Plc.cons {w : World} {v : Value} {x : Nat} {T : List Nat} (h : Plc w v (x :: T)) : ∃ b off cap, v = .slice (some ⟨b, off, none⟩) (T.length + 1) cap ∧ T.length + 1 ≤ cap ∧ w.cell? ⟨b, off, none⟩ = some (.int .i64 ((x : Nat) : Int)) ∧ ∀ w' : World, (w'.heap[b]? = w.heap[b]?) → ∀ off', (off' = off + 1 ∨ (T.length = 0 ∧ cap = 1 ∧ off' = off)) → Plc w' (.slice (some ⟨b, off', none⟩) T.length (cap - 1)) T := by
  rcases h with ⟨h0, _⟩ | ⟨b, off, cap, c, h1, h2, h3, h4⟩
  · cases h0
  · simp only [List.length_cons] at h1 h3
    refine ⟨b, off, cap, h1, h3, by rw [cell_of_heap h2, show off = off + 0 from rfl, h4 0 x rfl], fun w' hw off' ho => .inr ⟨b, off', cap - 1, c, rfl, hw.trans h2, by omega, fun i y hy => ?_⟩⟩
    rcases ho with rfl | ⟨hT, _, rfl⟩
    · rw [show off + 1 + i = off + (i + 1) by omega]
      exact h4 (i + 1) y (by simpa using hy)
    · have := (List.getElem?_eq_some_iff.1 hy).1
      omega

/-- Which workers the map has. -/
def mapA (I : AdI) (ws : List AdW) (x : Int) : Option Nat := if x < 0 then none else match ws[x.toNat]? with
  | some y => if y.on = true then I.ws[x.toNat]? else none
  | none => none
theorem mapA_nat (I : AdI) (ws : List AdW) (k : Nat) : mapA I ws (k : Int) = match ws[k]? with
  | some y => if y.on = true then I.ws[k]? else none
  | none => none := by unfold mapA; rw [if_neg (by omega), Int.toNat_natCast]
/-- What is and stays so. -/
structure AdOk (I : AdI) (P : PN) (S : Nat → Nat) : Prop where
  bl : Bl I.N S
  ok : P.Ok
  fd : P.f ≤ P.d
  dt : P.d ≤ P.t
  tn : P.t ≤ I.N
  ins : ∀ i, 0 < S i → P.f ≤ i ∧ i < P.t
  n6 : I.N ≤ 65536
  ws6 : I.ws.length ≤ 64
  nd : ∀ (i j b : Nat), I.ws[i]? = some b → I.ws[j]? = some b → i = j
  ck : I.cp ≠ I.kp ∧ I.cp ≠ I.kq ∧ I.cq ≠ I.kp ∧ I.cq ≠ I.kq
  pos : 0 < I.ab ∧ 0 < I.mb ∧ 0 < I.cp ∧ 0 < I.cq ∧ 0 < I.kp ∧ 0 < I.kq ∧ ∀ b, b ∈ I.ws → 0 < b
/-- An adjuster in its state. -/
structure Ad (w : World) (I : AdI) (P : PN) (S : Nat → Nat) (cs : List Cls) (s : AdS) : Prop where
  c : AdOk I P S
  bts : Bts w I.bp I.bq I.N (sidesOf S)
  ah : Ah w P S I.aq
  cr : CRow w I.co I.cn cs
  sh : Gs.Sh w I.shb I.kp I.kq s.cl s.cc 0 (P.R : Int)
  mem : Mem w I.cp I.cq s.hw s.ac
  head : w.heap[I.ab]? = some (.cells (adC I P s.ft) 98)
  mp : ∃ m, m ≤ 64 ∧ WM w I.mb m (mapA I s.ws)
  len : s.ws.length = I.ws.length
  wk : ∀ (k : Nat) (x : AdW), s.ws[k]? = some x → ∃ (b : Nat) (pv : Value), I.ws[k]? = some b ∧ w.heap[b]? = some (.cells (wkA b I.ab x pv) 103) ∧ Plc w pv x.pl
/-- The adjuster's own blocks. -/
def OwnA (I : AdI) : List Nat := I.ab :: I.mb :: I.cp :: I.cq :: I.kp :: I.kq :: I.ws
section
variable {w w' : World} {I : AdI} {P : PN} {S : Nat → Nat} {cs : List Cls} {s : AdS}
theorem Ad.cs_ (h : Ad w I P S cs s) : w.cell? ⟨I.ab, 0, none⟩ = some (.pointer (some ⟨I.cp, 0, none⟩)) ∧ w.cell? ⟨I.ab, 1, none⟩ = some (.slice I.co I.cn I.ck) ∧ w.cell? ⟨I.ab, 2, none⟩ = some (.pointer (some ⟨I.bp, 0, none⟩)) ∧ w.cell? ⟨I.ab, 12, none⟩ = some (.pointer (some ⟨I.shb, 0, none⟩)) ∧ w.cell? ⟨I.ab, 13, none⟩ = some (.map (some I.mb)) ∧ w.cell? ⟨I.ab, 14, none⟩ = some (.int .i64 s.ft) := by
  refine ⟨?_, ?_, ?_, ?_, ?_, ?_⟩ <;> (rw [cell_of_heap h.head]; rfl)
theorem Ad.ps_ (h : Ad w I P S cs s) : w.cell? ⟨I.ab, 3, none⟩ = some (.int .i64 P.f) ∧ w.cell? ⟨I.ab, 4, none⟩ = some (.int .i64 P.t) ∧ w.cell? ⟨I.ab, 5, none⟩ = some (.int .i64 P.k) ∧ w.cell? ⟨I.ab, 6, none⟩ = some (.int .i64 P.d) ∧ w.cell? ⟨I.ab, 7, none⟩ = some (.int .i64 P.e) ∧ w.cell? ⟨I.ab, 8, none⟩ = some I.lv ∧ w.cell? ⟨I.ab, 9, none⟩ = some (.slice (some ⟨I.aq, 0, none⟩) P.R I.ak) ∧ w.cell? ⟨I.ab, 10, none⟩ = some I.wt ∧ w.cell? ⟨I.ab, 11, none⟩ = some I.tk := by
  refine ⟨?_, ?_, ?_, ?_, ?_, ?_, ?_, ?_, ?_⟩ <;> (rw [cell_of_heap h.head]; rfl)
theorem Ad.fz (h : Ad w I P S cs s) (i : Nat) : w.frozen? ⟨I.ab, i, none⟩ = false := by simp [World.frozen?, h.head]
/-- All of it but what is turned stays: blocks of types that are turned. -/
theorem Ad.rest (h : Ad w I P S cs s) {L : List Nat} (t : Turned L w w') (h0 : 0 ∉ L) (hL : ∀ i, i ∈ L → (∃ c e fr, w.heap[i]? = some (.cells c e fr) ∧ e ≠ 114 ∧ e ≠ 164 ∧ e ≠ 3 ∧ e ≠ 94) ∨ ∃ es clock, w.heap[i]? = some (.map es clock)) :
    Bts w' I.bp I.bq I.N (sidesOf S) ∧ Ah w' P S I.aq ∧ CRow w' I.co I.cn cs := by
  have hx : ∀ (x : Nat) (c : Array Value) (e : TypeId) (fr : Nat × Nat), w.heap[x]? = some (.cells c e fr) → (e = 114 ∨ e = 164 ∨ e = 3 ∨ e = 94) → x ∉ L := by
    intro x c e fr hx he hm
    rcases hL x hm with ⟨c2, e2, fr2, h1, h2, h3, h4, h5⟩ | ⟨es, ck, h1⟩
    · rw [hx] at h1
      cases h1
      rcases he with he | he | he | he
      · exact h2 he
      · exact h3 he
      · exact h4 he
      · exact h5 he
    · rw [hx] at h1
      cases h1
  refine ⟨h.bts.turned t (hx _ _ _ _ h.bts.head (.inl rfl)) ?_ h0, ?_, ?_⟩
  · obtain ⟨c, hc, _⟩ := h.bts.row
    exact hx _ _ _ _ hc (.inr (.inl rfl))
  · have ha := h.ah
    obtain ⟨c, hc, hg⟩ := ha
    exact ⟨c, by rw [t.block _ (lt_of_heap hc) (hx _ _ _ _ hc (.inr (.inr (.inl rfl))))]; exact hc, hg⟩
  · refine h.cr.turned t (fun b off spot e => ?_)
    obtain ⟨c, fr, hc⟩ := h.cr.row b off spot e
    exact hx _ _ _ _ hc (.inr (.inr (.inr rfl)))
theorem Ad.wblk (h : Ad w I P S cs s) {k b : Nat} {x : AdW} (hk : I.ws[k]? = some b) (hx : s.ws[k]? = some x) : ∃ pv, w.heap[b]? = some (.cells (wkA b I.ab x pv) 103) ∧ Plc w pv x.pl := by
  obtain ⟨b', pv, h1, h2, h3⟩ := h.wk k x hx
  rw [hk] at h1
  cases h1
  exact ⟨pv, h2, h3⟩
theorem Ad.wty (h : Ad w I P S cs s) {b : Nat} (hb : b ∈ I.ws) : ∃ c, w.heap[b]? = some (.cells c 103) := by
  obtain ⟨k, hk⟩ := List.getElem?_of_mem hb
  have hlt : k < s.ws.length := by rw [h.len]; exact (List.getElem?_eq_some_iff.1 hk).1
  obtain ⟨pv, h1, _⟩ := h.wblk hk (List.getElem?_eq_getElem hlt)
  exact ⟨_, h1⟩
theorem Ad.own_lt (h : Ad w I P S cs s) : ∀ i, i ∈ OwnA I → i < w.heap.size := by
  intro i hi
  unfold OwnA at hi
  simp only [List.mem_cons] at hi
  rcases hi with rfl | rfl | rfl | rfl | rfl | rfl | hi
  · exact lt_of_heap h.head
  · obtain ⟨m, _, hm⟩ := h.mp; exact hm.lt
  · exact h.mem.ltp
  · exact h.mem.ltq
  · exact h.sh.mem.ltp
  · exact h.sh.mem.ltq
  · obtain ⟨c, hc⟩ := h.wty hi; exact lt_of_heap hc
theorem Ad.quiet (h : Ad w I P S cs s) (t : Turned [] w w') : Ad w' I P S cs s := by
  obtain ⟨r1, r2, r3⟩ := h.rest t (by simp) (by simp)
  obtain ⟨m, hm, hmp⟩ := h.mp
  refine ⟨h.c, r1, r2, r3, h.sh.turned0 t, h.mem.turned t (by simp) (by simp), by rw [t.block _ (lt_of_heap h.head) (by simp)]; exact h.head, ⟨m, hm, hmp.block (t.block _ hmp.lt (by simp))⟩, h.len, fun k x hx => ?_⟩
  obtain ⟨b, pv, h1, h2, h3⟩ := h.wk k x hx
  exact ⟨b, pv, h1, by rw [t.block _ (lt_of_heap h2) (by simp)]; exact h2, h3.keep t (by simp)⟩
/-- An access of the heap. -/
theorem Ad.acc (h : Ad w I P S cs s) {l : List Int} {a : Int} (hm : Mem w' I.cp I.cq l a) (t : Turned [I.cp, I.cq] w w') : Ad w' I P S cs { s with hw := l, ac := a } := by
  have hT : ∀ i, i ∈ [I.cp, I.cq] → ∃ c e fr, w.heap[i]? = some (.cells c e fr) ∧ (e = 86 ∨ e = 2) := by
    intro i hi
    simp at hi
    rcases hi with rfl | rfl
    · exact ⟨_, _, _, h.mem.head, .inl rfl⟩
    · exact ⟨_, _, _, h.mem.row, .inr rfl⟩
  have hne : ∀ (x : Nat) (c : Array Value) (e : TypeId) (fr : Nat × Nat), w.heap[x]? = some (.cells c e fr) → e ≠ 86 → e ≠ 2 → x ∉ [I.cp, I.cq] := by
    intro x c e fr hx h1 h2 hm
    obtain ⟨c2, e2, fr2, h3, h4⟩ := hT x hm
    rw [hx] at h3
    cases h3
    rcases h4 with h4 | h4
    · exact h1 h4
    · exact h2 h4
  obtain ⟨r1, r2, r3⟩ := h.rest t (by have := h.c.pos; simp; omega) (fun i hi => .inl (by
    obtain ⟨c, e, fr, h1, h2⟩ := hT i hi
    refine ⟨c, e, fr, h1, ?_⟩
    rcases h2 with rfl | rfl <;> decide))
  obtain ⟨m, hm6, hmp⟩ := h.mp
  have hmb : I.mb ∉ [I.cp, I.cq] := by
    have a1 := hmp.ne h.mem.head
    have a2 := hmp.ne h.mem.row
    simp; omega
  obtain ⟨k1, k2, k3, k4⟩ := h.c.ck
  refine ⟨h.c, r1, r2, r3, h.sh.turned t (hne _ _ _ _ h.sh.obj (by decide) (by decide)) (by simp; omega) (by simp; omega), hm, by rw [t.block _ (lt_of_heap h.head) (hne _ _ _ _ h.head (by decide) (by decide))]; exact h.head, ⟨m, hm6, hmp.block (t.block _ hmp.lt hmb)⟩, h.len, fun k x hx => ?_⟩
  obtain ⟨b, pv, h1, h2, h3⟩ := h.wk k x hx
  exact ⟨b, pv, h1, by rw [t.block _ (lt_of_heap h2) (hne _ _ _ _ h2 (by decide) (by decide))]; exact h2, h3.keep t (fun i hi c e fr hc => by
    obtain ⟨c2, e2, fr2, h4, h5⟩ := hT i hi
    rw [hc] at h4
    cases h4
    rcases h5 with rfl | rfl <;> decide)⟩
/-- An access of the control. -/
theorem Ad.ctl (h : Ad w I P S cs s) {l : List Int} {a : Int} (hm : Gs.Sh w' I.shb I.kp I.kq l a 0 (P.R : Int)) (t : Turned [I.kp, I.kq] w w') : Ad w' I P S cs { s with cl := l, cc := a } := by
  have hT : ∀ i, i ∈ [I.kp, I.kq] → ∃ c e fr, w.heap[i]? = some (.cells c e fr) ∧ (e = 86 ∨ e = 2) := by
    intro i hi
    simp at hi
    rcases hi with rfl | rfl
    · exact ⟨_, _, _, h.sh.mem.head, .inl rfl⟩
    · exact ⟨_, _, _, h.sh.mem.row, .inr rfl⟩
  have hne : ∀ (x : Nat) (c : Array Value) (e : TypeId) (fr : Nat × Nat), w.heap[x]? = some (.cells c e fr) → e ≠ 86 → e ≠ 2 → x ∉ [I.kp, I.kq] := by
    intro x c e fr hx h1 h2 hm
    obtain ⟨c2, e2, fr2, h3, h4⟩ := hT x hm
    rw [hx] at h3
    cases h3
    rcases h4 with h4 | h4
    · exact h1 h4
    · exact h2 h4
  obtain ⟨r1, r2, r3⟩ := h.rest t (by have := h.c.pos; simp; omega) (fun i hi => .inl (by
    obtain ⟨c, e, fr, h1, h2⟩ := hT i hi
    refine ⟨c, e, fr, h1, ?_⟩
    rcases h2 with rfl | rfl <;> decide))
  obtain ⟨m, hm6, hmp⟩ := h.mp
  have hmb : I.mb ∉ [I.kp, I.kq] := by
    have a1 := hmp.ne h.sh.mem.head
    have a2 := hmp.ne h.sh.mem.row
    simp; omega
  obtain ⟨k1, k2, k3, k4⟩ := h.c.ck
  refine ⟨h.c, r1, r2, r3, hm, h.mem.turned t (by simp; omega) (by simp; omega), by rw [t.block _ (lt_of_heap h.head) (hne _ _ _ _ h.head (by decide) (by decide))]; exact h.head, ⟨m, hm6, hmp.block (t.block _ hmp.lt hmb)⟩, h.len, fun k x hx => ?_⟩
  obtain ⟨b, pv, h1, h2, h3⟩ := h.wk k x hx
  exact ⟨b, pv, h1, by rw [t.block _ (lt_of_heap h2) (hne _ _ _ _ h2 (by decide) (by decide))]; exact h2, h3.keep t (fun i hi c e fr hc => by
    obtain ⟨c2, e2, fr2, h4, h5⟩ := hT i hi
    rw [hc] at h4
    cases h4
    rcases h5 with rfl | rfl <;> decide)⟩
/-- A store into the fault. -/
theorem Ad.fault (h : Ad w I P S cs s) (a : Int) : Ad (w.setCell ⟨I.ab, 14, none⟩ (.int .i64 a)) I P S cs { s with ft := a } := by
  have t : Turned [I.ab] w (w.setCell ⟨I.ab, 14, none⟩ (.int .i64 a)) := (Turned.refl [I.ab] w).setCell (p := ⟨I.ab, 14, none⟩) (.inl (by simp)) _
  have hne : ∀ (x : Nat) (c : Array Value) (e : TypeId) (fr : Nat × Nat), w.heap[x]? = some (.cells c e fr) → e ≠ 98 → x ∉ [I.ab] := by
    intro x c e fr hx h1 hm
    simp at hm
    rw [hm, h.head] at hx
    cases hx
    exact h1 rfl
  obtain ⟨r1, r2, r3⟩ := h.rest t (by have := h.c.pos; simp; omega) (fun i hi => .inl (by
    simp at hi
    subst hi
    exact ⟨_, _, _, h.head, by decide, by decide, by decide, by decide⟩))
  obtain ⟨m, hm6, hmp⟩ := h.mp
  have hmb : I.mb ∉ [I.ab] := by have a1 := hmp.ne h.head; simp; omega
  refine ⟨h.c, r1, r2, r3, h.sh.turned t (hne _ _ _ _ h.sh.obj (by decide)) (hne _ _ _ _ h.sh.mem.head (by decide)) (hne _ _ _ _ h.sh.mem.row (by decide)), h.mem.turned t (hne _ _ _ _ h.mem.head (by decide)) (hne _ _ _ _ h.mem.row (by decide)), ?_, ⟨m, hm6, hmp.block (t.block _ hmp.lt hmb)⟩, h.len, fun k x hx => ?_⟩
  · have := heap_setCell_at _ _ 14 _ _ _ h.head (.int .i64 a)
    exact this
  · obtain ⟨b, pv, h1, h2, h3⟩ := h.wk k x hx
    exact ⟨b, pv, h1, by rw [t.block _ (lt_of_heap h2) (hne _ _ _ _ h2 (by decide))]; exact h2, h3.keep t (fun i hi c e fr hc => by
      simp at hi
      subst hi
      rw [h.head] at hc
      cases hc
      decide)⟩
/-- A worker's cells are turned. -/
theorem Ad.setw (h : Ad w I P S cs s) {k b : Nat} {x x0 : AdW} {pv : Value} (hk : I.ws[k]? = some b) (h0 : s.ws[k]? = some x0) (ho : x.on = x0.on) (t : Turned [b] w w') (hs : w'.heap[b]? = some (.cells (wkA b I.ab x pv) 103)) (hp : Plc w' pv x.pl) : Ad w' I P S cs { s with ws := s.ws.set k x } := by
  obtain ⟨pv0, hb, _⟩ := h.wblk hk h0
  have hne : ∀ (y : Nat) (c : Array Value) (e : TypeId) (fr : Nat × Nat), w.heap[y]? = some (.cells c e fr) → e ≠ 103 → y ∉ [b] := by
    intro y c e fr hx h1 hm
    simp at hm
    subst hm
    rw [hb] at hx
    cases hx
    exact h1 rfl
  have hpos : 0 < b := h.c.pos.2.2.2.2.2.2 b (List.mem_of_getElem? hk)
  obtain ⟨r1, r2, r3⟩ := h.rest t (by simp; omega) (fun i hi => .inl (by
    simp at hi
    subst hi
    exact ⟨_, _, _, hb, by decide, by decide, by decide, by decide⟩))
  obtain ⟨m, hm6, hmp⟩ := h.mp
  have hmb : I.mb ∉ [b] := by have a1 := hmp.ne hb; simp; omega
  have hmap : ∀ y, mapA I s.ws y = mapA I (s.ws.set k x) y := by
    intro y
    unfold mapA
    split
    · rfl
    · by_cases e : k = y.toNat
      · rw [← e, h0, List.getElem?_set_self (List.getElem?_eq_some_iff.1 h0).1]
        show (if x0.on = true then _ else _) = if x.on = true then _ else _
        rw [ho]
      · rw [List.getElem?_set_ne e]
  refine ⟨h.c, r1, r2, r3, h.sh.turned t (hne _ _ _ _ h.sh.obj (by decide)) (hne _ _ _ _ h.sh.mem.head (by decide)) (hne _ _ _ _ h.sh.mem.row (by decide)), h.mem.turned t (hne _ _ _ _ h.mem.head (by decide)) (hne _ _ _ _ h.mem.row (by decide)), by rw [t.block _ (lt_of_heap h.head) (hne _ _ _ _ h.head (by decide))]; exact h.head, ⟨m, hm6, (hmp.block (t.block _ hmp.lt hmb)).congr hmap⟩, by rw [List.length_set]; exact h.len, fun i y hy => ?_⟩
  by_cases hik : k = i
  · subst hik
    have hy' : (s.ws.set k x)[k]? = some y := hy
    rw [List.getElem?_set_self (List.getElem?_eq_some_iff.1 h0).1] at hy'
    cases hy'
    exact ⟨b, pv, hk, hs, hp⟩
  · have hy' : (s.ws.set k x)[i]? = some y := hy
    rw [List.getElem?_set_ne hik] at hy'
    obtain ⟨b', pv', h1, h2, h3⟩ := h.wk i y hy'
    have hbb : b' ≠ b := fun e => hik (h.c.nd k i b hk (by rw [← e]; exact h1))
    refine ⟨b', pv', h1, by rw [t.block b' (lt_of_heap h2) (by simpa using hbb)]; exact h2, h3.keep t (fun j hj c e fr hc => ?_)⟩
    simp at hj
    subst hj
    rw [hb] at hc
    cases hc
    decide
/-- A worker has ended: it is in the map no more. -/
theorem Ad.ended (h : Ad w I P S cs s) {k : Nat} {x0 : AdW} (h0 : s.ws[k]? = some x0) {m : Nat} (hm6 : m ≤ 64) (hw : WM w' I.mb m (fun y => if y = (k : Int) then none else mapA I s.ws y)) (t : Turned [I.mb] w w') : Ad w' I P S cs { s with ws := s.ws.set k { x0 with on := false } } := by
  obtain ⟨m0, hm0, hmp⟩ := h.mp
  have hne : ∀ (y : Nat) (c : Array Value) (e : TypeId) (fr : Nat × Nat), w.heap[y]? = some (.cells c e fr) → y ∉ [I.mb] := by
    intro y c e fr hx
    have := hmp.ne hx
    simpa using this
  obtain ⟨r1, r2, r3⟩ := h.rest t (by have := h.c.pos; simp; omega) (fun i hi => .inr (by
    simp at hi
    subst hi
    exact hmp.isMap))
  refine ⟨h.c, r1, r2, r3, h.sh.turned t (hne _ _ _ _ h.sh.obj) (hne _ _ _ _ h.sh.mem.head) (hne _ _ _ _ h.sh.mem.row), h.mem.turned t (hne _ _ _ _ h.mem.head) (hne _ _ _ _ h.mem.row), by rw [t.block _ (lt_of_heap h.head) (hne _ _ _ _ h.head)]; exact h.head, ⟨m, hm6, hw.congr (fun y => ?_)⟩, by rw [List.length_set]; exact h.len, fun i y hy => ?_⟩
  · by_cases e : y = (k : Int)
    · rw [if_pos e, e, mapA_nat, List.getElem?_set_self (List.getElem?_eq_some_iff.1 h0).1]
      rfl
    · rw [if_neg e]
      unfold mapA
      split
      · rfl
      · rw [List.getElem?_set_ne (by omega)]
  · have key : ∀ (b : Nat) (pv : Value) (z : AdW), w.heap[b]? = some (.cells (wkA b I.ab z pv) 103) → Plc w pv z.pl → w'.heap[b]? = some (.cells (wkA b I.ab z pv) 103) ∧ Plc w' pv z.pl := fun b pv z h1 h2 =>
      ⟨by rw [t.block b (lt_of_heap h1) (hne _ _ _ _ h1)]; exact h1, h2.keep t (fun j hj c e fr hc => by
        simp at hj
        subst hj
        obtain ⟨es, ck, h3⟩ := hmp.isMap
        rw [h3] at hc
        cases hc)⟩
    by_cases hik : k = i
    · subst hik
      have hy' : (s.ws.set k { x0 with on := false })[k]? = some y := hy
      rw [List.getElem?_set_self (List.getElem?_eq_some_iff.1 h0).1] at hy'
      cases hy'
      obtain ⟨b, pv, h1, h2, h3⟩ := h.wk k x0 h0
      exact ⟨b, pv, h1, key b pv x0 h2 h3⟩
    · have hy' : (s.ws.set k { x0 with on := false })[i]? = some y := hy
      rw [List.getElem?_set_ne hik] at hy'
      obtain ⟨b', pv', h1, h2, h3⟩ := h.wk i y hy'
      exact ⟨b', pv', h1, key b' pv' y h2 h3⟩
end
end Go.Proofs.YtpeglndlhjnaaaaGreatDoor

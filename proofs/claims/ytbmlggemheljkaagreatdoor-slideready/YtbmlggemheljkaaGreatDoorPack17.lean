/-
  Texts of the proof, several in one: SlideBase, SlideWalks.
-/
import Derived.Test.YtbmlggemheljkaaGreatDoorPack16
import Derived.Test.YtbmlggemheljkaaGreatDoorPack6
/-
  A slider in memory: its blocks, its state, and what stays when a part of it changes. No Go is walked here.
-/
namespace Go.Proofs.YtbmlggemheljkaaGreatDoor
open Go.RowKit Bt
set_option linter.unusedVariables false
set_option linter.unusedSimpArgs false

/-- A worker: its next step (0 take, 1 read, 2 store), its region, the words that are left of the goal, the source, the word read. -/
structure SlW where
  ph : Nat
  rg : Nat
  x : Nat
  y : Nat
  src : Nat
  wd : Int
/-- The state: the heap's words, its accesses, regions left, waits, the line, the moves, the workers. -/
structure SlS where
  hw : List Int
  ac : Int
  left : Nat
  wt : Nat → Nat
  H : List Nat
  mv : List (Nat × Nat)
  ws : List SlW
/-- The blocks. -/
structure SlI where
  sb : Nat
  lb : Nat
  ws : List Nat
  wr : Nat
  zq : Nat
  lq : Nat
  aq : Nat
  wq : Nat
  tq : Nat
  cp : Nat
  cq : Nat
  bp : Nat
  N : Nat
  B : Nat
  zc : Nat

def fnOf (ph : Nat) : FuncId := if ph = 0 then 58 else if ph = 1 then 89 else 100
def wkC (b sb : Nat) (x : SlW) : Array Value := #[.func (.func (fnOf x.ph)) #[.pointer (some ⟨b, 0, none⟩)] #[], .pointer (some ⟨sb, 0, none⟩), .int .i64 (x.rg : Int), .int .i64 (x.x : Int), .int .i64 (x.y : Int), .int .i64 (x.src : Int), .int .i64 x.wd]
def slC (I : SlI) (P : PN) (left : Nat) (m : Value) : Array Value := #[.pointer (some ⟨I.cp, 0, none⟩), .pointer (some ⟨I.bp, 0, none⟩), .int .i64 P.f, .int .i64 P.t, .int .i64 P.k, .int .i64 P.d, .int .i64 P.e, slc I.lq P.R, slc I.aq P.R, slc I.wq P.R, slc I.tq P.R, .slice (some ⟨I.wr, 0, none⟩) I.ws.length I.ws.length, .int .i64 (left : Int), .slice (some ⟨I.zq, 0, none⟩) P.R I.zc, lnI I.lb, m]
def mvRow (mv : List (Nat × Nat)) : List Value := mv.flatMap fun p => [Value.int .i64 (p.1 : Int), Value.int .i64 (p.2 : Int)]
theorem mvRow_snoc (mv : List (Nat × Nat)) (a b : Nat) : mvRow (mv ++ [(a, b)]) = mvRow mv ++ [Value.int .i64 (a : Int), Value.int .i64 (b : Int)] := by unfold mvRow; simp

/-- What doesn't change: the marks and the plan's lists, as they were in the world wb. -/
structure SlC (wb : World) (I : SlI) (P : PN) (S : Nat → Nat) : Prop where
  br : Brd wb (some ⟨I.bp, 0, none⟩) I.N (sidesOf S)
  bl : Bl I.N S
  pl : Pln wb P S I.lq I.aq I.wq I.tq
  fit : Fit P (live S)
  tn : P.t ≤ I.N
  cp0 : 0 < I.cp
  cq0 : 0 < I.cq
  n0 : 0 < I.N
  mem : ∃ l s, Mem wb I.cp I.cq l s

theorem brd_mem {w w' : World} {ov : Option Addr} {n : Nat} {F : Nat → Nat → Bool} {p q : Nat} {l : List Int} {s : Int} (h : Brd w ov n F) (h0 : 0 < n) (hm : Mem w p q l s) (hp : 0 < p) (hq : 0 < q) (t : Turned [p, q] w w') : Brd w' ov n F := by
  obtain ⟨b, c, R, k1, k2, k3, k4, k5⟩ := h.some_ h0
  have hR : 0 < R := by omega
  have rowi : ∀ i u, w.cell? ⟨q, i, none⟩ = some u → ∃ z, u = .int .i64 z := by
    intro i u hu
    rw [cell_of_heap hm.row i] at hu
    simp at hu
    obtain ⟨z, _, hz⟩ := hu
    exact ⟨z, hz.symm⟩
  have b1 : b ≠ p := by
    rintro rfl
    rw [hm.c0] at k2
    cases k2
  have b2 : b ≠ q := by
    rintro rfl
    obtain ⟨z, hz⟩ := rowi 1 _ k3
    cases hz
  have u0 := k5 0 0 hR (by decide)
  have c1 : c ≠ p := by
    rintro rfl
    have := hm.c0
    simp only [Nat.zero_mul, Nat.add_zero] at u0
    rw [this] at u0
    cases u0
  have c2 : c ≠ q := by
    rintro rfl
    obtain ⟨z, hz⟩ := rowi _ _ u0
    cases hz
  have k : ∀ (a : Addr) x, a.block ≠ p → a.block ≠ q → w.cell? a = some x → w'.cell? a = some x := fun a x h1 h2 hx => by rw [t.cell (block_lt hx) (by simp; exact ⟨h1, h2⟩)]; exact hx
  refine ⟨h.few, h.tab.turned t (by simp; omega), fun a ha => ?_, fun _ => ⟨b, c, R, k1, k _ _ b1 b2 k2, k _ _ b1 b2 k3, k4, fun i s hi hs => k _ _ c1 c2 (k5 i s hi hs)⟩, h.nil⟩
  rw [k1] at ha
  cases ha
  exact ⟨b, rfl, k _ _ b1 b2 k2⟩
section
variable {wb w w' : World} {I : SlI} {P : PN} {S : Nat → Nat}
theorem SlC.brd (h : SlC wb I P S) (t : Turned [I.cp, I.cq] wb w) : Brd w (some ⟨I.bp, 0, none⟩) I.N (sidesOf S) := by
  obtain ⟨l, s, hm⟩ := h.mem
  exact brd_mem h.br h.n0 hm h.cp0 h.cq0 t
theorem SlC.pln (h : SlC wb I P S) (t : Turned [I.cp, I.cq] wb w) : Pln w P S I.lq I.aq I.wq I.tq := by
  obtain ⟨l, s, hm⟩ := h.mem
  have hi : ∀ {q n : Nat} {g : Nat → Int}, Ri wb 3 q n g → Ri w 3 q n g := fun {q n g} hr => hr.turned t (by
    obtain ⟨c, hc, _⟩ := hr
    simp
    exact ⟨ne_of_type hc hm.head (by decide), ne_of_type hc hm.row (by decide)⟩)
  have hp : ∀ {q n : Nat} {g : Nat → Nat → Int}, Rp wb q n g → Rp w q n g := fun {q n g} hr => hr.turned t (by
    obtain ⟨c, hc, _⟩ := hr
    simp
    exact ⟨ne_of_type hc hm.head (by decide), ne_of_type hc hm.row (by decide)⟩)
  exact ⟨hi h.pl.lv, hi h.pl.ah, hi h.pl.wt, hp h.pl.tk⟩
end

/-- A slider: what doesn't change (wb), and its state s; v: the line's value, m: the moves' value. -/
structure Sl (wb w : World) (I : SlI) (P : PN) (S : Nat → Nat) (s : SlS) (v m : Value) : Prop where
  c : SlC wb I P S
  t : Turned [I.cp, I.cq] wb w
  mem : Mem w I.cp I.cq s.hw s.ac
  head : w.heap[I.sb]? = some (.cells (slC I P s.left m) 81)
  ln : Ln w I.lb v I.B s.H
  zw : Ri w 3 I.zq P.R (fun j => (s.wt j : Nat))
  zB : I.zq < I.B
  row : w.heap[I.wr]? = some (Obj.cells ((I.ws.map fun b => Value.pointer (some ⟨b, 0, none⟩)).toArray) 94)
  len : s.ws.length = I.ws.length
  wk : ∀ (k : Nat) (x : SlW), s.ws[k]? = some x → ∃ b : Nat, I.ws[k]? = some b ∧ w.heap[b]? = some (.cells (wkC b I.sb x) 93)
  nd : ∀ (i j b : Nat), I.ws[i]? = some b → I.ws[j]? = some b → i = j
  mv : w.ownsRow I.B 46 2 m s.mv.length (mvRow s.mv)
  nsb : wb.heap.size ≤ I.sb
  nlb : wb.heap.size ≤ I.lb
  nzq : wb.heap.size ≤ I.zq
  nws : ∀ b, b ∈ I.ws → wb.heap.size ≤ b
  nB : wb.heap.size ≤ I.B
section
variable {wb w w' : World} {I : SlI} {P : PN} {S : Nat → Nat} {s : SlS} {v m : Value}
/-- A block of another type than those that were turned stays. -/
theorem keep_ty {T : List Nat} (t : Turned T w w') {x : Nat} {c : Array Value} {e : TypeId} (hx : w.heap[x]? = some (.cells c e)) (hT : ∀ i, i ∈ T → ∃ c' e' fr, w.heap[i]? = some (.cells c' e' fr) ∧ e' ≠ e) : w'.heap[x]? = some (.cells c e) := by
  rw [t.block x (lt_of_heap hx) (fun hm => by
    obtain ⟨c', e', fr, h1, h2⟩ := hT x hm
    exact ne_of_type h1 hx h2 rfl)]
  exact hx
theorem own_ty {B : Nat} {e : TypeId} {size : Nat} {u : Value} {n : Nat} {xs : List Value} (ho : w.ownsRow B e size u n xs) {T : List Nat} (t : Turned T w w') (hT : ∀ i, i ∈ T → ∃ c' e' fr, w.heap[i]? = some (.cells c' e' fr) ∧ e' ≠ e) : w'.ownsRow B e size u n xs :=
  ownsRow_keep ho (fun i hi => t.block i (ownsRow_lt ho i hi).2.1 (fun hm => by
    obtain ⟨c', e', fr, h1, h2⟩ := hT i hm
    obtain ⟨_, _, c2, hc2⟩ := ownsRow_lt ho i hi
    exact ne_of_type h1 hc2 h2 rfl))
theorem Ri.ty {q n : Nat} {g : Nat → Int} (h : Ri w 3 q n g) {T : List Nat} (t : Turned T w w') (hT : ∀ i, i ∈ T → ∃ c' e' fr, w.heap[i]? = some (.cells c' e' fr) ∧ e' ≠ 3) : Ri w' 3 q n g := by
  obtain ⟨c, hc, h1⟩ := h
  exact ⟨c, keep_ty t hc hT, h1⟩
theorem Sl.quiet (h : Sl wb w I P S s v m) (t : Turned [] w w') : Sl wb w' I P S s v m := by
  have k : ∀ {x : Nat} {c : Array Value} {e : TypeId}, w.heap[x]? = some (.cells c e) → w'.heap[x]? = some (.cells c e) := fun {x c e} hx => keep_ty t hx (by simp)
  refine ⟨h.c, h.t.trans_new t (by simp), h.mem.turned t (by simp) (by simp), k h.head, h.ln.turned0 t, h.zw.turned0 t, h.zB, k h.row, h.len, fun i x hx => ?_, h.nd, own_ty h.mv t (by simp), h.nsb, h.nlb, h.nzq, h.nws, h.nB⟩
  obtain ⟨b, h1, h2⟩ := h.wk i x hx
  exact ⟨b, h1, k h2⟩
/-- An access of the heap. -/
theorem Sl.acc (h : Sl wb w I P S s v m) {l : List Int} {a : Int} (hm : Mem w' I.cp I.cq l a) (t : Turned [I.cp, I.cq] w w') : Sl wb w' I P S { s with hw := l, ac := a } v m := by
  have hT : ∀ e : TypeId, e ≠ 90 → e ≠ 2 → ∀ i, i ∈ [I.cp, I.cq] → ∃ c' e' fr, w.heap[i]? = some (.cells c' e' fr) ∧ e' ≠ e := by
    intro e h1 h2 i hi
    simp at hi
    rcases hi with rfl | rfl
    · exact ⟨_, _, _, h.mem.head, fun e => h1 e.symm⟩
    · exact ⟨_, _, _, h.mem.row, fun e => h2 e.symm⟩
  refine ⟨h.c, h.t.trans t, hm, keep_ty t h.head (hT _ (by decide) (by decide)), ⟨keep_ty t h.ln.head (hT _ (by decide) (by decide)), own_ty h.ln.row t (hT _ (by decide) (by decide)), h.ln.few, Nat.le_trans h.ln.base t.size⟩, h.zw.ty t (hT _ (by decide) (by decide)), h.zB, keep_ty t h.row (hT _ (by decide) (by decide)), h.len, fun i x hx => ?_, h.nd, own_ty h.mv t (hT _ (by decide) (by decide)), h.nsb, h.nlb, h.nzq, h.nws, h.nB⟩
  obtain ⟨b, h1, h2⟩ := h.wk i x hx
  exact ⟨b, h1, keep_ty t h2 (hT _ (by decide) (by decide))⟩
/-- The line has changed. -/
theorem Sl.line (h : Sl wb w I P S s v m) {H' : List Nat} {v' : Value} (hl : Ln w' I.lb v' I.B H') (t : Turned (I.lb :: v.ownBlock.toList) w w') : Sl wb w' I P S { s with H := H' } v' m := by
  have hv : ∀ i, v.ownBlock = some i → I.B ≤ i ∧ ∃ c, w.heap[i]? = some (.cells c 3) := fun i hi => by
    obtain ⟨h1, _, h3⟩ := ownsRow_lt h.ln.row i hi
    exact ⟨h1, h3⟩
  have hT : ∀ e : TypeId, e ≠ 76 → e ≠ 3 → ∀ i, i ∈ I.lb :: v.ownBlock.toList → ∃ c' e' fr, w.heap[i]? = some (.cells c' e' fr) ∧ e' ≠ e := by
    intro e h1 h2 i hi
    rcases List.mem_cons.1 hi with rfl | hi
    · exact ⟨_, _, _, h.ln.head, fun e => h1 e.symm⟩
    · obtain ⟨_, c, hc⟩ := hv i (by simpa using hi)
      exact ⟨_, _, _, hc, fun e => h2 e.symm⟩
  refine ⟨h.c, h.t.trans_new t (fun i hi => .inr ?_), ⟨h.mem.ne, keep_ty t h.mem.head (hT _ (by decide) (by decide)), keep_ty t h.mem.row (hT _ (by decide) (by decide))⟩, keep_ty t h.head (hT _ (by decide) (by decide)), hl, h.zw.turned t (fun hm => ?_), h.zB, keep_ty t h.row (hT _ (by decide) (by decide)), h.len, fun i x hx => ?_, h.nd, own_ty h.mv t (hT _ (by decide) (by decide)), h.nsb, h.nlb, h.nzq, h.nws, h.nB⟩
  · rcases List.mem_cons.1 hi with rfl | hi
    · exact h.nlb
    · have := (hv i (by simpa using hi)).1
      have := h.nB
      omega
  · rcases List.mem_cons.1 hm with e | hi
    · obtain ⟨c, hc, _⟩ := h.zw
      rw [e] at hc
      exact ne_of_type hc h.ln.head (by decide) rfl
    · have := (hv _ (by simpa using hi)).1
      have := h.zB
      omega
  · obtain ⟨b, h1, h2⟩ := h.wk i x hx
    exact ⟨b, h1, keep_ty t h2 (hT _ (by decide) (by decide))⟩
/-- A store into the row of waits. -/
theorem Sl.setz (h : Sl wb w I P S s v m) (j a : Nat) : Sl wb (w.setCell ⟨I.zq, j, none⟩ (.int .i64 (a : Int))) I P S { s with wt := fun i => if i = j then a else s.wt i } v m := by
  have t : Turned [I.zq] w (w.setCell ⟨I.zq, j, none⟩ (.int .i64 (a : Int))) := (Turned.refl [I.zq] w).setCell (p := ⟨I.zq, j, none⟩) (.inl (by simp)) _
  obtain ⟨cz, hcz, _⟩ := h.zw
  have hT : ∀ e : TypeId, e ≠ 3 → ∀ i, i ∈ [I.zq] → ∃ c' e' fr, w.heap[i]? = some (.cells c' e' fr) ∧ e' ≠ e := by
    intro e h1 i hi
    simp at hi
    subst hi
    exact ⟨_, _, _, hcz, fun e => h1 e.symm⟩
  refine ⟨h.c, h.t.trans_new t (by simp; exact .inr h.nzq), ⟨h.mem.ne, keep_ty t h.mem.head (hT _ (by decide)), keep_ty t h.mem.row (hT _ (by decide))⟩, keep_ty t h.head (hT _ (by decide)), ⟨keep_ty t h.ln.head (hT _ (by decide)), ownsRow_keep h.ln.row (fun i hi => t.block i (ownsRow_lt h.ln.row i hi).2.1 (by
    have := (ownsRow_lt h.ln.row i hi).1
    have := h.zB
    simp; omega)), h.ln.few, Nat.le_trans h.ln.base t.size⟩, (h.zw.set j (a : Int)).congr (fun i _ => ?_), h.zB, keep_ty t h.row (hT _ (by decide)), h.len, fun i x hx => ?_, h.nd, own_ty h.mv t (hT _ (by decide)), h.nsb, h.nlb, h.nzq, h.nws, h.nB⟩
  · show (if i = j then (a : Int) else (s.wt i : Int)) = ((if i = j then a else s.wt i : Nat) : Int)
    split <;> rfl
  · obtain ⟨b, h1, h2⟩ := h.wk i x hx
    exact ⟨b, h1, keep_ty t h2 (hT _ (by decide))⟩
/-- Stores into the slider's own cells. -/
theorem Sl.sets (h : Sl wb w I P S s v m) {left' : Nat} (t : Turned [I.sb] w w') (hs : w'.heap[I.sb]? = some (.cells (slC I P left' m) 81)) : Sl wb w' I P S { s with left := left' } v m := by
  have hT : ∀ e : TypeId, e ≠ 81 → ∀ i, i ∈ [I.sb] → ∃ c' e' fr, w.heap[i]? = some (.cells c' e' fr) ∧ e' ≠ e := by
    intro e h1 i hi
    simp at hi
    subst hi
    exact ⟨_, _, _, h.head, fun e => h1 e.symm⟩
  refine ⟨h.c, h.t.trans_new t (by simp; exact .inr h.nsb), ⟨h.mem.ne, keep_ty t h.mem.head (hT _ (by decide)), keep_ty t h.mem.row (hT _ (by decide))⟩, hs, ⟨keep_ty t h.ln.head (hT _ (by decide)), own_ty h.ln.row t (hT _ (by decide)), h.ln.few, Nat.le_trans h.ln.base t.size⟩, h.zw.ty t (hT _ (by decide)), h.zB, keep_ty t h.row (hT _ (by decide)), h.len, fun i x hx => ?_, h.nd, own_ty h.mv t (hT _ (by decide)), h.nsb, h.nlb, h.nzq, h.nws, h.nB⟩
  obtain ⟨b, h1, h2⟩ := h.wk i x hx
  exact ⟨b, h1, keep_ty t h2 (hT _ (by decide))⟩
/-- Stores into a worker's cells. -/
theorem Sl.setw (h : Sl wb w I P S s v m) {k b : Nat} {x : SlW} {c0 : Array Value} (hk : I.ws[k]? = some b) (t : Turned [b] w w') (hb : w.heap[b]? = some (.cells c0 93)) (hs : w'.heap[b]? = some (.cells (wkC b I.sb x) 93)) : Sl wb w' I P S { s with ws := s.ws.set k x } v m := by
  have hT : ∀ e : TypeId, e ≠ 93 → ∀ i, i ∈ [b] → ∃ c' e' fr, w.heap[i]? = some (.cells c' e' fr) ∧ e' ≠ e := by
    intro e h1 i hi
    simp at hi
    subst hi
    exact ⟨_, _, _, hb, fun e => h1 e.symm⟩
  refine ⟨h.c, h.t.trans_new t (by simp; exact .inr (h.nws b (List.mem_of_getElem? hk))), ⟨h.mem.ne, keep_ty t h.mem.head (hT _ (by decide)), keep_ty t h.mem.row (hT _ (by decide))⟩, keep_ty t h.head (hT _ (by decide)), ⟨keep_ty t h.ln.head (hT _ (by decide)), own_ty h.ln.row t (hT _ (by decide)), h.ln.few, Nat.le_trans h.ln.base t.size⟩, h.zw.ty t (hT _ (by decide)), h.zB, keep_ty t h.row (hT _ (by decide)), by simp [h.len], fun i y hy => ?_, h.nd, own_ty h.mv t (hT _ (by decide)), h.nsb, h.nlb, h.nzq, h.nws, h.nB⟩
  show ∃ b : Nat, I.ws[i]? = some b ∧ w'.heap[b]? = some (.cells (wkC b I.sb y) 93)
  by_cases hik : k = i
  · subst hik
    refine ⟨b, hk, ?_⟩
    have hlt : k < s.ws.length := by rw [h.len]; exact (List.getElem?_eq_some_iff.1 hk).1
    have : y = x := by
      have hy' : (s.ws.set k x)[k]? = some y := hy
      rw [List.getElem?_set_self hlt] at hy'
      exact (Option.some.inj hy').symm
    rw [this]; exact hs
  · have hy' : (s.ws.set k x)[i]? = some y := hy
    rw [List.getElem?_set_ne hik] at hy'
    obtain ⟨b', h1, h2⟩ := h.wk i y hy'
    refine ⟨b', h1, ?_⟩
    rw [t.block b' (lt_of_heap h2) (by simp; intro e; subst e; exact hik (h.nd _ _ _ hk h1))]
    exact h2
end
/-- The slider's own blocks. -/
def OwnS (I : SlI) (v m : Value) : List Nat := I.sb :: I.lb :: I.zq :: I.cp :: I.cq :: (I.ws ++ v.ownBlock.toList ++ m.ownBlock.toList)
/-- What calls leave: only the slider's own blocks are turned; its rows lie where they lay, or are new. -/
structure SOut (I : SlI) (v m v' m' : Value) (w w' : World) : Prop where
  t : Turned (OwnS I v m) w w'
  v_ : ∀ i, v'.ownBlock = some i → v.ownBlock = some i ∨ w.heap.size ≤ i
  m_ : ∀ i, m'.ownBlock = some i → m.ownBlock = some i ∨ w.heap.size ≤ i
section
variable {I : SlI} {v m v1 m1 v2 m2 : Value} {w w1 w2 : World}
theorem SOut.trans (h : SOut I v m v1 m1 w w1) (k : SOut I v1 m1 v2 m2 w1 w2) : SOut I v m v2 m2 w w2 := by
  refine ⟨h.t.trans_new k.t (fun i hi => ?_), fun i hi => ?_, fun i hi => ?_⟩
  · unfold OwnS at hi ⊢
    simp only [List.mem_cons, List.mem_append, Option.mem_toList] at hi ⊢
    rcases hi with hi | hi | hi | hi | hi | (hi | hi) | hi
    · exact .inl (.inl hi)
    · exact .inl (.inr (.inl hi))
    · exact .inl (.inr (.inr (.inl hi)))
    · exact .inl (.inr (.inr (.inr (.inl hi))))
    · exact .inl (.inr (.inr (.inr (.inr (.inl hi)))))
    · exact .inl (.inr (.inr (.inr (.inr (.inr (.inl (.inl hi)))))))
    · rcases h.v_ i hi with h1 | h1
      · exact .inl (.inr (.inr (.inr (.inr (.inr (.inl (.inr h1)))))))
      · exact .inr h1
    · rcases h.m_ i hi with h1 | h1
      · exact .inl (.inr (.inr (.inr (.inr (.inr (.inr h1))))))
      · exact .inr h1
  · rcases k.v_ i hi with h1 | h1
    · exact h.v_ i h1
    · right; have := h.t.size; omega
  · rcases k.m_ i hi with h1 | h1
    · exact h.m_ i h1
    · right; have := h.t.size; omega
theorem SOut.sub {T : List Nat} (t : Turned T w w1) (hT : ∀ i, i ∈ T → i ∈ OwnS I v m) : SOut I v m v m w w1 := ⟨t.mono hT, fun _ h => .inl h, fun _ h => .inl h⟩
theorem SOut.quiet (t : Turned [] w w1) : SOut I v m v m w w1 := SOut.sub t (by simp)
theorem SOut.acc (t : Turned [I.cp, I.cq] w w1) : SOut I v m v m w w1 := SOut.sub t (by unfold OwnS; simp)
theorem SOut.put {k b : Nat} (hk : I.ws[k]? = some b) (i : Nat) (u : Value) : SOut I v m v m w (w.setCell ⟨b, i, none⟩ u) := SOut.sub ((Turned.refl [b] w).setCell (p := ⟨b, i, none⟩) (.inl (by simp)) u) (by
  have := List.mem_of_getElem? hk
  unfold OwnS; simp [this])
theorem SOut.line (t : Turned (I.lb :: v.ownBlock.toList) w w1) (hv : ∀ i, v1.ownBlock = some i → v.ownBlock = some i ∨ w.heap.size ≤ i) : SOut I v m v1 m w w1 := ⟨t.mono (fun i hi => by
  unfold OwnS
  simp only [List.mem_cons, List.mem_append, Option.mem_toList] at hi ⊢
  rcases hi with hi | hi
  · exact .inr (.inl hi)
  · exact .inr (.inr (.inr (.inr (.inr (.inl (.inr hi))))))), hv, fun _ h => .inl h⟩
theorem SOut.setz (j : Nat) (u : Value) : SOut I v m v m w (w.setCell ⟨I.zq, j, none⟩ u) := SOut.sub ((Turned.refl [I.zq] w).setCell (p := ⟨I.zq, j, none⟩) (.inl (by simp)) u) (by unfold OwnS; simp)
theorem SOut.sets (j : Nat) (u : Value) : SOut I v m v m w (w.setCell ⟨I.sb, j, none⟩ u) := SOut.sub ((Turned.refl [I.sb] w).setCell (p := ⟨I.sb, j, none⟩) (.inl (by simp)) u) (by unfold OwnS; simp)
theorem SOut.moved (t : Turned m.ownBlock.toList w w1) (hm : ∀ i, m1.ownBlock = some i → m.ownBlock = some i ∨ w.heap.size ≤ i) : SOut I v m v m1 w (w1.setCell ⟨I.sb, 15, none⟩ m1) := ⟨(t.mono (fun i hi => by
  unfold OwnS
  simp only [List.mem_cons, List.mem_append, Option.mem_toList] at hi ⊢
  exact .inr (.inr (.inr (.inr (.inr (.inr hi)))))) ).setCell (p := ⟨I.sb, 15, none⟩) (.inl (by unfold OwnS; simp)) m1, fun _ h => .inl h, hm⟩
end
end Go.Proofs.YtbmlggemheljkaaGreatDoor

/-
  Small calls of a slider: Done, hasGoal, lineUp, least, liveFrom.
-/
namespace Go.Proofs.YtbmlggemheljkaaGreatDoor
open Go.RowKit Bt
set_option linter.unusedVariables false
set_option linter.unusedSimpArgs false

section
variable {wb w w' : World} {I : SlI} {P : PN} {S : Nat → Nat} {s : SlS} {v m : Value}
theorem Sl.cs (h : Sl wb w I P S s v m) : w.cell? ⟨I.sb, 0, none⟩ = some (.pointer (some ⟨I.cp, 0, none⟩)) ∧ w.cell? ⟨I.sb, 1, none⟩ = some (.pointer (some ⟨I.bp, 0, none⟩)) ∧ w.cell? ⟨I.sb, 11, none⟩ = some (.slice (some ⟨I.wr, 0, none⟩) I.ws.length I.ws.length) ∧ w.cell? ⟨I.sb, 12, none⟩ = some (.int .i64 (s.left : Int)) ∧ w.cell? ⟨I.sb, 13, none⟩ = some (.slice (some ⟨I.zq, 0, none⟩) P.R I.zc) ∧ w.cell? ⟨I.sb, 14, none⟩ = some (.iface 73 (.pointer (some ⟨I.lb, 0, none⟩))) ∧ w.cell? ⟨I.sb, 15, none⟩ = some m := by
  refine ⟨?_, ?_, ?_, ?_, ?_, ?_, ?_⟩ <;> (rw [cell_of_heap h.head]; rfl)
theorem Sl.ps (h : Sl wb w I P S s v m) : w.cell? ⟨I.sb, 2, none⟩ = some (.int .i64 (P.f : Int)) ∧ w.cell? ⟨I.sb, 3, none⟩ = some (.int .i64 (P.t : Int)) ∧ w.cell? ⟨I.sb, 4, none⟩ = some (.int .i64 (P.k : Int)) ∧ w.cell? ⟨I.sb, 5, none⟩ = some (.int .i64 (P.d : Int)) ∧ w.cell? ⟨I.sb, 6, none⟩ = some (.int .i64 (P.e : Int)) ∧ w.cell? ⟨I.sb, 7, none⟩ = some (.slice (some ⟨I.lq, 0, none⟩) P.R P.R) ∧ w.cell? ⟨I.sb, 8, none⟩ = some (.slice (some ⟨I.aq, 0, none⟩) P.R P.R) ∧ w.cell? ⟨I.sb, 9, none⟩ = some (.slice (some ⟨I.wq, 0, none⟩) P.R P.R) ∧ w.cell? ⟨I.sb, 10, none⟩ = some (.slice (some ⟨I.tq, 0, none⟩) P.R P.R) := by
  refine ⟨?_, ?_, ?_, ?_, ?_, ?_, ?_, ?_, ?_⟩ <;> (rw [cell_of_heap h.head]; rfl)
theorem Sl.sfz (h : Sl wb w I P S s v m) (i : Nat) : w.frozen? ⟨I.sb, i, none⟩ = false := by simp [World.frozen?, h.head]
end

theorem sdone_any (wb w : World) (I : SlI) (P : PN) (S : Nat → Nat) (s : SlS) (v m : Value) (h : Sl wb w I P S s v m) :
    Calls Tryz.prog 13 #[.pointer (some ⟨I.sb, 0, none⟩)] w fun e w' => e = .returned (.bool (decide (s.left = 0))) ∧ w' = w := by
  obtain ⟨-, -, -, c12, -⟩ := h.cs
  have hd : decide ((s.left : Int) = 0) = decide (s.left = 0) := by apply decide_eq_decide.2; omega
  have hd2 : ((s.left : Int) == 0) = decide (s.left = 0) := by by_cases h : s.left = 0 <;> simp [h]
  clear h
  go_enter Tryz.func13, Tryz.ntmps13
  go_wp2_with fail
  go_ret
  exact ⟨by first | rw [hd] | (simp; done) | (simp; exact hd2), rfl⟩
theorem sdone_nil (w : World) :
    Calls Tryz.prog 13 #[.pointer none] w fun e w' => e = .returned (.bool true) ∧ w' = w := by
  go_enter Tryz.func13, Tryz.ntmps13
  go_wp2_with fail
  go_ret
  exact ⟨rfl, rfl⟩

set_option maxRecDepth 100000 in
theorem hasgoal_any (wb w : World) (I : SlI) (P : PN) (S : Nat → Nat) (s : SlS) (v m : Value) (r : Nat) (h : Sl wb w I P S s v m) (hr : r < P.R) :
    Calls Tryz.prog 38 #[.pointer (some ⟨I.sb, 0, none⟩), .int .i64 (r : Int)] w fun e w' => e = .returned (.bool (decide (gF P r < gT P r))) ∧ Turned [] w w' := by
  have HG := hide (goal_in P h.c.fit.ok (slc I.lq P.R) (slc I.aq P.R) (slc I.wq P.R) (slc I.tq P.R) r hr w)
  obtain ⟨c2, c3, c4, c5, c6, c7, c8, c9, c10⟩ := h.ps
  unfold plC slc at HG
  have hd : decide (((gF P r : Nat) : Int) < ((gT P r : Nat) : Int)) = decide (gF P r < gT P r) := by apply decide_eq_decide.2; omega
  clear h
  generalize gF P r = A at *
  generalize gT P r = C at *
  go_enter Tryz.func38, Tryz.ntmps38
  go_wp2_with fail
  refine (HG.out).mono ?_
  rintro e1 w1 ⟨rfl, t1⟩
  have HT := hide t1
  clear t1 HG c2 c3 c4 c5 c6 c7 c8 c9 c10
  go_wp2_with fail
  go_ret
  exact ⟨by first | rw [hd] | simp, HT.out⟩

/-- A region stands in line, if it is ready. -/
def lineS (P : PN) (s : SlS) (r : Nat) : SlS := if s.wt r = 0 ∧ gF P r < gT P r then { s with H := pushL s.H r } else s
set_option maxRecDepth 100000 in
theorem lineup_any (wb w : World) (I : SlI) (P : PN) (S : Nat → Nat) (s : SlS) (v m : Value) (r : Nat) (h : Sl wb w I P S s v m) (hr : r < P.R) (hH : s.H.length < 65536) :
    Calls Tryz.prog 39 #[.pointer (some ⟨I.sb, 0, none⟩), .int .i64 (r : Int)] w fun e w' => e = .returned (.tuple #[]) ∧ ∃ v', Sl wb w' I P S (lineS P s r) v' m ∧ SOut I v m v' m w w' := by
  have HL := hide h
  have HG := hide (hasgoal_any wb w I P S s v m r h hr)
  obtain ⟨-, -, -, -, c13, c14, -⟩ := h.cs
  have cz := h.zw.cell hr
  have hri : (r : Int) < (P.R : Int) := by omega
  obtain ⟨z, hz⟩ : ∃ z, z = s.wt r := ⟨_, rfl⟩
  rw [← hz] at cz
  obtain ⟨dg, hdg⟩ : ∃ dg, dg = decide (gF P r < gT P r) := ⟨_, rfl⟩
  rw [← hdg] at HG
  have HE : Hid (lineS P s r = if z = 0 ∧ dg = true then { s with H := pushL s.H r } else s) := hide (by
    unfold lineS
    rw [← hz, hdg]
    by_cases h1 : s.wt r = 0 <;> by_cases h2 : gF P r < gT P r <;> simp [h1, h2])
  rw [HE.out]
  clear h hz hdg HE
  generalize P.R = R at *
  by_cases h0 : z = 0
  · subst h0
    cases dg
    · rw [if_neg (by simp)]
      go_enter Tryz.func39, Tryz.ntmps39
      go_wp2_with fail
      refine (HG.out).mono ?_
      rintro e1 w1 ⟨rfl, t1⟩
      have HL1 := hide (HL.out.quiet t1)
      have HS1 : Hid (SOut I v m v m w w1) := hide (SOut.quiet t1)
      clear t1 HG HL
      go_wp2_with fail
      first | refine bodyPost_end (results_none rfl _ _ _) rfl ?_ | refine bodyPost_ret (results_none rfl _ _ _) rfl ?_
      exact ⟨rfl, v, HL1.out, HS1.out⟩
    · rw [if_pos ⟨rfl, rfl⟩]
      go_enter Tryz.func39, Tryz.ntmps39
      go_wp2_with fail
      refine (HG.out).mono ?_
      rintro e1 w1 ⟨rfl, t1⟩
      have HL1 := hide (HL.out.quiet t1)
      have HS1 : Hid (SOut I v m v m w w1) := hide (SOut.quiet t1)
      clear t1 HG HL c13 c14 cz
      obtain ⟨-, -, -, -, -, c14, -⟩ := HL1.out.cs
      have HPu := hide (hpush_any I.lb I.B r v s.H w1 HL1.out.ln hH)
      unfold lnI at HPu
      go_wp2_with fail
      refine (HPu.out).mono ?_
      rintro e1 w2 ⟨rfl, q, cap, l2, t2, d2⟩
      have HL2 := hide (HL1.out.line (l2.ln (Nat.le_trans HL1.out.ln.base t2.size)) t2)
      have HS2 := hide (HS1.out.trans (SOut.line (v1 := .slice (some ⟨q, 0, none⟩) (pushL s.H r).length cap) t2 (fun i hi => by
        have : q = i := by simpa [Value.ownBlock] using hi
        subst this; exact d2)))
      clear l2 t2 d2 HPu HL1 c14
      go_wp2_with fail
      first | refine bodyPost_end (results_none rfl _ _ _) rfl ?_ | refine bodyPost_ret (results_none rfl _ _ _) rfl ?_
      exact ⟨rfl, _, HL2.out, HS2.out⟩
  · have h0i : ¬ (z : Int) = 0 := by omega
    rw [if_neg (by simp [h0])]
    clear h0
    go_enter Tryz.func39, Tryz.ntmps39
    go_wp2_with fail
    first | refine bodyPost_end (results_none rfl _ _ _) rfl ?_ | refine bodyPost_ret (results_none rfl _ _ _) rfl ?_
    exact ⟨rfl, v, HL.out, SOut.quiet (Turned.refl _ _)⟩

/-- What least tells, and the line behind it. -/
def leastV (H : List Nat) : Nat := if H.length = 0 then 0 else gt0 (popL H) (H.length - 1)
def leastH (H : List Nat) : List Nat := if H.length = 0 then H else (popL H).take (H.length - 1)
set_option maxRecDepth 100000 in
theorem least_any (wb w : World) (I : SlI) (P : PN) (S : Nat → Nat) (s : SlS) (v m : Value) (h : Sl wb w I P S s v m) :
    Calls Tryz.prog 87 #[.pointer (some ⟨I.sb, 0, none⟩)] w fun e w' => e = .returned (.tuple #[.int .i64 (leastV s.H : Nat), .bool (decide (s.H.length ≠ 0))]) ∧ ∃ v', Sl wb w' I P S { s with H := leastH s.H } v' m ∧ SOut I v m v' m w w' := by
  have HL := hide h
  obtain ⟨-, -, -, -, -, c14, -⟩ := h.cs
  obtain ⟨ao, cap, hv⟩ := h.ln.opens
  have hm := method_len I.lb s.H.length cap ao w (by rw [cell_of_heap h.ln.head, hv]; rfl)
  have HIL := hide (ilen_any ao s.H.length cap w)
  have hta : ∀ (x : Nat) (w : World), (Instr.typeAssert (.iface 3 (.int .i64 (x : Int))) 20 3 true).run Tryz.prog w = .ok (.tuple #[.int .i64 (x : Int), .bool true]) w := fun x w => by kernel_rfl
  have hfew := h.ln.few
  by_cases h0 : s.H.length = 0
  · have he : { s with H := leastH s.H } = s := by unfold leastH; rw [if_pos h0]
    unfold leastV
    rw [if_pos h0, he]
    rw [h0] at HIL hm ⊢
    clear h hv he h0 hfew
    go_enter Tryz.func87, Tryz.ntmps87
    go_wp2_with fail
    refine (HIL.out).mono ?_
    rintro e1 w1 ⟨rfl, hw1⟩
    subst hw1
    clear HIL
    go_wp2_with fail
    go_ret2
    exact ⟨rfl, v, HL.out, SOut.quiet (Turned.refl _ _)⟩
  · obtain ⟨q, cap2, hv2, hq⟩ := h.ln.lq (by omega)
    rw [hv] at hv2
    cases hv2
    obtain ⟨n, hn⟩ : ∃ n, s.H.length = n + 1 := ⟨s.H.length - 1, by omega⟩
    have HPp := hide (hpop_any I.lb q cap I.B n s.H w hq hn)
    unfold leastV leastH
    unfold lnI at HPp
    rw [if_neg h0, if_neg h0, show s.H.length - 1 = n by omega, decide_eq_true h0]
    rw [hn] at HIL hm hfew
    have h0i : ¬ ((n + 1 : Nat) : Int) = 0 := by omega
    have HV := hide hv
    obtain ⟨z, hz⟩ : ∃ z, z = gt0 (popL s.H) n := ⟨_, rfl⟩
    rw [← hz] at HPp ⊢
    clear h hq h0 hn hz hv
    go_enter Tryz.func87, Tryz.ntmps87
    go_wp2_with fail
    refine (HIL.out).mono ?_
    rintro e1 w1 ⟨rfl, hw1⟩
    subst hw1
    clear HIL
    go_wp2_with fail
    refine (HPp.out).mono ?_
    rintro e1 w2 ⟨rfl, l2, t2⟩
    have HL2 := hide (HL.out.line (l2.ln (Nat.le_trans HL.out.ln.base t2.size)) (t2.mono (by rw [HV.out]; simp [Value.ownBlock])))
    have HS2 : Hid (SOut I v m (.slice (some ⟨q, 0, none⟩) ((popL s.H).take n).length cap) m w1 w2) := hide (SOut.line (t2.mono (by rw [HV.out]; simp [Value.ownBlock])) (fun i hi => .inl (by rw [HV.out]; exact hi)))
    clear l2 t2 HPp HL
    go_wp2_with fail
    go_ret2
    exact ⟨rfl, _, HL2.out, HS2.out⟩
end Go.Proofs.YtbmlggemheljkaaGreatDoor

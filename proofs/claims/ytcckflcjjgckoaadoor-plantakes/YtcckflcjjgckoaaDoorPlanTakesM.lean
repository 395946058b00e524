/-
  PlanTakes: what lies in memory while regions are filled: what is left of each, which are filled; the plan's calls by what is taken.
-/
import Derived.Test.YtcckflcjjgckoaaDoorPlanTakesP
namespace Go.Proofs.YtcckflcjjgckoaaDoor
open Go.RowKit Bt
set_option linter.unusedVariables false
set_option linter.unusedSimpArgs false

/-- A row of n bools in a block of its own. -/
def Rb (w : World) (q n : Nat) (g : Nat → Bool) : Prop := ∃ c : Array Value, w.heap[q]? = some (.cells c 4) ∧ ∀ i, i < n → c[i]? = some (.bool (g i))
section
variable {w w' : World} {q n : Nat} {g : Nat → Bool}
theorem Rb.lt (h : Rb w q n g) : q < w.heap.size := by obtain ⟨c, h1, _⟩ := h; exact lt_of_heap h1
theorem Rb.turned (h : Rb w q n g) {S : List Nat} (t : Turned S w w') (hq : q ∉ S) : Rb w' q n g := by
  obtain ⟨c, h1, h2⟩ := h
  exact ⟨c, by rw [t.block q (lt_of_heap h1) hq]; exact h1, h2⟩
theorem Rb.turned0 (h : Rb w q n g) (t : Turned [] w w') : Rb w' q n g := h.turned t (by simp)
theorem Rb.cell (h : Rb w q n g) {i : Nat} (hi : i < n) : w.cell? ⟨q, i, none⟩ = some (.bool (g i)) := by
  obtain ⟨c, h1, h2⟩ := h
  rw [cell_of_heap h1, h2 i hi]
theorem Rb.fz (h : Rb w q n g) (i : Nat) : w.frozen? ⟨q, i, none⟩ = false := by
  obtain ⟨c, h1, _⟩ := h
  simp [World.frozen?, h1]
theorem Rb.congr {g' : Nat → Bool} (h : Rb w q n g) (e : ∀ i, i < n → g i = g' i) : Rb w q n g' := by
  obtain ⟨c, h1, h2⟩ := h
  exact ⟨c, h1, fun i hi => by rw [h2 i hi, e i hi]⟩
theorem Rb.set (h : Rb w q n g) (i : Nat) (v : Bool) : Rb (w.setCell ⟨q, i, none⟩ (.bool v)) q n (fun j => if j = i then v else g j) := by
  obtain ⟨c, h1, h2⟩ := h
  refine ⟨_, heap_setCell_at _ _ _ _ _ _ h1 _, fun j hj => ?_⟩
  rw [Array.getElem?_setIfInBounds]
  by_cases hji : i = j
  · subst hji
    have h3 := h2 i hj
    have h4 : i < c.size := by
      rcases Array.getElem?_eq_some_iff.1 h3 with ⟨h5, _⟩
      exact h5
    rw [if_pos rfl, if_pos h4]
    simp
  · rw [if_neg hji, h2 j hj]
    show _ = some (Value.bool (if j = i then v else g j))
    rw [if_neg (fun e : j = i => hji e.symm)]
end
theorem made_bool (n i : Nat) (hi : i < n) : (madeCells #[Value.bool false] n)[i]? = some (.bool false) := by
  unfold madeCells
  rw [Array.getElem?_map, Array.getElem?_range, if_pos hi]
  simp [Nat.mod_one]
theorem Tryd.infoBool : (Tryd.prog.info? 4).map (fun i => (i.zero, i.size, i.bytes)) = some (some (.bool false), 1, 1) := by kernel_rfl
theorem make_bools (n : Nat) (hn : n ≤ 65536) : ∀ w : World, (Instr.makeSlice 38 (.int .i64 (n : Int)) (.int .i64 (n : Int))).run Tryd.prog w = .ok (.slice (some ⟨w.heap.size, 0, none⟩) n n) (w.alloc (.cells (madeCells #[Value.bool false] n) 4)) := fun w => by
  obtain ⟨i0, hi, hi0⟩ := Option.map_eq_some_iff.1 Tryd.infoBool
  simp only [Prod.mk.injEq] at hi0
  obtain ⟨hz0, hz1, hz2⟩ := hi0
  have hr := run_make (P := Tryd.prog) w 38 4 i0 (.bool false) Tryd.underlying38 hi hz0 .i64 .i64 n n (by omega) (by omega) (by rw [hz2]; omega) (by omega)
  simp only [hz1, Int.toNat_natCast, Nat.mul_one] at hr
  exact hr
theorem make_ints (n : Nat) (hn : n ≤ 65536) : ∀ w : World, (Instr.makeSlice 28 (.int .i64 (n : Int)) (.int .i64 (n : Int))).run Tryd.prog w = .ok (.slice (some ⟨w.heap.size, 0, none⟩) n n) (w.alloc (.cells (madeCells #[Value.int .i64 0] n) 3)) := fun w => by
  obtain ⟨i0, hi, hi0⟩ := Option.map_eq_some_iff.1 Tryd.infoInt
  simp only [Prod.mk.injEq] at hi0
  obtain ⟨hz0, hz1, hz2⟩ := hi0
  have hr := run_make (P := Tryd.prog) w 28 3 i0 (.int .i64 0) Tryd.underlying28 hi hz0 .i64 .i64 n n (by omega) (by omega) (by rw [hz2]; omega) (by omega)
  simp only [hz1, Int.toNat_natCast, Nat.mul_one] at hr
  exact hr
theorem new_ints (w : World) (n : Nat) : Ri (w.alloc (.cells (madeCells #[Value.int .i64 0] n) 3)) 3 w.heap.size n (fun _ => 0) := ⟨_, heap_alloc_new _ _, fun i hi => made_int n i hi⟩
theorem new_bools (w : World) (n : Nat) : Rb (w.alloc (.cells (madeCells #[Value.bool false] n) 4)) w.heap.size n (fun _ => false) := ⟨_, heap_alloc_new _ _, fun i hi => made_bool n i hi⟩

/-- What lies in memory: the bits, the plan in its variable and its lists, what is left, what is filled. -/
structure TkS (w wr : World) (p q pb lq aq wq tq lb fb R : Nat) (S : Nat → Nat) (P : PN) (g : Nat → Int) (Fl : Nat → Bool) : Prop where
  b : Bts wr p q 150 (sidesOf S)
  v : Pb wr pb P (.slice (some ⟨lq, 0, none⟩) R R) (.slice (some ⟨aq, 0, none⟩) R R) (.slice (some ⟨wq, 0, none⟩) R R) (.slice (some ⟨tq, 0, none⟩) R R)
  l : Pln wr P S lq aq wq tq
  lf : Ri wr 3 lb R g
  fl : Rb wr fb R Fl
  t : Turned [] w wr
  lo : p < lb ∧ q < lb ∧ pb < lb ∧ lq < lb ∧ aq < lb ∧ wq < lb ∧ tq < lb ∧ lb < fb
  new : w.heap.size ≤ lb
section
variable {w wr wn : World} {p q pb lq aq wq tq lb fb R : Nat} {S : Nat → Nat} {P : PN} {g : Nat → Int} {Fl : Nat → Bool}
theorem TkS.turned0 (h : TkS w wr p q pb lq aq wq tq lb fb R S P g Fl) (t : Turned [] wr wn) : TkS w wn p q pb lq aq wq tq lb fb R S P g Fl :=
  ⟨h.b.turned0 t, h.v.turned0 t, h.l.turned0 t, h.lf.turned0 t, h.fl.turned0 t, h.t.trans t, h.lo, h.new⟩
theorem TkS.drewN (h : TkS w wr p q pb lq aq wq tq lb fb R S P g Fl) (m : Nat) : TkS w (wr.drewN m) p q pb lq aq wq tq lb fb R S P g Fl := h.turned0 ((Turned.refl [] wr).drewN m)
theorem Pln.turned (h : Pln wr P S lq aq wq tq) {T : List Nat} (t : Turned T wr wn) (h1 : lq ∉ T) (h2 : aq ∉ T) (h3 : wq ∉ T) (h4 : tq ∉ T) : Pln wn P S lq aq wq tq := ⟨h.lv.turned t h1, Ri.turned h.ah t h2, h.wt.turned t h3, h.tk.turned t h4⟩
/-- One block that is none of these is turned. -/
theorem TkS.other (h : TkS w wr p q pb lq aq wq tq lb fb R S P g Fl) {T : List Nat} (t : Turned T wr wn) (hT : ∀ k, k ∈ T → fb < k) : TkS w wn p q pb lq aq wq tq lb fb R S P g Fl := by
  obtain ⟨a1, a2, a3, a4, a5, a6, a7, a8⟩ := h.lo
  have hn := h.new
  have no : ∀ k, k ≤ fb → k ∉ T := fun k hk hm => by have := hT k hm; omega
  exact ⟨h.b.turned t (no _ (by omega)) (no _ (by omega)) (no _ (by omega)), h.v.turned t (no _ (by omega)), h.l.turned t (no _ (by omega)) (no _ (by omega)) (no _ (by omega)) (no _ (by omega)), h.lf.turned t (no _ (by omega)), h.fl.turned t (no _ (by omega)), h.t.trans_new t (fun i hi => .inr (by have := hT i hi; omega)), h.lo, h.new⟩
theorem TkS.setL (h : TkS w wr p q pb lq aq wq tq lb fb R S P g Fl) (i : Nat) (x : Int) : TkS w (wr.setCell ⟨lb, i, none⟩ (.int .i64 x)) p q pb lq aq wq tq lb fb R S P (fun j => if j = i then x else g j) Fl := by
  obtain ⟨a1, a2, a3, a4, a5, a6, a7, a8⟩ := h.lo
  have hb := h.b
  have t : Turned [lb] wr (wr.setCell ⟨lb, i, none⟩ (.int .i64 x)) := (Turned.refl [lb] wr).setCell (p := ⟨lb, i, none⟩) (.inl (by simp)) _
  have hl := h.lf.lt
  exact ⟨h.b.turned t (by simp; omega) (by simp; omega) (by simp; omega), h.v.turned t (by simp; omega), h.l.turned t (by simp; omega) (by simp; omega) (by simp; omega) (by simp; omega), h.lf.set i x, h.fl.turned t (by simp; omega), h.t.setCell (p := ⟨lb, i, none⟩) (.inr h.new) _, h.lo, h.new⟩
theorem TkS.setF (h : TkS w wr p q pb lq aq wq tq lb fb R S P g Fl) (i : Nat) : TkS w (wr.setCell ⟨fb, i, none⟩ (.bool true)) p q pb lq aq wq tq lb fb R S P g (fill Fl i) := by
  obtain ⟨a1, a2, a3, a4, a5, a6, a7, a8⟩ := h.lo
  have hn := h.new
  have t : Turned [fb] wr (wr.setCell ⟨fb, i, none⟩ (.bool true)) := (Turned.refl [fb] wr).setCell (p := ⟨fb, i, none⟩) (.inl (by simp)) _
  exact ⟨h.b.turned t (by simp; omega) (by simp; omega) (by simp; omega), h.v.turned t (by simp; omega), h.l.turned t (by simp; omega) (by simp; omega) (by simp; omega) (by simp; omega), h.lf.turned t (by simp; omega), h.fl.set i true, h.t.setCell (p := ⟨fb, i, none⟩) (.inr (show w.heap.size ≤ fb by omega)) _, h.lo, h.new⟩
theorem TkS.congrL {g' : Nat → Int} (h : TkS w wr p q pb lq aq wq tq lb fb R S P g Fl) (e : ∀ i, i < R → g i = g' i) : TkS w wr p q pb lq aq wq tq lb fb R S P g' Fl :=
  ⟨h.b, h.v, h.l, h.lf.congr e, h.fl, h.t, h.lo, h.new⟩
end

/-- As far as x, out of whom the region i has taken. -/
noncomputable def tkU (P : PN) (L : Nat → Bool) (i x q : Nat) : Bool := bo (∃ y, gF P i ≤ y ∧ y < x ∧ goesR P L q ≤ y ∧ y < goesR P L q + mvR P L q)
section
variable {P : PN} {L : Nat → Bool}
theorem tkU_start (i q : Nat) : tkU P L i (gF P i) q = false := by unfold tkU; rw [bo_false]; rintro ⟨y, h1, h2, _⟩; omega
theorem Fit.tkU_step (h : Fit P L) {i x r : Nat} (hr : r < P.R) (h0 : gF P i ≤ x) (h1 : goesR P L r ≤ x) (h2 : x < goesR P L r + mvR P L r) {q : Nat} (hq : q < P.R) : tkU P L i (x + 1) q = if q = r then true else tkU P L i x q := by
  by_cases hqr : q = r
  · subst hqr
    rw [if_pos rfl]
    unfold tkU
    rw [bo_true]
    exact ⟨x, h0, by omega, h1, h2⟩
  · rw [if_neg hqr]
    unfold tkU
    congr 1
    apply propext
    constructor
    · rintro ⟨y, a1, a2, a3, a4⟩
      by_cases hy : y = x
      · subst hy
        exact absurd (h.same hq hr a3 a4 h1 h2) hqr
      · exact ⟨y, a1, by omega, a3, a4⟩
    · rintro ⟨y, a1, a2, a3, a4⟩
      exact ⟨y, a1, by omega, a3, a4⟩
theorem Fit.tkU_end (h : Fit P L) {i q : Nat} (hi : i < P.R) (hq : q < P.R) (hg : gF P i < gT P i) : tkU P L i (gT P i) q = tkB P L i q := by
  by_cases ht : tkB P L i q = true
  · rw [ht]
    obtain ⟨x, a1, a2, a3, a4⟩ := h.word hi hq ht
    unfold tkU
    rw [bo_true]
    exact ⟨x, a1, a2, a3, a4⟩
  · rw [Bool.not_eq_true] at ht
    rw [ht]
    unfold tkU
    rw [bo_false]
    rintro ⟨y, a1, a2, a3, a4⟩
    have h8 := h.fd
    have h7 := h.et
    obtain ⟨g1, g2, g3, g4⟩ := h.goal (i := i) hg
    have hx : P.reg y = i := PN.reg_of h.ok hi (by omega) (by omega)
    have : tkB P L i q = true := by
      unfold tkB
      rw [decide_eq_true_eq]
      refine ⟨by omega, ?_, ?_⟩
      · rw [← hx]; exact PN.reg_mono P a3
      · rw [← hx]; exact PN.reg_mono P (by omega)
    rw [this] at ht
    cases ht
end

/-- Source of a word that a region takes. -/
theorem tk_source (p N : Nat) (P : PN) (S : Nat → Nat) (hF : Fit P (live S)) (l wt tk : Value) (aq c i x : Nat) (w : World) (hb : Brd w (some ⟨p, 0, none⟩) N (sidesOf S)) (hs : Bl N S) (ha : Ah w P S aq) (ht : P.t ≤ N) (hi : i < P.R) (h1 : gF P i ≤ x) (h2 : x < gT P i) :
    Calls Tryd.prog 12 #[.agg (plC P l (.slice (some ⟨aq, 0, none⟩) P.R c) wt tk), .pointer (some ⟨p, 0, none⟩), .int .i64 (x : Int)] w fun e w' => ∃ s : Nat, e = .returned (.int .i64 (s : Int)) ∧ ((P.f ≤ s ∧ s < P.t) ∧ P.reg s < P.R ∧ i ≤ P.reg s ∧ ∀ q, q < P.R → tkU P (live S) i (x + 1) q = if q = P.reg s then true else tkU P (live S) i x q) ∧ Turned [] w w' := by
  obtain ⟨g1, g2, g3, g4⟩ := hF.goal (i := i) (by omega)
  have h7 := hF.et
  have h8 := hF.fd
  refine (source_in (some ⟨p, 0, none⟩) N P hF.ok S l wt tk aq c x w hb hs ha (by omega) (by omega) ht hF.fd hF.dt).mono ?_
  rintro e w' ⟨r, rfl, hr, t⟩
  have he := hF.e_
  rcases hr with ⟨a1, _⟩ | ⟨a1, _⟩ | ⟨a1, s, a2, a3, a4, a5, rfl⟩ | ⟨_, a1, _⟩
  · omega
  · omega
  · obtain ⟨b1, b2, b3, b4⟩ := hF.src hi h1 h2 a2 a3 a4 a5
    exact ⟨s, rfl, ⟨⟨by omega, a3⟩, b1, hF.tk_le b1 b4, fun q hq => hF.tkU_step b1 h1 b2 b3 hq⟩, t⟩
  · omega
theorem tk_region (P : PN) (h : P.Ok) (l a wt tk : Value) (s : Nat) (hs : P.f ≤ s ∧ s < P.t) (w : World) :
    Calls Tryd.prog 14 #[.agg (plC P l a wt tk), .int .i64 (s : Int)] w fun e w' => e = .returned (.int .i64 (P.reg s : Nat)) ∧ Turned [] w w' := by
  have H := region_any P h l a wt tk s w
  rw [show rgI P (s : Int) = ((P.reg s : Nat) : Int) by unfold rgI; rw [if_pos (by omega)]; simp] at H
  exact H

/-- How many wait, as a number. -/
def wtC (P : PN) (L : Nat → Bool) (Fl : Nat → Bool) (q : Nat) : Nat := cnt (wtB P L Fl q) P.R
/-- On the way through the regions: how many are open, and who is ready. -/
structure Rdy (G1 G2 : Nat → Nat) (C : Nat → Nat) (Fl : Nat → Bool) (R i o : Nat) (L : List Nat) : Prop where
  o_ : o = cnt (fun j => decide (G1 j < G2 j) && !Fl j) i
  mem : ∀ x, x ∈ L → x < R ∧ G1 x < G2 x ∧ Fl x = false
  has : ∀ j, j < i → G1 j < G2 j → Fl j = false → C j = 0 → L ≠ []
  len : L.length ≤ i
section
variable {G1 G2 : Nat → Nat} {C : Nat → Nat} {Fl : Nat → Bool} {R i o : Nat} {L : List Nat}
theorem Rdy.start : Rdy G1 G2 C Fl R 0 0 [] := ⟨rfl, fun x h => (by cases h), fun j h => (by omega), Nat.le_refl _⟩
theorem Rdy.closed (h : Rdy G1 G2 C Fl R i o L) (hn : G1 i < G2 i → Fl i = true) : Rdy G1 G2 C Fl R (i + 1) o L := by
  refine ⟨?_, h.mem, fun j h1 h2 h3 h4 => ?_, by have := h.len; omega⟩
  · rw [cnt_off, ← h.o_]
    by_cases hg : G1 i < G2 i
    · rw [hn hg]; simp
    · rw [decide_eq_false hg]; rfl
  · by_cases hj : j = i
    · subst hj
      rw [hn h2] at h3
      cases h3
    · exact h.has j (by omega) h2 h3 h4
theorem Rdy.waits (h : Rdy G1 G2 C Fl R i o L) (hg : G1 i < G2 i) (hF : Fl i = false) (hC : ¬ C i = 0) : Rdy G1 G2 C Fl R (i + 1) (o + 1) L := by
  refine ⟨?_, h.mem, fun j h1 h2 h3 h4 => ?_, by have := h.len; omega⟩
  · rw [cnt_at, ← h.o_]
    rw [decide_eq_true hg, hF]; rfl
  · by_cases hj : j = i
    · subst hj; exact absurd h4 hC
    · exact h.has j (by omega) h2 h3 h4
theorem Rdy.adds (h : Rdy G1 G2 C Fl R i o L) (hg : G1 i < G2 i) (hF : Fl i = false) (hi : i < R) : Rdy G1 G2 C Fl R (i + 1) (o + 1) (L ++ [i]) := by
  refine ⟨?_, fun x hx => ?_, fun j h1 h2 h3 h4 => by simp, by have := h.len; simp; omega⟩
  · rw [cnt_at, ← h.o_]
    rw [decide_eq_true hg, hF]; rfl
  · rcases List.mem_append.1 hx with h1 | h1
    · exact h.mem x h1
    · simp at h1; subst h1; exact ⟨hi, hg, hF⟩
theorem Rdy.none (h : Rdy G1 G2 C Fl R R 0 L) : ∀ j, j < R → G1 j < G2 j → Fl j = true := by
  intro j hj hg
  have h1 := cnt_zero_iff.1 h.o_.symm j hj
  rw [decide_eq_true hg] at h1
  simpa using h1
theorem Rdy.some (h : Rdy G1 G2 C Fl R R o L) (ho : o ≠ 0) : ∃ j, j < R ∧ G1 j < G2 j ∧ Fl j = false := by
  have h1 : ¬ ∀ j, j < R → (decide (G1 j < G2 j) && !Fl j) = false := fun hh => ho (h.o_.trans (cnt_zero hh))
  obtain ⟨j, hj⟩ := Classical.not_forall.1 h1
  obtain ⟨hj1, hj2⟩ := Classical.not_imp.1 hj
  rw [Bool.not_eq_false, Bool.and_eq_true, decide_eq_true_eq] at hj2
  exact ⟨j, hj1, hj2.1, by simpa using hj2.2⟩
end
def iv (L : List Nat) : List Value := L.map (fun (x : Nat) => Value.int .i64 (x : Int))
theorem iv_snoc (L : List Nat) (x : Nat) : iv (L ++ [x]) = iv L ++ [.int .i64 (x : Int)] := by simp [iv]
theorem iv_get {L : List Nat} {k t : Nat} (h : L[k]? = some t) : (iv L)[k]? = some (.int .i64 (t : Int)) := by simp [iv, h]

/-- A slice of numbers that can be read. -/
structure IRd (w : World) (ao : Option Addr) (len : Nat) (l : List Int) : Prop where
  size : l.length = len
  cell : ∀ i x, l[i]? = some x → ∃ g off, ao = some ⟨g, off, none⟩ ∧ w.cell? ⟨g, off + i, none⟩ = some (.int .i64 x)
theorem IRd.turned0 {w w' : World} {ao : Option Addr} {len : Nat} {l : List Int} (h : IRd w ao len l) (ht : Turned [] w w') : IRd w' ao len l :=
  ⟨h.size, fun i x hx => by
    obtain ⟨g, off, h1, h2⟩ := h.cell i x hx
    exact ⟨g, off, h1, by rw [ht.cell (block_lt h2) (by simp)]; exact h2⟩⟩
theorem isRow_ird {w : World} {a : Option Addr} {len cap : Nat} {zs : List Int} (h : IsRow .i64 w a len cap zs) : IRd w a len (zs.take len) ∧ len ≤ 9223372036854775807 ∧ ∀ y, y ∈ zs.take len → -9223372036854775808 ≤ y ∧ y ≤ 9223372036854775807 := by
  rcases h with ⟨rfl, rfl, rfl, rfl⟩ | ⟨x, rfl, hl, hm, hz, hc, hwf⟩
  · exact ⟨⟨rfl, fun i x hx => by simp at hx⟩, by omega, by simp⟩
  · refine ⟨⟨by simp; omega, fun i y hy => ?_⟩, by unfold maxLen at hm; omega, fun y hy => wf_range (hwf y (List.mem_of_mem_take hy))⟩
    have hi := (List.getElem?_eq_some_iff.1 hy).1
    simp at hi
    have h1 := hc i (by omega)
    have hsp : x.spot = none := by
      have := World.cell?_spot (hc 0 (by omega))
      simpa [Addr.add] using this
    obtain ⟨b, off, spot⟩ := x
    simp at hsp
    subst hsp
    refine ⟨b, off, rfl, ?_⟩
    rw [show Addr.add ⟨b, off, none⟩ i = ⟨b, off + i, none⟩ by simp [Addr.add]] at h1
    rw [List.getElem?_take] at hy
    split at hy
    · rw [List.getD_eq_getElem?_getD, hy] at h1
      exact h1
    · cases hy
end Go.Proofs.YtcckflcjjgckoaaDoor

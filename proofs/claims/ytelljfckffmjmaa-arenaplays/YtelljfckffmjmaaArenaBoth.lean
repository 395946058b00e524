/-
  Threads' asks of the program ('PA') and of the document ('PR') side by side.
-/
import Derived.Test.YtelljfckffmjmaaArenaRefB
import Derived.Test.YtelljfckffmjmaaArenaRefS
import Derived.Test.YtelljfckffmjmaaArenaRefF
namespace Go.Proofs.Ytelljfckffmjmaa
open Go.RowKit
set_option linter.unusedVariables false

def pv (x : Option Nat) : Value := .pointer (x.map fun b => ⟨b, 0, none⟩)
def updx {α : Type} (xs : Nat → α) (i : Nat) (x : α) : Nat → α := fun k => if k = i then x else xs k

/-- An array variable of three pointers. -/
def Ar3 (w : World) (g : Nat) (T : TypeId) (xs : Nat → Option Nat) : Prop := w.heap[g]? = some (.cells #[pv (xs 0), pv (xs 1), pv (xs 2)] T)
section
variable {w w' : World} {g : Nat} {T : TypeId} {xs : Nat → Option Nat}
theorem Ar3.at (h : Ar3 w g T xs) (i : Nat) (hi : i < 3) : w.cell? ⟨g, i, none⟩ = some (pv (xs i)) := by
  rw [cell_of_heap h]
  match i, hi with
  | 0, _ => rfl
  | 1, _ => rfl
  | 2, _ => rfl
theorem Ar3.fz (h : Ar3 w g T xs) (i : Nat) : w.frozen? ⟨g, i, none⟩ = false := by
  unfold Ar3 at h
  simp [World.frozen?, h]
theorem Ar3.turned (h : Ar3 w g T xs) {S : List Nat} (t : Turned S w w') (hg : g ∉ S) : Ar3 w' g T xs := by
  unfold Ar3
  rw [t.block g (lt_of_heap h) hg]
  exact h
theorem Ar3.set (h : Ar3 w g T xs) (i : Nat) (hi : i < 3) (x : Option Nat) : Ar3 (w.setCell ⟨g, i, none⟩ (pv x)) g T (updx xs i x) := by
  unfold Ar3
  rw [heap_setCell_at _ _ _ _ _ _ h]
  match i, hi with
  | 0, _ => rfl
  | 1, _ => rfl
  | 2, _ => rfl
end

def TB3 : TypeId := 45
def TR3 : TypeId := 47
def TX3 : TypeId := 40
def TY3 : TypeId := 42
theorem bt3 : BT TB3 := by unfold BT; decide
theorem br3 : BR TR3 := by unfold BR; decide

/-- The program's side: arena, buffers, the asks of three threads. -/
structure PA (L : Nat) (w : World) (a v p q B g : Nat) (A : AC) (l bl : List Int) (s : Int) (xs : Nat → Option Nat) (K : Nat → AkS) : Prop where
  ar : Arn w a v p q A l s
  bf : Bf w B TB3 bl
  ax : Ar3 w g TX3 xs
  ak : ∀ i b, i < 3 → xs i = some b → AkB w b a B (2 * i) (K i)
  nd : ∀ i j b, i < 3 → j < 3 → xs i = some b → xs j = some b → i = j
  lo : L ≤ p ∧ L ≤ q ∧ L ≤ B ∧ L ≤ g
  lb : ∀ i b, i < 3 → xs i = some b → L ≤ b
/-- The document's side. -/
structure PR (L : Nat) (w : World) (m p q D g : Nat) (A : AC) (l bl : List Int) (s : Int) (ys : Nat → Option Nat) (R : Nat → RkS) : Prop where
  ar : Rn w m p q A l s
  bf : Bf w D TR3 bl
  ax : Ar3 w g TY3 ys
  ak : ∀ i b, i < 3 → ys i = some b → RkB w b m D (2 * i) (R i)
  nd : ∀ i j b, i < 3 → j < 3 → ys i = some b → ys j = some b → i = j
  lo : L ≤ p ∧ L ≤ q ∧ L ≤ D ∧ L ≤ g
  lb : ∀ i b, i < 3 → ys i = some b → L ≤ b

section
variable {L : Nat} {w w' : World} {a v p q B g m p2 q2 D g2 : Nat} {A : AC} {l bl l2 bl2 : List Int} {s s2 : Int} {xs ys : Nat → Option Nat} {K : Nat → AkS} {R : Nat → RkS}
theorem PA.turned (h : PA L w a v p q B g A l bl s xs K) {S : List Nat} (t : Turned S w w') (ha : a ∉ S) (hv : v ∉ S) (hp : p ∉ S) (hq : q ∉ S) (hB : B ∉ S) (hg : g ∉ S) (hb : ∀ i b, i < 3 → xs i = some b → b ∉ S) : PA L w' a v p q B g A l bl s xs K :=
  ⟨h.ar.turned t ha hv hp hq, h.bf.turned t hB, h.ax.turned t hg, fun i b hi hx => (h.ak i b hi hx).turned t (hb i b hi hx), h.nd, h.lo, h.lb⟩
theorem PA.t0 (h : PA L w a v p q B g A l bl s xs K) (t : Turned [] w w') : PA L w' a v p q B g A l bl s xs K := h.turned t (by simp) (by simp) (by simp) (by simp) (by simp) (by simp) (by simp)
theorem PR.turned (h : PR L w m p q D g A l bl s ys R) {S : List Nat} (t : Turned S w w') (hm : m ∉ S) (hp : p ∉ S) (hq : q ∉ S) (hD : D ∉ S) (hg : g ∉ S) (hb : ∀ i b, i < 3 → ys i = some b → b ∉ S) : PR L w' m p q D g A l bl s ys R :=
  ⟨h.ar.turned t hm hp hq, h.bf.turned t hD, h.ax.turned t hg, fun i b hi hx => RkG.turned (h.ak i b hi hx) t (hb i b hi hx), h.nd, h.lo, h.lb⟩
theorem PR.t0 (h : PR L w m p q D g A l bl s ys R) (t : Turned [] w w') : PR L w' m p q D g A l bl s ys R := h.turned t (by simp) (by simp) (by simp) (by simp) (by simp) (by simp)

/-- A block of that type is none of the program's, or of the document's. -/
theorem PA.not {k : Nat} {c : Array Value} {e : TypeId} {fr : Nat × Nat} (h : PA L w a v p q B g A l bl s xs K) (hk : w.heap[k]? = some (.cells c e fr)) (h1 : e ≠ 97) (h2 : e ≠ 3) (h3 : e ≠ 94) (h5 : e ≠ TB3) (h6 : e ≠ TX3) (h7 : e ≠ 102) :
    k ≠ a ∧ k ≠ v ∧ k ≠ p ∧ k ≠ B ∧ k ≠ g ∧ ∀ i b, i < 3 → xs i = some b → k ≠ b :=
  ⟨ne_of_type hk h.ar.head h1, ne_of_type hk h.ar.var h2, ne_of_type hk h.ar.mem.head h3, ne_of_type hk h.bf h5, ne_of_type hk h.ax h6, fun i b hi hx => ne_of_type hk (h.ak i b hi hx) h7⟩
theorem PR.not {k : Nat} {c : Array Value} {e : TypeId} {fr : Nat × Nat} (h : PR L w m p q D g A l bl s ys R) (hk : w.heap[k]? = some (.cells c e fr)) (h1 : e ≠ 99) (h3 : e ≠ 62) (h5 : e ≠ TR3) (h6 : e ≠ TY3) (h7 : e ≠ 53) :
    k ≠ m ∧ k ≠ p ∧ k ≠ D ∧ k ≠ g ∧ ∀ i b, i < 3 → ys i = some b → k ≠ b :=
  ⟨ne_of_type hk h.ar.head h1, ne_of_type hk h.ar.mem.head h3, ne_of_type hk h.bf h5, ne_of_type hk h.ax h6, fun i b hi hx => ne_of_type hk (h.ak i b hi hx) h7⟩

/-- The program's side through a call of the document's. -/
theorem PA.keepR (h : PA L w a v p q B g A l bl s xs K) (r : PR L w m p2 q2 D g2 A l2 bl2 s2 ys R) (hq : q ≠ q2) {c : Nat} {cc : Array Value} (hc : RkG w c cc) (t : Turned [p2, q2, D, c] w w') : PA L w' a v p q B g A l bl s xs K := by
  have n1 := h.not r.ar.mem.head (by decide) (by decide) (by decide) (by decide) (by decide) (by decide)
  have n3 := h.not r.bf (by decide) (by decide) (by decide) (by decide) (by decide) (by decide)
  have n4 := h.not hc (by decide) (by decide) (by decide) (by decide) (by decide) (by decide)
  have n2 := h.not r.ar.mem.row (by decide) (by decide) (by decide) (by decide) (by decide) (by decide)
  refine h.turned t ?_ ?_ ?_ ?_ ?_ ?_ (fun i b hi hx => ?_)
  · simp; exact ⟨Ne.symm n1.1, Ne.symm n2.1, Ne.symm n3.1, Ne.symm n4.1⟩
  · simp; exact ⟨Ne.symm n1.2.1, Ne.symm n2.2.1, Ne.symm n3.2.1, Ne.symm n4.2.1⟩
  · simp; exact ⟨Ne.symm n1.2.2.1, Ne.symm n2.2.2.1, Ne.symm n3.2.2.1, Ne.symm n4.2.2.1⟩
  · simp; exact ⟨ne_of_type h.ar.mem.row r.ar.mem.head (by decide), hq, ne_of_type h.ar.mem.row r.bf (by decide), ne_of_type h.ar.mem.row hc (by decide)⟩
  · simp; exact ⟨Ne.symm n1.2.2.2.1, Ne.symm n2.2.2.2.1, Ne.symm n3.2.2.2.1, Ne.symm n4.2.2.2.1⟩
  · simp; exact ⟨Ne.symm n1.2.2.2.2.1, Ne.symm n2.2.2.2.2.1, Ne.symm n3.2.2.2.2.1, Ne.symm n4.2.2.2.2.1⟩
  · simp; exact ⟨Ne.symm (n1.2.2.2.2.2 i b hi hx), Ne.symm (n2.2.2.2.2.2 i b hi hx), Ne.symm (n3.2.2.2.2.2 i b hi hx), Ne.symm (n4.2.2.2.2.2 i b hi hx)⟩
/-- The document's side through a call of the program's. -/
theorem PR.keepA (r : PR L w m p2 q2 D g2 A l2 bl2 s2 ys R) (h : PA L w a v p q B g A l bl s xs K) (hq : q ≠ q2) {c : Nat} {cc : Array Value} (hc : AkG w c cc) (t : Turned [p, q, B, c] w w') : PR L w' m p2 q2 D g2 A l2 bl2 s2 ys R := by
  have n1 := r.not h.ar.mem.head (by decide) (by decide) (by decide) (by decide) (by decide)
  have n3 := r.not h.bf (by decide) (by decide) (by decide) (by decide) (by decide)
  have n4 := r.not hc (by decide) (by decide) (by decide) (by decide) (by decide)
  have n2 := r.not h.ar.mem.row (by decide) (by decide) (by decide) (by decide) (by decide)
  refine r.turned t ?_ ?_ ?_ ?_ ?_ (fun i b hi hx => ?_)
  · simp; exact ⟨Ne.symm n1.1, Ne.symm n2.1, Ne.symm n3.1, Ne.symm n4.1⟩
  · simp; exact ⟨Ne.symm n1.2.1, Ne.symm n2.2.1, Ne.symm n3.2.1, Ne.symm n4.2.1⟩
  · simp; exact ⟨ne_of_type r.ar.mem.row h.ar.mem.head (by decide), Ne.symm hq, ne_of_type r.ar.mem.row h.bf (by decide), ne_of_type r.ar.mem.row hc (by decide)⟩
  · simp; exact ⟨Ne.symm n1.2.2.1, Ne.symm n2.2.2.1, Ne.symm n3.2.2.1, Ne.symm n4.2.2.1⟩
  · simp; exact ⟨Ne.symm n1.2.2.2.1, Ne.symm n2.2.2.2.1, Ne.symm n3.2.2.2.1, Ne.symm n4.2.2.2.1⟩
  · simp; exact ⟨Ne.symm (n1.2.2.2.2 i b hi hx), Ne.symm (n2.2.2.2.2 i b hi hx), Ne.symm (n3.2.2.2.2 i b hi hx), Ne.symm (n4.2.2.2.2 i b hi hx)⟩

/-- A step of thread i's ask. -/
theorem PA.step (h : PA L w a v p q B g A l bl s xs K) {i b : Nat} (hi : i < 3) (hx : xs i = some b) {y : ASt} (hy : AX w w' a v p q B b TB3 A (2 * i) y) : PA L w' a v p q B g A y.l y.bl y.s xs (updx K i y.k) := by
  have hB := h.ak i b hi hx
  refine ⟨hy.ar, hy.bf, h.ax.turned hy.tu ?_, fun j c hj hc => ?_, h.nd, h.lo, h.lb⟩
  · simp
    exact ⟨ne_of_type h.ax h.ar.mem.head (by decide), ne_of_type h.ax h.ar.mem.row (by decide), ne_of_type h.ax h.bf (by decide), ne_of_type h.ax hB (by decide)⟩
  · unfold updx
    by_cases e : j = i
    · subst e
      rw [hx] at hc
      cases hc
      rw [if_pos rfl]
      exact hy.ak
    · rw [if_neg e]
      have hC := h.ak j c hj hc
      refine hC.turned hy.tu ?_
      simp
      exact ⟨ne_of_type hC h.ar.mem.head (by decide), ne_of_type hC h.ar.mem.row (by decide), ne_of_type hC h.bf (by decide), fun e2 => e (h.nd j i b hj hi (e2 ▸ hc) hx)⟩
theorem PR.step (h : PR L w m p q D g A l bl s ys R) {i b : Nat} (hi : i < 3) (hx : ys i = some b) {l' bl' : List Int} {s' : Int} {r' : RkS} (hy : Rs w w' m p q D b TR3 A l' bl' s' (rkCells m D (2 * i) r')) : PR L w' m p q D g A l' bl' s' ys (updx R i r') := by
  have hB := h.ak i b hi hx
  refine ⟨hy.ar, hy.bf, h.ax.turned hy.tu ?_, fun j c hj hc => ?_, h.nd, h.lo, h.lb⟩
  · simp
    exact ⟨ne_of_type h.ax h.ar.mem.head (by decide), ne_of_type h.ax h.ar.mem.row (by decide), ne_of_type h.ax h.bf (by decide), ne_of_type h.ax hB (by decide)⟩
  · unfold updx
    by_cases e : j = i
    · subst e
      rw [hx] at hc
      cases hc
      rw [if_pos rfl]
      exact hy.ak
    · rw [if_neg e]
      have hC := h.ak j c hj hc
      refine RkG.turned hC hy.tu ?_
      simp
      exact ⟨ne_of_type hC h.ar.mem.head (by decide), ne_of_type hC h.ar.mem.row (by decide), ne_of_type hC h.bf (by decide), fun e2 => e (h.nd j i b hj hi (e2 ▸ hc) hx)⟩
end

/-- A step of the document's ask, beside the program's pure step. -/
theorem rstep_any (w : World) (m p q D b o : Nat) (T : TypeId) (A : AC) (x : ASt) (r : RkS) (fit : FitA A o x) (rel : RelA A x.k r) (h : Rs w w m p q D b T A x.l x.bl x.s (rkCells m D o r)) :
    Calls Try.prog 19 #[.pointer (some ⟨b, 0, none⟩)] w fun e w' => e = .returned (.bool (stepA A o x).k.done) ∧ ∃ r', RelA A (stepA A o x).k r' ∧ Rs w w' m p q D b T A (stepA A o x).l (stepA A o x).bl (stepA A o x).s (rkCells m D o r') := by
  obtain ⟨l, bl, ⟨kat, kd, ks, kt, kw, kp, ke⟩, s⟩ := x
  obtain ⟨rs, rn, rl, rt, rw_, re, rp, rr⟩ := r
  have b0 := fit.b0
  have b1 := fit.b1
  have bo := fit.bo
  simp only at b0 b1 bo h
  have g0 : bl[o]? = some (bl.getD o 0) := getD_some (by omega)
  have g1 : bl[o + 1]? = some (bl.getD (o + 1) 0) := getD_some bo
  have e1 : re = kd := rel.ended
  subst e1
  cases re with
  | true =>
    refine (rstep_done w m D b o _ rfl h.ak).mono ?_
    rintro e w' ⟨rfl, rfl⟩
    rw [stepA_done o A rfl]
    exact ⟨rfl, _, rel, h⟩
  | false =>
    have e2 : rs = ks := rel.size rfl
    subst e2
    have e3 : rn = kat.code := rel.next rfl
    subst e3
    have read : ∀ (kat' : AStp) (e : Ending) (w' : World), (∃ r', e = .returned (.bool r'.ended) ∧ Rs w w' m p q D b T A l bl (wrap64 (s + 1)) (rkCells m D o r') ∧ (if aboveOf A (topOf A l) < rs then r'.ended = true ∧ r'.pos = 0 ∧ r'.err = 14 else r' = ⟨rs, 2, lg A rs, topOf A l, (if lg A rs then rs else min (A.buf : Int) (aboveOf A (topOf A l))), false, rp, rr⟩)) →
        e = .returned (.bool (readA A l ⟨kat', false, rs, kt, kw, kp, ke⟩).done) ∧ ∃ r', RelA A (readA A l ⟨kat', false, rs, kt, kw, kp, ke⟩) r' ∧ Rs w w' m p q D b T A l bl (wrap64 (s + 1)) (rkCells m D o r') := by
      rintro kat' e w' ⟨r', rfl, hr, hh⟩
      by_cases hz : aboveOf A (topOf A l) < rs
      · rw [if_pos hz] at hh
        rw [readA_full A l _ hz]
        exact ⟨by rw [hh.1], r', ⟨hh.1, fun _ => hh.2, fun h => (by cases h), fun h => (by cases h), fun h => (by cases h), fun h => (by cases h)⟩, hr⟩
      · rw [if_neg hz] at hh
        rw [readA_ok A l _ hz]
        subst hh
        exact ⟨rfl, _, ⟨rfl, fun h => (by cases h), fun _ => rfl, fun _ => rfl, fun _ _ => rfl, fun _ _ => ⟨rfl, rfl⟩⟩, hr⟩
    cases kat with
    | readTop =>
      have hs := fit.rd (by simp)
      have e4 : rl = lg A rs := rel.large rfl (by simp)
      subst e4
      refine (rstep_read w w m p q D b o T A l bl s rs rt rw_ rp rr hs h).mono fun e w' hh => ?_
      exact read .readTop e w' hh
    | swapTop =>
      have hs := fit.rd (by simp)
      have ht := fit.sw rfl
      have e4 : rl = lg A rs := rel.large rfl (by simp)
      have e5 := rel.sw rfl rfl
      simp only at e5 ht hs
      obtain ⟨rfl, rfl⟩ := e5
      subst e4
      by_cases hx : topOf A l = rt
      · refine (rstep_hit w w m p q D b o T A l bl s rs rt rw_ rp rr hs ht bo hx h).mono ?_
        rintro e w' ⟨rfl, h1⟩
        rw [stepA_hit A o l bl rs rt rw_ kp ke s hx]
        exact ⟨rfl, _, ⟨rfl, fun _ => ⟨rfl, rfl⟩, fun h => (by cases h), fun h => (by cases h), fun h => (by cases h), fun h => (by cases h)⟩, h1⟩
      · refine (rstep_miss w w m p q D b o T A l bl s rs rt rw_ rp rr _ ⟨ht.1, by omega, ht.2.2⟩ hx h).mono ?_
        rintro e w' ⟨rfl, h1⟩
        rw [stepA_miss A o l bl rs rt rw_ kp ke s hx]
        exact ⟨rfl, _, ⟨rfl, fun h => (by cases h), fun _ => rfl, fun _ => rfl, fun _ _ => rfl, fun _ h => (by cases h)⟩, h1⟩
    | begin =>
      by_cases h1 : rs < 1 ∨ 65536 < rs
      · refine (rstep_bad w w m p q D b o T A l bl s rs rt rw_ rp rr rl h1 h).mono ?_
        rintro e w' ⟨rfl, h2⟩
        rw [stepA_bad A o l bl rs kt kw kp ke s h1]
        exact ⟨rfl, _, ⟨rfl, fun _ => ⟨rfl, rfl⟩, fun h => (by cases h), fun h => (by cases h), fun h => (by cases h), fun h => (by cases h)⟩, h2⟩
      · have hs : 1 ≤ rs ∧ rs ≤ 65536 := by omega
        by_cases h2 : rs ≤ bl.getD (o + 1) 0 - bl.getD o 0
        · refine (rstep_take w w m p q D b o T A l bl s _ _ rs rt rw_ rp rr rl ⟨b0.1, b0.2, b1⟩ g0 g1 hs h2 h).mono ?_
          rintro e w' ⟨rfl, h3⟩
          rw [stepA_take A o l bl rs kt kw kp ke s h1 h2]
          exact ⟨rfl, _, ⟨rfl, fun _ => ⟨rfl, rfl⟩, fun h => (by cases h), fun h => (by cases h), fun h => (by cases h), fun h => (by cases h)⟩, h3⟩
        · by_cases h3 : bl.getD o 0 < bl.getD (o + 1) 0 ∧ lg A rs = false
          · refine (rstep_fill w w m p q D b o T A l bl s _ _ rs rt rw_ rp rr rl ⟨b0.1, h3.1, b1⟩ g0 g1 hs (by omega) h3.2 h).mono ?_
            rintro e w' ⟨rfl, h4⟩
            rw [stepA_fill A o l bl rs kt kw kp ke s h1 h2 h3]
            exact ⟨rfl, _, ⟨rfl, fun h => (by cases h), fun _ => rfl, fun _ => rfl, fun _ _ => h3.2.symm, fun _ h => (by cases h)⟩, h4⟩
          · rw [stepA_read A o l bl rs kt kw kp ke s h1 h2 h3]
            refine (rstep_first w w m p q D b o T A l bl s _ _ rs rt rw_ rp rr rl ⟨b0.1, b0.2, b1⟩ g0 g1 hs (by omega) (by
              by_cases h4 : bl.getD o 0 < bl.getD (o + 1) 0
              · right
                by_cases h5 : lg A rs = true
                · exact h5
                · exact absurd ⟨h4, by simpa using h5⟩ h3
              · left; omega) h).mono fun e w' hh => ?_
            exact read .begin e w' hh
end Go.Proofs.Ytelljfckffmjmaa

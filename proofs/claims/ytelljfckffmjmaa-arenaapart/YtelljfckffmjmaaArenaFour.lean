/-
  Four threads' asks, who has which words, in the model's heap ('PB').
-/
import Derived.Test.YtelljfckffmjmaaArenaApartE
namespace Go.Proofs.Ytelljfckffmjmaa
open Go.RowKit
set_option linter.unusedVariables false

def pv (x : Option Nat) : Value := .pointer (x.map fun b => ⟨b, 0, none⟩)
def Ar4 (w : World) (g : Nat) (T : TypeId) (xs : Nat → Option Nat) : Prop := w.heap[g]? = some (.cells #[pv (xs 0), pv (xs 1), pv (xs 2), pv (xs 3)] T)
section
variable {w w' : World} {g : Nat} {T : TypeId} {xs : Nat → Option Nat}
theorem Ar4.at (h : Ar4 w g T xs) (i : Nat) (hi : i < 4) : w.cell? ⟨g, i, none⟩ = some (pv (xs i)) := by
  rw [cell_of_heap h]
  match i, hi with
  | 0, _ => rfl
  | 1, _ => rfl
  | 2, _ => rfl
  | 3, _ => rfl
theorem Ar4.fz (h : Ar4 w g T xs) (i : Nat) : w.frozen? ⟨g, i, none⟩ = false := by
  unfold Ar4 at h
  simp [World.frozen?, h]
theorem Ar4.turned (h : Ar4 w g T xs) {S : List Nat} (t : Turned S w w') (hg : g ∉ S) : Ar4 w' g T xs := by
  unfold Ar4
  rw [t.block g (lt_of_heap h) hg]
  exact h
theorem Ar4.set (h : Ar4 w g T xs) (i : Nat) (hi : i < 4) (x : Option Nat) : Ar4 (w.setCell ⟨g, i, none⟩ (pv x)) g T (updF xs i x) := by
  unfold Ar4
  rw [heap_setCell_at _ _ _ _ _ _ h]
  match i, hi with
  | 0, _ => rfl
  | 1, _ => rfl
  | 2, _ => rfl
  | 3, _ => rfl
end

def TB4 : TypeId := 69
def TX4 : TypeId := 67
def TN4 : TypeId := 68
def TO4 : TypeId := 70
def TC4 : TypeId := 72
theorem bt4 : BT TB4 := by unfold BT; decide

def nsl (ns : Nat → Nat) : List Int := [(ns 0 : Int), (ns 1 : Int), (ns 2 : Int), (ns 3 : Int)]
theorem nsl_at (ns : Nat → Nat) {i : Nat} (hi : i < 4) : (nsl ns)[i]? = some (ns i : Int) := by
  match i, hi with
  | 0, _ => rfl
  | 1, _ => rfl
  | 2, _ => rfl
  | 3, _ => rfl
theorem nsl_set (ns : Nat → Nat) {i : Nat} (hi : i < 4) (x : Nat) : (nsl ns).set i (x : Int) = nsl (updF ns i x) := by
  match i, hi with
  | 0, _ => rfl
  | 1, _ => rfl
  | 2, _ => rfl
  | 3, _ => rfl
def owl (ow : Nat → Nat) : List Int := (List.range 401).map fun i => (ow i : Int)
theorem owl_at (ow : Nat → Nat) {i : Nat} (hi : i < 401) : (owl ow)[i]? = some (ow i : Int) := by
  unfold owl
  rw [List.getElem?_map, List.getElem?_range hi]
  rfl
theorem owl_set (ow : Nat → Nat) (i x : Nat) : (owl ow).set i (x : Int) = owl (updF ow i x) := by
  apply List.ext_getElem?
  intro j
  by_cases hj : j < 401
  · rw [owl_at _ hj, List.getElem?_set]
    unfold updF
    by_cases e : i = j
    · subst e
      rw [if_pos rfl, if_pos (by unfold owl; simp; exact hj), if_pos rfl]
    · rw [if_neg e, if_neg (fun h => e h.symm), owl_at _ hj]
  · rw [List.getElem?_eq_none (by unfold owl; simp; omega), List.getElem?_eq_none (by unfold owl; simp; omega)]

/-- The arena, four threads' buffers, asks and sizes, who has which words, the one class. -/
structure PB (L : Nat) (w : World) (a v p q B g gn go gc : Nat) (A : AC) (l bl : List Int) (s : Int) (xs : Nat → Option Nat) (K : Nat → AkS) (ns ow : Nat → Nat) : Prop where
  ar : Arn w a v p q A l s
  bf : Bf w B TB4 bl
  ax : Ar4 w g TX4 xs
  an : Bf w gn TN4 (nsl ns)
  ao : Bf w go TO4 (owl ow)
  cl : w.heap[gc]? = some (.cells #[.int .i64 0, .int .i64 0, .int .i64 2] TC4)
  ak : ∀ i b, i < 4 → xs i = some b → AkB w b a B (2 * i) (K i)
  nd : ∀ i j b, i < 4 → j < 4 → xs i = some b → xs j = some b → i = j
  lo : L ≤ p ∧ L ≤ q ∧ L ≤ B ∧ L ≤ g ∧ L ≤ gn ∧ L ≤ go
  lb : ∀ i b, i < 4 → xs i = some b → L ≤ b

section
variable {L : Nat} {w w1 w' : World} {a v p q B g gn go gc : Nat} {A : AC} {l bl l2 bl2 : List Int} {s s2 : Int} {xs : Nat → Option Nat} {K : Nat → AkS} {ns ow : Nat → Nat}
theorem PB.turned (h : PB L w a v p q B g gn go gc A l bl s xs K ns ow) {S : List Nat} (t : Turned S w w') (ha : a ∉ S) (hv : v ∉ S) (hp : p ∉ S) (hq : q ∉ S) (hB : B ∉ S) (hg : g ∉ S) (hgn : gn ∉ S) (hgo : go ∉ S) (hgc : gc ∉ S) (hb : ∀ i b, i < 4 → xs i = some b → b ∉ S) : PB L w' a v p q B g gn go gc A l bl s xs K ns ow :=
  ⟨h.ar.turned t ha hv hp hq, h.bf.turned t hB, h.ax.turned t hg, h.an.turned t hgn, h.ao.turned t hgo, by rw [t.block gc (lt_of_heap h.cl) hgc]; exact h.cl, fun i b hi hx => (h.ak i b hi hx).turned t (hb i b hi hx), h.nd, h.lo, h.lb⟩
theorem PB.t0 (h : PB L w a v p q B g gn go gc A l bl s xs K ns ow) (t : Turned [] w w') : PB L w' a v p q B g gn go gc A l bl s xs K ns ow := h.turned t (by simp) (by simp) (by simp) (by simp) (by simp) (by simp) (by simp) (by simp) (by simp) (by simp)
/-- A block of another type is turned. -/
theorem PB.t1 (h : PB L w a v p q B g gn go gc A l bl s xs K ns ow) {k : Nat} {c : Array Value} {e : TypeId} {fr : Nat × Nat} (hk : w.heap[k]? = some (.cells c e fr)) (t : Turned [k] w w') (he : e ≠ 97 ∧ e ≠ 3 ∧ e ≠ 94 ∧ e ≠ 2 ∧ e ≠ TB4 ∧ e ≠ TX4 ∧ e ≠ TN4 ∧ e ≠ TO4 ∧ e ≠ TC4 ∧ e ≠ 102) : PB L w' a v p q B g gn go gc A l bl s xs K ns ow := by
  obtain ⟨e1, e2, e3, e4, e5, e6, e7, e8, e9, e10⟩ := he
  exact h.turned t (by simp; exact Ne.symm (ne_of_type hk h.ar.head e1)) (by simp; exact Ne.symm (ne_of_type hk h.ar.var e2)) (by simp; exact Ne.symm (ne_of_type hk h.ar.mem.head e3)) (by simp; exact Ne.symm (ne_of_type hk h.ar.mem.row e4)) (by simp; exact Ne.symm (ne_of_type hk h.bf e5)) (by simp; exact Ne.symm (ne_of_type hk h.ax e6)) (by simp; exact Ne.symm (ne_of_type hk h.an e7)) (by simp; exact Ne.symm (ne_of_type hk h.ao e8)) (by simp; exact Ne.symm (ne_of_type hk h.cl e9)) (fun i b hi hx => by simp; exact Ne.symm (ne_of_type hk (h.ak i b hi hx) e10))

/-- A new size of thread i. -/
theorem PB.size (h : PB L w a v p q B g gn go gc A l bl s xs K ns ow) {i : Nat} (hi : i < 4) (x : Nat) : PB L (w.setCell ⟨gn, i, none⟩ (.int .i64 x)) a v p q B g gn go gc A l bl s xs K (updF ns i x) ow := by
  have t : Turned [gn] w (w.setCell ⟨gn, i, none⟩ (.int .i64 x)) := (Turned.refl _ _).setCell (by simp) _
  refine ⟨h.ar.turned t ?_ ?_ ?_ ?_, h.bf.turned t ?_, h.ax.turned t ?_, by rw [← nsl_set ns hi x]; exact h.an.set i x, h.ao.turned t ?_, ?_, fun j b hj hx => (h.ak j b hj hx).turned t ?_, h.nd, h.lo, h.lb⟩
  · simp; exact ne_of_type h.ar.head h.an (by decide)
  · simp; exact ne_of_type h.ar.var h.an (by decide)
  · simp; exact ne_of_type h.ar.mem.head h.an (by decide)
  · simp; exact ne_of_type h.ar.mem.row h.an (by decide)
  · simp; exact ne_of_type h.bf h.an (by decide)
  · simp; exact ne_of_type h.ax h.an (by decide)
  · simp; exact ne_of_type h.ao h.an (by decide)
  · rw [t.block gc (lt_of_heap h.cl) (by simp; exact ne_of_type h.cl h.an (by decide))]; exact h.cl
  · simp; exact ne_of_type (h.ak j b hj hx) h.an (by decide)
/-- A word of another owner. -/
theorem PB.own (h : PB L w a v p q B g gn go gc A l bl s xs K ns ow) (i x : Nat) : PB L (w.setCell ⟨go, i, none⟩ (.int .i64 x)) a v p q B g gn go gc A l bl s xs K ns (updF ow i x) := by
  have t : Turned [go] w (w.setCell ⟨go, i, none⟩ (.int .i64 x)) := (Turned.refl _ _).setCell (by simp) _
  refine ⟨h.ar.turned t ?_ ?_ ?_ ?_, h.bf.turned t ?_, h.ax.turned t ?_, h.an.turned t ?_, by rw [← owl_set ow i x]; exact h.ao.set i x, ?_, fun j b hj hx => (h.ak j b hj hx).turned t ?_, h.nd, h.lo, h.lb⟩
  · simp; exact ne_of_type h.ar.head h.ao (by decide)
  · simp; exact ne_of_type h.ar.var h.ao (by decide)
  · simp; exact ne_of_type h.ar.mem.head h.ao (by decide)
  · simp; exact ne_of_type h.ar.mem.row h.ao (by decide)
  · simp; exact ne_of_type h.bf h.ao (by decide)
  · simp; exact ne_of_type h.ax h.ao (by decide)
  · simp; exact ne_of_type h.an h.ao (by decide)
  · rw [t.block gc (lt_of_heap h.cl) (by simp; exact ne_of_type h.cl h.ao (by decide))]; exact h.cl
  · simp; exact ne_of_type (h.ak j b hj hx) h.ao (by decide)
/-- A word of the memory. -/
theorem PB.put (h : PB L w a v p q B g gn go gc A l bl s xs K ns ow) (m : Mem w' p q l2 s2) (hl : l2.length = l.length) (t : Turned [p, q] w w') : PB L w' a v p q B g gn go gc A l2 bl s2 xs K ns ow := by
  refine ⟨h.ar.acc m hl t, h.bf.turned t ?_, h.ax.turned t ?_, h.an.turned t ?_, h.ao.turned t ?_, ?_, fun j b hj hx => (h.ak j b hj hx).turned t ?_, h.nd, h.lo, h.lb⟩
  · simp; exact ⟨ne_of_type h.bf h.ar.mem.head (by decide), ne_of_type h.bf h.ar.mem.row (by decide)⟩
  · simp; exact ⟨ne_of_type h.ax h.ar.mem.head (by decide), ne_of_type h.ax h.ar.mem.row (by decide)⟩
  · simp; exact ⟨ne_of_type h.an h.ar.mem.head (by decide), ne_of_type h.an h.ar.mem.row (by decide)⟩
  · simp; exact ⟨ne_of_type h.ao h.ar.mem.head (by decide), ne_of_type h.ao h.ar.mem.row (by decide)⟩
  · rw [t.block gc (lt_of_heap h.cl) (by simp; exact ⟨ne_of_type h.cl h.ar.mem.head (by decide), ne_of_type h.cl h.ar.mem.row (by decide)⟩)]; exact h.cl
  · have hB := h.ak j b hj hx
    simp; exact ⟨ne_of_type hB h.ar.mem.head (by decide), ne_of_type hB h.ar.mem.row (by decide)⟩
/-- A step of thread i's ask. -/
theorem PB.step (h : PB L w a v p q B g gn go gc A l bl s xs K ns ow) {i b : Nat} (hi : i < 4) (hx : xs i = some b) {y : ASt} (hy : AX w w' a v p q B b TB4 A (2 * i) y) : PB L w' a v p q B g gn go gc A y.l y.bl y.s xs (updF K i y.k) ns ow := by
  have hB := h.ak i b hi hx
  have no : ∀ {k : Nat} {c : Array Value} {e : TypeId}, w.heap[k]? = some (.cells c e) → e ≠ 94 → e ≠ 2 → e ≠ TB4 → e ≠ 102 → k ∉ [p, q, B, b] := fun hk e1 e2 e3 e4 => by
    simp; exact ⟨ne_of_type hk h.ar.mem.head e1, ne_of_type hk h.ar.mem.row e2, ne_of_type hk h.bf e3, ne_of_type hk hB e4⟩
  refine ⟨hy.ar, hy.bf, h.ax.turned hy.tu (no h.ax (by decide) (by decide) (by decide) (by decide)), h.an.turned hy.tu (no h.an (by decide) (by decide) (by decide) (by decide)), h.ao.turned hy.tu (no h.ao (by decide) (by decide) (by decide) (by decide)), by rw [hy.tu.block gc (lt_of_heap h.cl) (no h.cl (by decide) (by decide) (by decide) (by decide))]; exact h.cl, fun j c hj hc => ?_, h.nd, h.lo, h.lb⟩
  unfold updF
  by_cases e : j = i
  · subst e
    rw [hx] at hc
    cases hc
    rw [if_pos rfl]
    exact hy.ak
  · rw [if_neg e]
    have hC := h.ak j c hj hc
    refine hC.turned hy.tu ?_
    simp
    exact ⟨ne_of_type hC h.ar.mem.head (by decide), ne_of_type hC h.ar.mem.row (by decide), ne_of_type hC h.bf (by decide), fun e2 => e (h.nd j i b hj hi (e2 ▸ hc) hx)⟩
/-- Thread i's pointer is set. -/
theorem PB.ptr (h : PB L w a v p q B g gn go gc A l bl s xs K ns ow) {i : Nat} (hi : i < 4) (x : Option Nat) (k' : AkS) (hk : ∀ b, x = some b → AkB w b a B (2 * i) k' ∧ L ≤ b ∧ ∀ j c, j < 4 → xs j = some c → c ≠ b) : PB L (w.setCell ⟨g, i, none⟩ (pv x)) a v p q B g gn go gc A l bl s (updF xs i x) (updF K i k') ns ow := by
  have t : Turned [g] w (w.setCell ⟨g, i, none⟩ (pv x)) := (Turned.refl _ _).setCell (by simp) _
  refine ⟨h.ar.turned t ?_ ?_ ?_ ?_, h.bf.turned t ?_, h.ax.set i hi x, h.an.turned t ?_, h.ao.turned t ?_, ?_, fun j b hj hx => ?_, fun j1 j2 c h3 h4 h5 h6 => ?_, h.lo, fun j b hj hx => ?_⟩
  · simp; exact ne_of_type h.ar.head h.ax (by decide)
  · simp; exact ne_of_type h.ar.var h.ax (by decide)
  · simp; exact ne_of_type h.ar.mem.head h.ax (by decide)
  · simp; exact ne_of_type h.ar.mem.row h.ax (by decide)
  · simp; exact ne_of_type h.bf h.ax (by decide)
  · simp; exact ne_of_type h.an h.ax (by decide)
  · simp; exact ne_of_type h.ao h.ax (by decide)
  · rw [t.block gc (lt_of_heap h.cl) (by simp; exact ne_of_type h.cl h.ax (by decide))]; exact h.cl
  · unfold updF at hx ⊢
    by_cases e : j = i
    · rw [if_pos e] at hx
      subst e
      rw [if_pos rfl]
      have hB := (hk b hx).1
      exact hB.turned t (by simp; exact ne_of_type hB h.ax (by decide))
    · rw [if_neg e] at hx
      rw [if_neg e]
      have hB := h.ak j b hj hx
      exact hB.turned t (by simp; exact ne_of_type hB h.ax (by decide))
  · unfold updF at h5 h6
    by_cases e1 : j1 = i
    · by_cases e2 : j2 = i
      · omega
      · rw [if_pos e1] at h5
        rw [if_neg e2] at h6
        exact absurd rfl ((hk c h5).2.2 j2 c h4 h6)
    · rw [if_neg e1] at h5
      by_cases e2 : j2 = i
      · rw [if_pos e2] at h6
        exact absurd rfl ((hk c h6).2.2 j1 c h3 h5)
      · rw [if_neg e2] at h6
        exact h.nd j1 j2 c h3 h4 h5 h6
  · unfold updF at hx
    by_cases e : j = i
    · rw [if_pos e] at hx
      exact (hk b hx).2.1
    · rw [if_neg e] at hx
      exact h.lb j b hj hx
/-- A buffer was retired. -/
theorem PB.retired (h : PB L w a v p q B g gn go gc A l bl s xs K ns ow) (y : Ab w w' a v p q B TB4 A l2 bl2 s2) : PB L w' a v p q B g gn go gc A l2 bl2 s2 xs K ns ow := by
  have no : ∀ {k : Nat} {c : Array Value} {e : TypeId}, w.heap[k]? = some (.cells c e) → e ≠ 94 → e ≠ 2 → e ≠ TB4 → k ∉ [p, q, B] := fun hk e1 e2 e3 => by
    simp; exact ⟨ne_of_type hk h.ar.mem.head e1, ne_of_type hk h.ar.mem.row e2, ne_of_type hk h.bf e3⟩
  exact ⟨y.ar, y.bf, h.ax.turned y.tu (no h.ax (by decide) (by decide) (by decide)), h.an.turned y.tu (no h.an (by decide) (by decide) (by decide)), h.ao.turned y.tu (no h.ao (by decide) (by decide) (by decide)), by rw [y.tu.block gc (lt_of_heap h.cl) (no h.cl (by decide) (by decide) (by decide))]; exact h.cl, fun i b hi hx => (h.ak i b hi hx).turned y.tu (no (h.ak i b hi hx) (by decide) (by decide) (by decide)), h.nd, h.lo, h.lb⟩
end

theorem owC_zero (ow : Nat → Nat) (s k : Nat) : owC ow s 0 k = ow := by
  funext q
  unfold owC
  rw [if_neg (by omega)]
theorem owC_succ (ow : Nat → Nat) (s n k : Nat) : updF (owC ow s n k) (s + n) k = owC ow s (n + 1) k := by
  funext q
  unfold updF owC
  by_cases h : q = s + n
  · subst h
    rw [if_pos rfl, if_pos (by omega)]
  · rw [if_neg h]
    by_cases h2 : s ≤ q ∧ q < s + n
    · rw [if_pos h2, if_pos (by omega)]
    · rw [if_neg h2, if_neg (by omega)]
end Go.Proofs.Ytelljfckffmjmaa

/-
  The tasks of package turns in the model's heap: what an object is ('Trn'), how tasks stand, which are ready. No Go is walked here.
-/
import Derived.Test.YtopoklciglgkbaaFrames
namespace Go.Proofs.Ytopoklciglgkbaa
open Go.RowKit

/-- What a step tells, as one of three numbers. -/
def norm (r : Int) : Int := if r = 0 ∨ r = 1 then r else 2

theorem norm_three (r : Int) : norm r = 0 ∨ norm r = 1 ∨ norm r = 2 := by unfold norm; split <;> omega

/-- A task: its struct's block, its step, what a step may turn (S) and looks at (A), what that holds behind n steps (D), what the n-th step tells; how it stands, how many steps it took. -/
structure Task where
  b : Nat
  fv : Value
  S : List Nat
  A : List Nat
  D : World → Int → Prop
  tell : Int → Int
  st : Int
  n : Int

/-- The step as the object keeps it: a method value of who takes it. -/
def taken (fv : Value) : Value := .func (.func 31) #[.agg #[fv]] #[]
def Task.ptr (t : Task) : Value := .pointer (some ⟨t.b, 0, none⟩)
def Task.cells (t : Task) : Array Value := #[taken t.fv, .int .i64 t.st, .int .i64 t.n]
def Task.adv (t : Task) : Task := { t with st := norm (t.tell t.n), n := t.n + 1 }
def Task.woken (t : Task) : Task := { t with st := 0 }

/-- The numbers of those that stand so, from k + 1 on. -/
def thatOf (s : Int) : List Int → Nat → List Int
  | [], _ => []
  | x :: l, k => if x = s then ((k : Int) + 1) :: thatOf s l (k + 1) else thatOf s l (k + 1)

theorem thatOf_snoc (s x : Int) (l : List Int) (k : Nat) : thatOf s (l ++ [x]) k = thatOf s l k ++ if x = s then [((k + l.length : Nat) : Int) + 1] else [] := by
  induction l generalizing k with
  | nil => simp [thatOf]
  | cons y l ih =>
    have e : k + 1 + l.length = k + (l.length + 1) := by omega
    simp only [List.cons_append, thatOf, ih, List.length_cons, e]
    split <;> simp
theorem thatOf_length (s : Int) (l : List Int) (k : Nat) : (thatOf s l k).length ≤ l.length := by
  induction l generalizing k with
  | nil => simp [thatOf]
  | cons y l ih =>
    have := ih (k + 1)
    simp only [thatOf]
    split <;> simp <;> omega
theorem thatOf_get (s : Int) (l : List Int) (k j : Nat) (x : Int) (h : (thatOf s l k)[j]? = some x) : ∃ m, x = ((k + m : Nat) : Int) + 1 ∧ l[m]? = some s := by
  induction l generalizing k j with
  | nil => simp [thatOf] at h
  | cons y l ih =>
    simp only [thatOf] at h
    split at h
    · cases j with
      | zero => simp at h; exact ⟨0, by omega, by simp_all⟩
      | succ j =>
        simp at h
        obtain ⟨m, h1, h2⟩ := ih (k + 1) j h
        exact ⟨m + 1, by omega, by simpa using h2⟩
    · obtain ⟨m, h1, h2⟩ := ih (k + 1) j h
      exact ⟨m + 1, by omega, by simpa using h2⟩

/-- A pick's place among n. -/
def placeOf (p : Int) (n : Nat) : Nat := ((if p < 0 then -(p + 1) else p) % (n : Int)).toNat

theorem placeOf_lt (p : Int) {n : Nat} (h : 0 < n) : placeOf p n < n := by
  unfold placeOf
  have h1 := Int.emod_lt_of_pos (if p < 0 then -(p + 1) else p) (show (0 : Int) < n by omega)
  have h2 := Int.emod_nonneg (if p < 0 then -(p + 1) else p) (show (n : Int) ≠ 0 by omega)
  omega

def states (ts : List Task) : List Int := ts.map Task.st
def readyOf (ts : List Task) : List Int := thatOf 0 (states ts) 0

/-- An object of package turns: block p is the struct; F: the blocks that its calls may turn; nothing below B is its. -/
structure Trn (B : Nat) (w : World) (p : Nat) (F : List Nat) (ts : List Task) : Prop where
  head : ∃ v, w.heap[p]? = some (.cells #[v] 58) ∧ w.ownsRow B 64 1 v ts.length (ts.map Task.ptr) ∧ ∀ k, v.ownBlock = some k → k ∈ F
  pF : p ∈ F
  task : ∀ t, t ∈ ts → w.heap[t.b]? = some (.cells t.cells 67) ∧ t.b ∈ F
  nodup : (ts.map Task.b).Nodup
  lo : ∀ k, k ∈ F → B ≤ k ∧ k < w.heap.size
  room : ts.length ≤ 128

section
variable {B : Nat} {w : World} {p : Nat} {F : List Nat} {ts : List Task}
theorem Trn.open (h : Trn B w p F ts) : ∃ ao cap, w.cell? ⟨p, 0, none⟩ = some (.slice ao ts.length cap) ∧ ∀ i t, ts[i]? = some t → ∃ g, ao = some ⟨g, 0, none⟩ ∧ w.cell? ⟨g, i, none⟩ = some (.pointer (some ⟨t.b, 0, none⟩)) := by
  obtain ⟨v, h1, h2, _⟩ := h.head
  obtain ⟨_, ao, cap, rfl, h3⟩ := ownsRow_any h2
  refine ⟨ao, cap, by simp [World.cell?, h1], fun i t ht => ?_⟩
  obtain ⟨g, h4, _, _, h5, _⟩ := h3 i t.ptr (by rw [List.getElem?_map, ht]; rfl)
  exact ⟨g, h4, h5⟩
theorem Trn.c0 (h : Trn B w p F ts) {t : Task} (ht : t ∈ ts) : w.cell? ⟨t.b, 0, none⟩ = some (.func (.func 31) #[.agg #[t.fv]] #[]) := by
  rw [cell_of_heap (h.task t ht).1]; rfl
theorem Trn.c1 (h : Trn B w p F ts) {t : Task} (ht : t ∈ ts) : w.cell? ⟨t.b, 1, none⟩ = some (.int .i64 t.st) := by
  rw [cell_of_heap (h.task t ht).1]; rfl
theorem Trn.c2 (h : Trn B w p F ts) {t : Task} (ht : t ∈ ts) : w.cell? ⟨t.b, 2, none⟩ = some (.int .i64 t.n) := by
  rw [cell_of_heap (h.task t ht).1]; rfl
theorem Trn.f (h : Trn B w p F ts) {t : Task} (ht : t ∈ ts) (i : Nat) : w.frozen? ⟨t.b, i, none⟩ = false := by
  simp [World.frozen?, (h.task t ht).1]
theorem Trn.ltb (h : Trn B w p F ts) {t : Task} (ht : t ∈ ts) : t.b < w.heap.size := lt_of_heap (h.task t ht).1
theorem Trn.keep (h : Trn B w p F ts) {w' : World} (hk : ∀ k, k ∈ F → w'.heap[k]? = w.heap[k]?) : Trn B w' p F ts := by
  obtain ⟨v, h1, h2, h3⟩ := h.head
  refine ⟨⟨v, by rw [hk p h.pF]; exact h1, ownsRow_keep h2 (fun k e => hk k (h3 k e)), h3⟩, h.pF, fun t ht => ⟨by rw [hk _ (h.task t ht).2]; exact (h.task t ht).1, (h.task t ht).2⟩, h.nodup, fun k hF => ⟨(h.lo k hF).1, ?_⟩, h.room⟩
  obtain ⟨_, h5⟩ := h.lo k hF
  have h6 := hk k hF
  rw [Array.getElem?_eq_getElem h5] at h6
  exact lt_of_heap h6
theorem Trn.turned (h : Trn B w p F ts) {S : List Nat} {w' : World} (t : Turned S w w') (hs : ∀ k, k ∈ F → k ∉ S) : Trn B w' p F ts :=
  h.keep (fun k hk => t.block k (h.lo k hk).2 (hs k hk))
theorem list_set_self {α : Type} {l : List α} {i : Nat} {x : α} (h : l[i]? = some x) : l.set i x = l := by
  apply List.ext_getElem?
  intro j
  rw [List.getElem?_set]
  split
  · rename_i e
    subst e
    rw [h]
    simp [(List.getElem?_eq_some_iff.1 h).1]
  · rfl
theorem Trn.inj (h : Trn B w p F ts) {i j : Nat} {t u : Task} (ht : ts[i]? = some t) (hu : ts[j]? = some u) (e : t.b = u.b) : i = j := by
  have h1 : (ts.map Task.b)[i]? = some t.b := by rw [List.getElem?_map, ht]; rfl
  have h2 : (ts.map Task.b)[j]? = some u.b := by rw [List.getElem?_map, hu]; rfl
  exact (List.getElem?_inj (List.getElem?_eq_some_iff.1 h1).1 h.nodup).1 (by rw [h1, h2, e])
/-- The block of a task is neither the object's nor its row's. -/
theorem Trn.apart (h : Trn B w p F ts) {t : Task} (ht : t ∈ ts) : t.b ≠ p ∧ ∀ v, w.heap[p]? = some (.cells #[v] 58) → ∀ k, v.ownBlock = some k → k ≠ t.b := by
  obtain ⟨v, h1, h2, _⟩ := h.head
  have hb := (h.task t ht).1
  constructor
  · intro e
    rw [e, h1] at hb
    simp at hb
  · intro v' hv k hk e
    rw [h1] at hv
    have e2 : v = v' := by simpa using hv
    subst e2
    obtain ⟨_, _, c, hc⟩ := ownsRow_lt h2 k hk
    rw [e, hb] at hc
    simp at hc
/-- One task stands otherwise. -/
theorem Trn.set (h : Trn B w p F ts) {w' : World} {i : Nat} {t t' : Task} (ht : ts[i]? = some t) (eb : t'.b = t.b) (hw : w'.heap[t.b]? = some (.cells t'.cells 67)) (hT : Turned [t.b] w w') : Trn B w' p F (ts.set i t') := by
  have hm := List.mem_of_getElem? ht
  obtain ⟨v, h1, h2, h3⟩ := h.head
  obtain ⟨a1, a2⟩ := h.apart hm
  have kp : w'.heap[p]? = w.heap[p]? := hT.block p (h.lo p h.pF).2 (by simp; exact fun e => a1 e.symm)
  refine ⟨⟨v, by rw [kp]; exact h1, ?_, h3⟩, h.pF, ?_, ?_, fun k hF => ⟨(h.lo k hF).1, Nat.lt_of_lt_of_le (h.lo k hF).2 hT.size⟩, by simpa using h.room⟩
  · have e : (ts.set i t').map Task.ptr = ts.map Task.ptr := by
      rw [List.map_set]
      exact list_set_self (by rw [List.getElem?_map, ht]; simp [Task.ptr, eb])
    rw [List.length_set, e]
    exact ownsRow_keep h2 (fun k hk => hT.block k (ownsRow_lt h2 k hk).2.1 (by simp; exact a2 v h1 k hk))
  · intro u hu
    obtain ⟨j, hj⟩ := List.mem_iff_getElem?.1 hu
    rw [List.getElem?_set] at hj
    split at hj
    · split at hj
      · injection hj with hj
        subst hj
        rw [eb]
        exact ⟨hw, (h.task t hm).2⟩
      · cases hj
    · rename_i hne
      have hm2 := List.mem_of_getElem? hj
      refine ⟨?_, (h.task u hm2).2⟩
      rw [hT.block u.b (h.ltb hm2) (by simp; exact fun e => hne (h.inj hj ht e).symm)]
      exact (h.task u hm2).1
  · have e : (ts.set i t').map Task.b = ts.map Task.b := by
      rw [List.map_set]
      exact list_set_self (by rw [List.getElem?_map, ht]; simp [eb])
    rw [e]
    exact h.nodup
theorem Trn.drew (h : Trn B w p F ts) : Trn B w.drew p F ts := h.keep (fun _ _ => rfl)
end
end Go.Proofs.Ytopoklciglgkbaa

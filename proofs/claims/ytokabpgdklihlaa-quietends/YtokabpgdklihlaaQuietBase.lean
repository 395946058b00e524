/-
  The count of package quiet and the deques that offers look into, in the model's heap ('Sh'), an offer ('OfB', what it holds: 'OfS'), and the document's steps as a pure function ('stepQ'). No Go is walked here.
-/
import Derived.Test.YtokabpgdklihlaaDequeStep
namespace Go.Proofs.Ytokabpgdklihlaa
open Go.RowKit

/-- A step of an offer. -/
inductive QStp
  | countIn | readCount | readTop | readBottom | readStack | countOut
deriving DecidableEq

def QStp.fn : QStp → Nat
  | .countIn => 33
  | .readCount => 50
  | .readTop => 72
  | .readBottom => 83
  | .readStack => 93
  | .countOut => 95

/-- What an offer holds. -/
structure OfS where
  at_ : QStp
  state : Int
  k : Nat
  top : Int

/-- The count's cell, the workers, where the deques lie. -/
structure QC where
  at_ : Nat
  n : Nat
  cs : List Cfg

def cOf (Q : QC) (k : Nat) : Cfg := Q.cs.getD k ⟨0, 0, 0⟩
def cnt (Q : QC) (l : List Int) : Int := l.getD Q.at_ 0
def lookQ (Q : QC) (o : OfS) (k : Nat) : OfS := { o with k := k, at_ := if k = Q.cs.length then .readCount else .readTop }

/-- The document's step: the cells, and what the offer holds then. -/
def stepQ (Q : QC) (l : List Int) (o : OfS) : List Int × OfS :=
  if o.state = 0 then
    match o.at_ with
    | .countIn => (l.set Q.at_ (cnt Q l + 1), { o with at_ := .readCount })
    | .readCount => if cnt Q l = Q.n then (l, { o with state := 2 }) else (l, lookQ Q o 0)
    | .readTop => (l, { o with top := rd (cOf Q o.k) l 0, at_ := .readBottom })
    | .readBottom => (l, { o with at_ := if o.top < rd (cOf Q o.k) l 1 then .countOut else .readStack })
    | .readStack => if 0 < rd (cOf Q o.k) l 3 then (l, { o with at_ := .countOut }) else (l, lookQ Q o (o.k + 1))
    | .countOut => (l.set Q.at_ (cnt Q l - 1), { o with state := 1 })
  else (l, o)

/-- The deque that an offer looks into is one of them. -/
def QOk (Q : QC) (o : OfS) : Prop :=
  match o.at_ with
  | .readTop => o.k < Q.cs.length
  | .readBottom => o.k < Q.cs.length
  | .readStack => o.k < Q.cs.length
  | _ => True

theorem ne_of_type {w : World} {x y : Nat} {c c' : Array Value} {e e' : TypeId} {fr fr' : Nat × Nat} (hx : w.heap[x]? = some (.cells c e fr)) (hy : w.heap[y]? = some (.cells c' e' fr')) (he : e ≠ e') : x ≠ y := by
  rintro rfl
  rw [hx] at hy
  cases hy
  exact he rfl

/-- The count (block a), its memory, and the deques. -/
structure Sh (w : World) (a p q : Nat) (ds : List Nat) (Q : QC) (l : List Int) (s : Int) : Prop where
  head : w.heap[a]? = some (.cells #[.pointer (some ⟨p, 0, none⟩), .int .i64 Q.at_, .int .i64 Q.n] 64)
  cell : Q.at_ < l.length
  most : l.length ≤ 65536
  n : 1 ≤ Q.n ∧ Q.n ≤ 64
  len : ds.length = Q.cs.length ∧ ds.length ≤ 64
  mem : Mem w p q l s
  dq : ∀ i d, ds[i]? = some d → Dq w d p q (cOf Q i) l s

def ofCells (a g m cap : Nat) (o : OfS) : Array Value :=
  #[.func (.func o.at_.fn) #[.pointer (some ⟨a, 0, none⟩)] #[], .int .i64 o.state, .slice (some ⟨g, 0, none⟩) m cap, .int .i64 o.k, .int .i64 o.top]

/-- An offer's cells, whatever they hold, and its row of deques. -/
structure OfG (w : World) (b g : Nat) (ds : List Nat) (c : Array Value) : Prop where
  op : w.heap[b]? = some (.cells c 75)
  row : ∃ cc fr, w.heap[g]? = some (.cells cc 36 fr)
  at_ : ∀ i d, ds[i]? = some d → w.cell? ⟨g, i, none⟩ = some (.pointer (some ⟨d, 0, none⟩))

/-- An offer. -/
def OfB (w : World) (b a : Nat) (ds : List Nat) (o : OfS) : Prop := ∃ g cap, OfG w b g ds (ofCells a g ds.length cap o)

section
variable {w : World} {a p q b g : Nat} {ds : List Nat} {Q : QC} {l : List Int} {s : Int} {c : Array Value}
theorem Sh.c0 (h : Sh w a p q ds Q l s) : w.cell? ⟨a, 0, none⟩ = some (.pointer (some ⟨p, 0, none⟩)) := by rw [cell_of_heap h.head]; rfl
theorem Sh.c1 (h : Sh w a p q ds Q l s) : w.cell? ⟨a, 1, none⟩ = some (.int .i64 Q.at_) := by rw [cell_of_heap h.head]; rfl
theorem Sh.c2 (h : Sh w a p q ds Q l s) : w.cell? ⟨a, 2, none⟩ = some (.int .i64 Q.n) := by rw [cell_of_heap h.head]; rfl
theorem Sh.lta (h : Sh w a p q ds Q l s) : a < w.heap.size := lt_of_heap h.head
theorem Sh.nep (h : Sh w a p q ds Q l s) : a ≠ p := ne_of_type h.head h.mem.head (by decide)
theorem Sh.neq (h : Sh w a p q ds Q l s) : a ≠ q := ne_of_type h.head h.mem.row (by decide)
theorem Sh.at (h : Sh w a p q ds Q l s) : l[Q.at_]? = some (cnt Q l) := by
  simp [cnt, List.getD, h.cell]
theorem Sh.turned (h : Sh w a p q ds Q l s) {S : List Nat} {w' : World} (t : Turned S w w') (ha : a ∉ S) (hp : p ∉ S) (hq : q ∉ S) (hd : ∀ d, d ∈ ds → d ∉ S) : Sh w' a p q ds Q l s :=
  ⟨by rw [t.block a h.lta ha]; exact h.head, h.cell, h.most, h.n, h.len, h.mem.turned t hp hq, fun i d hi => (h.dq i d hi).turned t (hd d (List.mem_of_getElem? hi)) hp hq⟩
theorem Sh.drew (h : Sh w a p q ds Q l s) : Sh w.drew a p q ds Q l s := h.turned (Turned.refl [] w).drew (by simp) (by simp) (by simp) (by simp)
theorem Sh.drewN (h : Sh w a p q ds Q l s) (m : Nat) : Sh (w.drewN m) a p q ds Q l s := h.turned ((Turned.refl [] w).drewN m) (by simp) (by simp) (by simp) (by simp)
/-- Behind an access. -/
theorem Sh.acc (h : Sh w a p q ds Q l s) {l' : List Int} {s' : Int} {w' : World} (m : Mem w' p q l' s') (hl : l'.length = l.length) (t : Turned [p, q] w w') : Sh w' a p q ds Q l' s' :=
  ⟨by rw [t.block a h.lta (by simp; exact ⟨h.nep, h.neq⟩)]; exact h.head, by rw [hl]; exact h.cell, by rw [hl]; exact h.most, h.n, h.len, m, fun i d hi => (h.dq i d hi).acc m hl t⟩
theorem Sh.ned (h : Sh w a p q ds Q l s) {d : Nat} (hd : d ∈ ds) : d ≠ a ∧ d ≠ p ∧ d ≠ q := by
  obtain ⟨i, hi⟩ := List.getElem?_of_mem hd
  have h1 := h.dq i d hi
  exact ⟨ne_of_type h1.head h.head (by decide), h1.ne.1, h1.ne.2⟩

theorem OfG.f (h : OfG w b g ds c) (i : Nat) : w.cell? ⟨b, i, none⟩ = c[i]? := cell_of_heap h.op i
theorem OfG.fz (h : OfG w b g ds c) (i : Nat) : w.frozen? ⟨b, i, none⟩ = false := by simp [World.frozen?, h.op]
theorem OfG.lt (h : OfG w b g ds c) : b < w.heap.size := lt_of_heap h.op
theorem OfG.neg (h : OfG w b g ds c) : b ≠ g := by
  obtain ⟨cc, fr, hr⟩ := h.row
  exact ne_of_type h.op hr (by decide)
theorem OfG.ltg (h : OfG w b g ds c) : g < w.heap.size := by
  obtain ⟨cc, fr, hr⟩ := h.row
  exact lt_of_heap hr
theorem OfG.turned (h : OfG w b g ds c) {S : List Nat} {w' : World} (t : Turned S w w') (hb : b ∉ S) (hg : g ∉ S) : OfG w' b g ds c := by
  obtain ⟨cc, fr, hr⟩ := h.row
  exact ⟨by rw [t.block b h.lt hb]; exact h.op, ⟨cc, fr, by rw [t.block g (lt_of_heap hr) hg]; exact hr⟩, fun i d hi => by rw [t.cell (p := ⟨g, i, none⟩) (lt_of_heap hr) hg]; exact h.at_ i d hi⟩
theorem OfG.set (h : OfG w b g ds c) (i : Nat) (v : Value) : OfG (w.setCell ⟨b, i, none⟩ v) b g ds (c.setIfInBounds i v) := by
  obtain ⟨cc, fr, hr⟩ := h.row
  have t : Turned [b] w (w.setCell ⟨b, i, none⟩ v) := (Turned.refl _ _).setCell (by simp) _
  have hg : g ∉ [b] := by simp; exact Ne.symm h.neg
  exact ⟨heap_setCell_at _ _ _ _ _ _ h.op v, ⟨cc, fr, by rw [t.block g (lt_of_heap hr) hg]; exact hr⟩, fun j d hj => by rw [t.cell (p := ⟨g, j, none⟩) (lt_of_heap hr) hg]; exact h.at_ j d hj⟩
theorem OfG.ofB (h : OfG w b g ds c) {cap : Nat} {o : OfS} (e : c = ofCells a g ds.length cap o) : OfB w b a ds o := ⟨g, cap, by subst e; exact h⟩

/-- No row of deques lies there. -/
def NoRow (w : World) (k : Nat) : Prop := ∀ c fr, w.heap[k]? ≠ some (.cells c 36 fr)
theorem noRow {w : World} {k : Nat} {c : Array Value} {e : TypeId} {fr : Nat × Nat} (h : w.heap[k]? = some (.cells c e fr)) (he : e ≠ 36) : NoRow w k := by
  intro c' fr' h'
  rw [h] at h'
  cases h'
  exact he rfl
theorem OfB.turned {o : OfS} (h : OfB w b a ds o) {S : List Nat} {w' : World} (t : Turned S w w') (hb : b ∉ S) (hS : ∀ k, k ∈ S → NoRow w k) : OfB w' b a ds o := by
  obtain ⟨g, cap, h⟩ := h
  obtain ⟨cc, fr, hr⟩ := h.row
  exact ⟨g, cap, h.turned t hb (fun hg => hS g hg cc fr hr)⟩
theorem OfB.lt {o : OfS} (h : OfB w b a ds o) : b < w.heap.size := by obtain ⟨g, cap, h⟩ := h; exact h.lt
theorem OfB.type {o : OfS} (h : OfB w b a ds o) : ∃ c, w.heap[b]? = some (.cells c 75) := by obtain ⟨g, cap, h⟩ := h; exact ⟨_, h.op⟩
theorem OfB.f1 {o : OfS} (h : OfB w b a ds o) : w.cell? ⟨b, 1, none⟩ = some (.int .i64 o.state) := by obtain ⟨g, cap, h⟩ := h; rw [h.f]; rfl
theorem OfB.f0 {o : OfS} (h : OfB w b a ds o) : w.cell? ⟨b, 0, none⟩ = some (.func (.func o.at_.fn) #[.pointer (some ⟨a, 0, none⟩)] #[]) := by obtain ⟨g, cap, h⟩ := h; rw [h.f]; rfl
end

/-- On the way through a step: the count and the deques, the offer's cells as they stand, what was turned. -/
structure Qs (w0 w : World) (a p q b g : Nat) (ds : List Nat) (Q : QC) (l : List Int) (s : Int) (c : Array Value) : Prop where
  sh : Sh w a p q ds Q l s
  of_ : OfG w b g ds c
  tu : Turned [p, q, b] w0 w

section
variable {w0 w : World} {a p q b g : Nat} {ds : List Nat} {Q : QC} {l : List Int} {s : Int} {c : Array Value}
theorem Qs.nb (h : Qs w0 w a p q b g ds Q l s c) : b ≠ a ∧ b ≠ p ∧ b ≠ q ∧ b ∉ ds := by
  refine ⟨ne_of_type h.of_.op h.sh.head (by decide), ne_of_type h.of_.op h.sh.mem.head (by decide), ne_of_type h.of_.op h.sh.mem.row (by decide), fun hd => ?_⟩
  obtain ⟨i, hi⟩ := List.getElem?_of_mem hd
  exact ne_of_type h.of_.op (h.sh.dq i b hi).head (by decide) rfl
theorem Qs.acc (h : Qs w0 w a p q b g ds Q l s c) {l' : List Int} {s' : Int} {w' : World} (m : Mem w' p q l' s') (hl : l'.length = l.length) (t : Turned [p, q] w w') : Qs w0 w' a p q b g ds Q l' s' c := by
  obtain ⟨cc, fr, hr⟩ := h.of_.row
  have h1 := h.nb
  exact ⟨h.sh.acc m hl t, h.of_.turned t (by simp; exact ⟨h1.2.1, h1.2.2.1⟩) (by simp; exact ⟨ne_of_type hr h.sh.mem.head (by decide), ne_of_type hr h.sh.mem.row (by decide)⟩), h.tu.trans (t.mono (by intro k hk; simp at hk; rcases hk with rfl | rfl <;> simp))⟩
theorem Qs.set (h : Qs w0 w a p q b g ds Q l s c) (i : Nat) (v : Value) : Qs w0 (w.setCell ⟨b, i, none⟩ v) a p q b g ds Q l s (c.setIfInBounds i v) := by
  have h1 := h.nb
  exact ⟨h.sh.turned (S := [b]) ((Turned.refl _ _).setCell (by simp) _) (by simp; exact Ne.symm h1.1) (by simp; exact Ne.symm h1.2.1) (by simp; exact Ne.symm h1.2.2.1) (fun d hd => by simp; rintro rfl; exact h1.2.2.2 hd), h.of_.set i v, h.tu.setCell (by simp) _⟩
theorem Qs.drew (h : Qs w0 w a p q b g ds Q l s c) : Qs w0 w.drew a p q b g ds Q l s c := ⟨h.sh.drew, h.of_.turned (Turned.refl [] w).drew (by simp) (by simp), h.tu.drew⟩
theorem Qs.drewN (h : Qs w0 w a p q b g ds Q l s c) (m : Nat) : Qs w0 (w.drewN m) a p q b g ds Q l s c := ⟨h.sh.drewN m, h.of_.turned ((Turned.refl [] w).drewN m) (by simp) (by simp), h.tu.drewN m⟩
theorem Qs.fin (h : Qs w0 w a p q b g ds Q l s c) {cap : Nat} {o : OfS} (e : c = ofCells a g ds.length cap o) : Sh w a p q ds Q l s ∧ OfB w b a ds o ∧ Turned [p, q, b] w0 w := ⟨h.sh, h.of_.ofB e, h.tu⟩
end
end Go.Proofs.Ytokabpgdklihlaa

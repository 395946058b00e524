/-
  QuietEnds: the crew is made ('Mk'), items are dealt ('Dl'). No Go is walked here.
-/
import Derived.Test.YtokabpgdklihlaaQuietEndsQ
namespace Go.Proofs.Ytokabpgdklihlaa
open Go.RowKit
set_option linter.unusedVariables false

def zeroL : List Int := List.replicate 400 0
def wk0 : Array Value := wkCells (.slice none 0 0) none 0 none false

/-- The crew while it is made: hw, hd what its fields hold; vw, vd its rows of ws and ds; made: workers mw, deques dq. -/
structure Mk (w0 w : World) (C a p q B n : Nat) (mw ws dq ds : List Nat) (hw hd vw vd : Value) (cs : List Cfg) : Prop where
  tu : Turned [] w0 w
  head : w.heap[C]? = some (.cells #[hw, hd, .pointer (some ⟨a, 0, none⟩), .int .i64 0] 35)
  sh : Sh w a p q dq ⟨0, n, cs⟩ zeroL 0
  rw_ : w.ownsRow B 39 1 vw ws.length (ws.map pd)
  rd_ : w.ownsRow B 36 1 vd ds.length (ds.map pd)
  wk : ∀ (i b : Nat), mw[i]? = some b → WkR w b wk0 ∧ w0.heap.size ≤ b
  nd : ∀ (i j b : Nat), mw[i]? = some b → mw[j]? = some b → i = j
  lo : w0.heap.size ≤ C ∧ w0.heap.size ≤ p ∧ w0.heap.size ≤ q ∧ w0.heap.size ≤ B ∧ B ≤ w.heap.size

section
variable {w0 w w' : World} {C a p q B n : Nat} {mw ws dq ds : List Nat} {hw hd vw vd : Value} {cs : List Cfg}

theorem Mk.frozen (h : Mk w0 w C a p q B n mw ws dq ds hw hd vw vd cs) (i : Nat) : w.frozen? ⟨C, i, none⟩ = false := by simp [World.frozen?, h.head]
theorem Mk.c0 (h : Mk w0 w C a p q B n mw ws dq ds hw hd vw vd cs) : w.cell? ⟨C, 0, none⟩ = some hw := by rw [cell_of_heap h.head]; rfl
theorem Mk.c1 (h : Mk w0 w C a p q B n mw ws dq ds hw hd vw vd cs) : w.cell? ⟨C, 1, none⟩ = some hd := by rw [cell_of_heap h.head]; rfl
theorem Mk.ltC (h : Mk w0 w C a p q B n mw ws dq ds hw hd vw vd cs) : C < w.heap.size := lt_of_heap h.head

/-- Rows are turned, given anew. -/
theorem Mk.grown (h : Mk w0 w C a p q B n mw ws dq ds hw hd vw vd cs) {S : List Nat} (t : Turned S w w') (hS : ∀ y, y ∈ S → w0.heap.size ≤ y ∧ ∃ c e fr, w.heap[y]? = some (.cells c e fr) ∧ (e = 39 ∨ e = 36))
    {ws' ds' : List Nat} {vw' vd' : Value} (r1 : w'.ownsRow B 39 1 vw' ws'.length (ws'.map pd)) (r2 : w'.ownsRow B 36 1 vd' ds'.length (ds'.map pd)) : Mk w0 w' C a p q B n mw ws' dq ds' hw hd vw' vd' cs := by
  have key : ∀ (z : Nat) cc e fr, w.heap[z]? = some (.cells cc e fr) → e ≠ 39 → e ≠ 36 → z ∉ S := by
    intro z cc e fr hz q1 q2 hm
    obtain ⟨_, c, e2, fr2, h1, h2⟩ := hS z hm
    rw [hz] at h1
    cases h1
    rcases h2 with h2 | h2
    · exact q1 h2
    · exact q2 h2
  obtain ⟨l1, l2, l3, l4, l5⟩ := h.lo
  refine ⟨h.tu.trans_new t (fun y hy => .inr (hS y hy).1), by rw [t.block C h.ltC (key C _ _ _ h.head (by decide) (by decide))]; exact h.head, h.sh.turned t (key a _ _ _ h.sh.head (by decide) (by decide)) (key p _ _ _ h.sh.mem.head (by decide) (by decide)) (key q _ _ _ h.sh.mem.row (by decide) (by decide)) (fun d hd => ?_), r1, r2, fun i b hb => ?_, h.nd, l1, l2, l3, l4, Nat.le_trans l5 t.size⟩
  · obtain ⟨j, hj⟩ := List.getElem?_of_mem hd
    exact key d _ _ _ (h.sh.dq j d hj).head (by decide) (by decide)
  · obtain ⟨h1, h2⟩ := h.wk i b hb
    exact ⟨h1.turned t (key b _ _ _ h1 (by decide) (by decide)), h2⟩
theorem Mk.turned0 (h : Mk w0 w C a p q B n mw ws dq ds hw hd vw vd cs) (t : Turned [] w w') : Mk w0 w' C a p q B n mw ws dq ds hw hd vw vd cs :=
  h.grown t (by simp) (ownsRow_keep h.rw_ (fun b hb => t.block b (ownsRow_lt h.rw_ b hb).2.1 (by simp))) (ownsRow_keep h.rd_ (fun b hb => t.block b (ownsRow_lt h.rd_ b hb).2.1 (by simp)))

/-- A deque is made. -/
theorem Mk.deq (h : Mk w0 w C a p q B n mw ws dq ds hw hd vw vd cs) {d : Nat} {Cf : Cfg} (hd' : Dq w' d p q Cf zeroL 0) (t : Turned [] w w') (hl : dq.length < 64) : Mk w0 w' C a p q B n mw ws (dq ++ [d]) ds hw hd vw vd (cs ++ [Cf]) := by
  have h1 := h.turned0 t
  exact { h1 with sh := h.sh.add hd' t hl }

/-- It is put into the row. -/
theorem Mk.appd (h : Mk w0 w C a p q B n mw ws dq ds hw hd vw vd cs) {d : Nat} {v' : Value} (hown : w'.ownsRow B 36 1 v' (ds.length + 1) (ds.map pd ++ [pd d])) (hg : w.grownBy w' vd.ownBlock) : Mk w0 w' C a p q B n mw ws dq (ds ++ [d]) hw hd vw v' cs := by
  have t := turned_grown hg
  refine h.grown t (fun y hy => ?_) (ownsRow_keep h.rw_ (fun b hb => t.block b (ownsRow_lt h.rw_ b hb).2.1 (fun hm => ?_))) (by simpa using hown)
  · obtain ⟨h1, _, c, h2⟩ := ownsRow_lt h.rd_ y (by simpa using hy)
    exact ⟨Nat.le_trans h.lo.2.2.2.1 h1, c, _, _, h2, .inr rfl⟩
  · obtain ⟨_, _, c, h2⟩ := ownsRow_lt h.rd_ b (by simpa using hm)
    obtain ⟨_, _, c3, h3⟩ := ownsRow_lt h.rw_ b hb
    exact ne_of_type h2 h3 (by decide) rfl
theorem Mk.appw (h : Mk w0 w C a p q B n mw ws dq ds hw hd vw vd cs) {d : Nat} {v' : Value} (hown : w'.ownsRow B 39 1 v' (ws.length + 1) (ws.map pd ++ [pd d])) (hg : w.grownBy w' vw.ownBlock) : Mk w0 w' C a p q B n mw (ws ++ [d]) dq ds hw hd v' vd cs := by
  have t := turned_grown hg
  refine h.grown t (fun y hy => ?_) (by simpa using hown) (ownsRow_keep h.rd_ (fun b hb => t.block b (ownsRow_lt h.rd_ b hb).2.1 (fun hm => ?_)))
  · obtain ⟨h1, _, c, h2⟩ := ownsRow_lt h.rw_ y (by simpa using hy)
    exact ⟨Nat.le_trans h.lo.2.2.2.1 h1, c, _, _, h2, .inl rfl⟩
  · obtain ⟨_, _, c, h2⟩ := ownsRow_lt h.rw_ b (by simpa using hm)
    obtain ⟨_, _, c3, h3⟩ := ownsRow_lt h.rd_ b hb
    exact ne_of_type h2 h3 (by decide) rfl

/-- A field of the crew is stored. -/
theorem Mk.stored (h : Mk w0 w C a p q B n mw ws dq ds hw hd vw vd cs) (i : Nat) (v : Value) {hw' hd' : Value} (e : (#[hw, hd, .pointer (some ⟨a, 0, none⟩), .int .i64 0] : Array Value).setIfInBounds i v = #[hw', hd', .pointer (some ⟨a, 0, none⟩), .int .i64 0]) : Mk w0 (w.setCell ⟨C, i, none⟩ v) C a p q B n mw ws dq ds hw' hd' vw vd cs := by
  have t : Turned [C] w (w.setCell ⟨C, i, none⟩ v) := (Turned.refl _ _).setCell (by simp) _
  have key : ∀ (z : Nat) cc e fr, w.heap[z]? = some (.cells cc e fr) → e ≠ 35 → z ∉ [C] := by
    intro z cc e fr hz q1
    simp
    exact ne_of_type hz h.head q1
  obtain ⟨l1, l2, l3, l4, l5⟩ := h.lo
  refine ⟨h.tu.setCell (.inr l1) _, ?_, h.sh.turned t (key a _ _ _ h.sh.head (by decide)) (key p _ _ _ h.sh.mem.head (by decide)) (key q _ _ _ h.sh.mem.row (by decide)) (fun d hd => ?_), ownsRow_keep h.rw_ (fun b hb => ?_), ownsRow_keep h.rd_ (fun b hb => ?_), fun i b hb => ?_, h.nd, l1, l2, l3, l4, Nat.le_trans l5 t.size⟩
  · rw [← e]
    exact heap_setCell_at _ _ _ _ _ _ h.head v
  · obtain ⟨j, hj⟩ := List.getElem?_of_mem hd
    exact key d _ _ _ (h.sh.dq j d hj).head (by decide)
  · obtain ⟨_, h1, c, h2⟩ := ownsRow_lt h.rw_ b hb
    exact t.block b h1 (key b _ _ _ h2 (by decide))
  · obtain ⟨_, h1, c, h2⟩ := ownsRow_lt h.rd_ b hb
    exact t.block b h1 (key b _ _ _ h2 (by decide))
  · obtain ⟨h1, h2⟩ := h.wk i b hb
    exact ⟨h1.turned t (key b _ _ _ h1 (by decide)), h2⟩

/-- A worker is made. -/
theorem Mk.work (h : Mk w0 w C a p q B n mw ws dq ds hw hd vw vd cs) {nb : Nat} (hnb : w.heap.size = nb) : Mk w0 (w.alloc (.cells wk0 44)) C a p q B n (mw ++ [nb]) ws dq ds hw hd vw vd cs := by
  subst hnb
  have t : Turned [] w (w.alloc (.cells wk0 44)) := (Turned.refl _ _).alloc _
  have h1 := h.turned0 t
  have hlt : ∀ (i b : Nat), mw[i]? = some b → b < w.heap.size := fun i b hb => (h.wk i b hb).1.lt
  refine { h1 with wk := fun i b hb => ?_, nd := fun i j b hi hj => ?_ }
  · rw [List.getElem?_append] at hb
    split at hb
    · exact h1.wk i b hb
    · rename_i hi
      have hz : i - mw.length = 0 := by
        have := (List.getElem?_eq_some_iff.1 hb).1
        simp at this
        omega
      rw [hz] at hb
      simp at hb
      subst hb
      refine ⟨?_, h.tu.size⟩
      exact heap_alloc_new _ _
  · rw [List.getElem?_append] at hi hj
    split at hi <;> split at hj
    · exact h.nd i j b hi hj
    · have := hlt i b hi
      have h2 := (List.getElem?_eq_some_iff.1 hj)
      obtain ⟨h3, h4⟩ := h2
      simp at h3 h4
      omega
    · have := hlt j b hj
      have h2 := (List.getElem?_eq_some_iff.1 hi)
      obtain ⟨h3, h4⟩ := h2
      simp at h3 h4
      omega
    · have h2 := (List.getElem?_eq_some_iff.1 hi).1
      have h3 := (List.getElem?_eq_some_iff.1 hj).1
      simp at h2 h3
      omega
end

/-- The crew while items are dealt: hv what each worker has in hands. -/
structure Dl (w0 w : World) (C gw gd a p q B n : Nat) (ws ds : List Nat) (X : Nat → List Int) (hv : Nat → Value) : Prop where
  tu : Turned [] w0 w
  cw : Cw w C gw gd a ws ds 0
  sh : Sh w a p q ds (QE n) zeroL 0
  wk : ∀ (i b : Nat), ws[i]? = some b → WkR w b (wkCells (hv i) none 0 none false) ∧ w0.heap.size ≤ b
  row : ∀ i, i < ws.length → w.ownsRow B 2 1 (hv i) (X i).length ((X i).map (Value.int .i64))
  ap : ∀ (i j y : Nat), i < ws.length → j < ws.length → (hv i).ownBlock = some y → (hv j).ownBlock = some y → i = j
  nq : ∀ i, i < ws.length → (hv i).ownBlock ≠ some q
  nd : ∀ (i j b : Nat), ws[i]? = some b → ws[j]? = some b → i = j
  lo : w0.heap.size ≤ C ∧ w0.heap.size ≤ p ∧ w0.heap.size ≤ q ∧ w0.heap.size ≤ B ∧ B ≤ w.heap.size

section
variable {w0 w w' : World} {C a p q B n : Nat} {ws ds : List Nat}
theorem Mk.dl {vw vd : Value} (h : Mk w0 w C a p q B n ws ws ds ds vw vd vw vd (csE n)) (hw : ws.length = n) (hd : ds.length = n) (hn : 1 ≤ n ∧ n ≤ 4) : ∃ gw gd, Dl w0 w C gw gd a p q B n ws ds (fun _ => []) (fun _ => .slice none 0 0) := by
  obtain ⟨gw, cw, e1, ⟨c1, f1, h1⟩, k1⟩ := PRow.of h.rw_ (by omega)
  obtain ⟨gd, cd, e2, ⟨c2, f2, h2⟩, k2⟩ := PRow.of h.rd_ (by omega)
  subst e1 e2
  exact ⟨gw, gd, h.tu, ⟨⟨cw, cd, h.head⟩, ⟨by omega, by omega, by omega⟩, ⟨c1, f1, h1⟩, ⟨c2, f2, h2⟩, k1, k2⟩, h.sh, h.wk, fun i hi => World.ownsRow_nil _ _ _ _, fun i j y hi hj h1 => by simp [Value.ownBlock] at h1, fun i hi h1 => by simp [Value.ownBlock] at h1, h.nd, h.lo⟩

variable {gw gd : Nat} {X : Nat → List Int} {hv : Nat → Value}
theorem Dl.gang (h : Dl w0 w C gw gd a p q B n ws ds X hv) : Gang w0 w C gw gd a p q ws ds (QE n) (startG X) := by
  have key : ∀ i, ∃ g, i < ws.length → Hd w (hv i) (X i) g ∧ g = (hv i).ownBlock.toList := by
    intro i
    by_cases hi : i < ws.length
    · refine ⟨(hv i).ownBlock.toList, fun _ => ⟨?_, rfl⟩⟩
      have hr := h.row i hi
      obtain ⟨g, h1, h2⟩ := Hd.of hr
      rcases h1 with ⟨e, e2, e3⟩ | ⟨b, off, cap, c, e1, e2, h3, h4, h5, h6⟩
      · rw [e]
        exact .inl ⟨rfl, e2, rfl⟩
      · rw [e2]
        exact .inr ⟨b, off, cap, c, rfl, rfl, h3, h4, h5, h6⟩
    · exact ⟨[], fun hc => absurd hc hi⟩
  refine ⟨fun i => (hv i).ownBlock.toList, h.tu, h.cw, ⟨0, h.sh⟩, fun i b hb => ?_, h.nd, fun i j y hi hj h1 h2 => h.ap i j y hi hj (by simpa using h1) (by simpa using h2), fun i hi hm => h.nq i hi (by simpa using hm), h.lo.1, h.lo.2.1, h.lo.2.2.1, fun b hb => ?_, fun i y hi hy => ?_⟩
  · have hi := (List.getElem?_eq_some_iff.1 hb).1
    obtain ⟨g, hg⟩ := key i
    obtain ⟨h1, h2⟩ := hg hi
    exact ⟨hv i, g, none, none, by simp [h2], (h.wk i b hb).1, h1, rfl, rfl⟩
  · obtain ⟨i, hi⟩ := List.getElem?_of_mem hb
    exact (h.wk i b hi).2
  · exact Nat.le_trans h.lo.2.2.2.1 (ownsRow_lt (h.row i hi) y (by simpa using hy)).1

theorem Dl.turned0 (h : Dl w0 w C gw gd a p q B n ws ds X hv) (t : Turned [] w w') : Dl w0 w' C gw gd a p q B n ws ds X hv :=
  ⟨h.tu.trans t, h.cw.turned t (by simp) (by simp) (by simp), h.sh.turned t (by simp) (by simp) (by simp) (by simp), fun i b hb => ⟨(h.wk i b hb).1.turned t (by simp), (h.wk i b hb).2⟩, fun i hi => ownsRow_keep (h.row i hi) (fun b hb => t.block b (ownsRow_lt (h.row i hi) b hb).2.1 (by simp)), h.ap, h.nq, h.nd, h.lo.1, h.lo.2.1, h.lo.2.2.1, h.lo.2.2.2.1, Nat.le_trans h.lo.2.2.2.2 t.size⟩

/-- Hands have grown. -/
theorem Dl.grew (h : Dl w0 w C gw gd a p q B n ws ds X hv) {r : Nat} (hr : r < ws.length) (hg : w.grownBy w' (hv r).ownBlock) : Cw w' C gw gd a ws ds 0 ∧ ∀ (i b : Nat), ws[i]? = some b → WkR w' b (wkCells (hv i) none 0 none false) := by
  have t := turned_grown hg
  have key : ∀ (z : Nat) cc e fr, w.heap[z]? = some (.cells cc e fr) → e ≠ 2 → z ∉ (hv r).ownBlock.toList := by
    intro z cc e fr hz q1 hm
    obtain ⟨_, _, c, h1⟩ := ownsRow_lt (h.row r hr) z (by simpa using hm)
    exact ne_of_type hz h1 q1 rfl
  obtain ⟨⟨cw, cd, g1⟩, _, ⟨c3, f3, g3⟩, ⟨c4, f4, g4⟩, _, _⟩ := h.cw
  exact ⟨h.cw.turned t (key C _ _ _ g1 (by decide)) (key gw _ _ _ g3 (by decide)) (key gd _ _ _ g4 (by decide)), fun i b hb => (h.wk i b hb).1.turned t (key b _ _ _ (h.wk i b hb).1 (by decide))⟩

/-- An item is put into hands. -/
theorem Dl.deal (h : Dl w0 w C gw gd a p q B n ws ds X hv) {r b g cap m : Nat} {v : Int} (hb : ws[r]? = some b) (hm : (X r).length + 1 = m) (hown : w'.ownsRow B 2 1 (.slice (some ⟨g, 0, none⟩) m cap) m ((X r).map (Value.int .i64) ++ [.int .i64 v])) (hg : w.grownBy w' (hv r).ownBlock) (hat : (hv r).ownBlock = some g ∨ g = w.heap.size) :
    Dl w0 (w'.setCell ⟨b, 0, none⟩ (.slice (some ⟨g, 0, none⟩) m cap)) C gw gd a p q B n ws ds (fun k => if k = r then X k ++ [v] else X k) (fun k => if k = r then .slice (some ⟨g, 0, none⟩) m cap else hv k) := by
  have hr : r < ws.length := (List.getElem?_eq_some_iff.1 hb).1
  have t := turned_grown hg
  have hT : ∀ y, y ∈ (hv r).ownBlock.toList → (hv r).ownBlock = some y ∧ w0.heap.size ≤ y ∧ ∃ c, w.heap[y]? = some (.cells c 2 (0, 0)) := fun y hy => by
    have h1 : (hv r).ownBlock = some y := by simpa using hy
    obtain ⟨h2, _, h3⟩ := ownsRow_lt (h.row r hr) y h1
    exact ⟨h1, Nat.le_trans h.lo.2.2.2.1 h2, h3⟩
  have key : ∀ (z : Nat) cc e fr, w.heap[z]? = some (.cells cc e fr) → e ≠ 2 → z ∉ (hv r).ownBlock.toList := by
    intro z cc e fr hz q1 hm
    obtain ⟨_, _, c, h1⟩ := hT z hm
    exact ne_of_type hz h1 q1 rfl
  obtain ⟨⟨cw, cd, g1⟩, _, ⟨c3, f3, g3⟩, ⟨c4, f4, g4⟩, _, _⟩ := h.cw
  have hC1 := h.cw.turned t (key C _ _ _ g1 (by decide)) (key gw _ _ _ g3 (by decide)) (key gd _ _ _ g4 (by decide))
  have hS1 := h.sh.turned t (key a _ _ _ h.sh.head (by decide)) (key p _ _ _ h.sh.mem.head (by decide)) (fun hm => h.nq r hr (hT q hm).1) (fun d hd => by
    obtain ⟨j, hj⟩ := List.getElem?_of_mem hd
    exact key d _ _ _ (h.sh.dq j d hj).head (by decide))
  have hW1 : ∀ (i b : Nat), ws[i]? = some b → WkR w' b (wkCells (hv i) none 0 none false) := fun i b hb => (h.wk i b hb).1.turned t (key b _ _ _ (h.wk i b hb).1 (by decide))
  have hR1 : ∀ i, i < ws.length → i ≠ r → w'.ownsRow B 2 1 (hv i) (X i).length ((X i).map (Value.int .i64)) := fun i hi hne => ownsRow_keep (h.row i hi) (fun y hy => t.block y (ownsRow_lt (h.row i hi) y hy).2.1 (fun hm => hne (h.ap i r y hi hr hy (hT y hm).1)))
  have hbr := hW1 r b hb
  have t2 : Turned [b] w' (w'.setCell ⟨b, 0, none⟩ (.slice (some ⟨g, 0, none⟩) m cap)) := (Turned.refl _ _).setCell (by simp) _
  have keyb : ∀ (z : Nat) cc e fr, w'.heap[z]? = some (.cells cc e fr) → e ≠ 44 → z ∉ [b] := by
    intro z cc e fr hz q1
    simp
    exact ne_of_type hz hbr q1
  have hlb := (h.wk r b hb).2
  refine ⟨(h.tu.trans_new t (fun y hy => .inr (hT y hy).2.1)).setCell (.inr hlb) _, hC1.turnedb hbr t2, hS1.turnedb hbr t2, fun i c hc => ⟨?_, (h.wk i c hc).2⟩, fun i hi => ?_, fun i j y hi hj h1 h2 => ?_, fun i hi hm => ?_, h.nd, h.lo.1, h.lo.2.1, h.lo.2.2.1, h.lo.2.2.2.1, Nat.le_trans h.lo.2.2.2.2 (Nat.le_trans t.size t2.size)⟩
  · by_cases hir : i = r
    · subst hir
      have : c = b := by rw [hb] at hc; exact (Option.some.inj hc).symm
      subst this
      simp only [if_true]
      exact hbr.set 0 _
    · simp only [hir, if_false]
      refine (hW1 i c hc).turned t2 (fun hm => ?_)
      simp at hm
      exact hir (h.nd i r c hc (by rw [hm]; exact hb))
  · by_cases hir : i = r
    · subst hir
      simp only [if_true, List.map_append, List.length_append, List.map_cons, List.map_nil, List.length_cons, List.length_nil, Nat.zero_add]
      rw [hm]
      exact ownsRow_keep hown (fun y hy => by
        obtain ⟨_, h1, c, h2⟩ := ownsRow_lt hown y hy
        exact t2.block y h1 (keyb y _ _ _ h2 (by decide)))
    · simp only [hir, if_false]
      exact ownsRow_keep (hR1 i hi hir) (fun y hy => by
        obtain ⟨_, h1, c, h2⟩ := ownsRow_lt (hR1 i hi hir) y hy
        exact t2.block y h1 (keyb y _ _ _ h2 (by decide)))
  · have aux : ∀ i, i < ws.length → i ≠ r → (hv i).ownBlock ≠ some g := fun i hi hne he => by
      rcases hat with hat | hat
      · exact hne (h.ap i r g hi hr he hat)
      · have := (ownsRow_lt (h.row i hi) g he).2.1
        omega
    by_cases hir : i = r <;> by_cases hjr : j = r
    · omega
    · simp only [hir, hjr, if_true, if_false, Value.ownBlock] at h1 h2
      simp at h1
      subst h1
      exact absurd h2 (aux j hj hjr)
    · simp only [hir, hjr, if_true, if_false, Value.ownBlock] at h1 h2
      simp at h2
      subst h2
      exact absurd h1 (aux i hi hir)
    · simp only [hir, hjr, if_false] at h1 h2
      exact h.ap i j y hi hj h1 h2
  · by_cases hir : i = r
    · simp only [hir, if_true, Value.ownBlock] at hm
      simp at hm
      rcases hat with hat | hat
      · exact h.nq r hr (by rw [hat, hm])
      · have : q < w.heap.size := lt_of_heap h.sh.mem.row
        omega
    · simp only [hir, if_false] at hm
      exact h.nq i hi hm
end
end Go.Proofs.Ytokabpgdklihlaa

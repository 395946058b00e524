/-
  Texts of the proof, several in one: MarkBase, MarkSmall, MarkCx, MarkTake, MarkOpen, MarkAsk, MarkKept, MarkDo, MarkMark, MarkAll.
-/
import Derived.Test.YtgbclfhgpkmcnaaGreatDoorPack31
import Derived.Test.YtgbclfhgpkmcnaaGreatDoorPack14
import Derived.Maps.AppendAt
import Derived.OwnWalk
import Derived.Deep.RegionHeld3
import Derived.Laws.EntriesVeiled
/-
  A worker of package mark in the model's heap ('Wm', its cells: 'WmR'), rows of its own ('Sl', 'Kp'). No Go is walked here.
-/
namespace Go.Proofs.YtgbclfhgpkmcnaaGreatDoor
open Go.RowKit
set_option linter.unusedVariables false

/-- A worker's next step. -/
inductive MStp
  | choose | mark | push | take | open_ | end_
deriving DecidableEq
def MStp.fn : MStp → Nat
  | .choose => 67
  | .mark => 79
  | .push => 91
  | .take => 77
  | .open_ => 88
  | .end_ => 83
def stpV (nx : MStp) (b : Nat) : Value := .func (.func nx.fn) #[.pointer (some ⟨b, 0, none⟩)] #[]

/-- A worker's cells. -/
def mwCells (nx : MStp) (b M gd nd cd : Nat) (hv kv : Value) (bl : Blk) (pv : Value) (asked : Int) (po : Option Addr) (item : Int) (pf : Option Addr) (seen : Int) (en : Bool) : Array Value :=
  #[stpV nx b, .pointer (some ⟨M, 0, none⟩), .slice (some ⟨gd, 0, none⟩) nd cd, hv, kv, .int .i64 bl.t, .int .i64 bl.k, .int .i64 bl.n, .int .i64 bl.s, pv, .int .i64 asked, .pointer po, .int .i64 item, .pointer pf, .int .i64 seen, .bool en]
def WmR (w : World) (b : Nat) (c : Array Value) : Prop := w.heap[b]? = some (.cells c 88)

section
variable {w w' : World} {b : Nat} {c : Array Value}
theorem WmR.f (h : WmR w b c) (i : Nat) : w.cell? ⟨b, i, none⟩ = c[i]? := cell_of_heap h i
theorem WmR.fz (h : WmR w b c) (i : Nat) : w.frozen? ⟨b, i, none⟩ = false := by unfold WmR at h; simp [World.frozen?, h]
theorem WmR.lt (h : WmR w b c) : b < w.heap.size := lt_of_heap h
theorem WmR.set (h : WmR w b c) (i : Nat) (v : Value) : WmR (w.setCell ⟨b, i, none⟩ v) b (c.setIfInBounds i v) := by
  unfold WmR at *
  exact heap_setCell_at _ _ _ _ _ _ h v
theorem WmR.turned (h : WmR w b c) {S : List Nat} (t : Turned S w w') (hb : b ∉ S) : WmR w' b c := t.at h hb
theorem WmR.drewN (h : WmR w b c) (m : Nat) : WmR (w.drewN m) b c := h
end

/-- A slice of integers of type e, with an offset: g its block, if it has one. -/
def Sl (e : TypeId) (w : World) (v : Value) (T : List Int) (g : List Nat) : Prop :=
  (v = .slice none 0 0 ∧ T = [] ∧ g = []) ∨ ∃ b off cap c, g = [b] ∧ v = .slice (some ⟨b, off, none⟩) T.length cap ∧ w.heap[b]? = some (.cells c e (0, 0)) ∧ T.length ≤ cap ∧ off + cap ≤ c.size ∧ ∀ (i : Nat) x, T[i]? = some x → w.cell? ⟨b, off + i, none⟩ = some (.int .i64 x)
theorem Sl.turned {e : TypeId} {w w' : World} {v : Value} {T : List Int} {g : List Nat} (h : Sl e w v T g) {S : List Nat} (t : Turned S w w') (hS : ∀ k, k ∈ g → k ∉ S) : Sl e w' v T g := by
  rcases h with h | ⟨b, off, cap, c, rfl, h1, h3, h4, h5, h6⟩
  · exact .inl h
  · have hg : b ∉ S := hS b (by simp)
    exact .inr ⟨b, off, cap, c, rfl, h1, t.at h3 hg, h4, h5, fun i x hx => by rw [t.cell (p := ⟨b, off + i, none⟩) (lt_of_heap h3) hg]; exact h6 i x hx⟩
theorem Sl.types {e : TypeId} {w : World} {v : Value} {T : List Int} {g : List Nat} (h : Sl e w v T g) : ∀ y, y ∈ g → ∃ c fr, w.heap[y]? = some (.cells c e fr) := by
  rcases h with ⟨_, _, rfl⟩ | ⟨b, off, cap, c, rfl, h1, h3, h4, h5, h6⟩
  · simp
  · intro y hy
    simp at hy
    subst hy
    exact ⟨_, _, h3⟩
theorem Sl.shape {e : TypeId} {w : World} {v : Value} {T : List Int} {g : List Nat} (h : Sl e w v T g) : ∃ ao cap, v = .slice ao T.length cap := by
  rcases h with ⟨rfl, rfl, _⟩ | ⟨b, off, cap, c, rfl, h1, _⟩
  · exact ⟨none, 0, rfl⟩
  · exact ⟨_, _, h1⟩
/-- The first one is taken. -/
theorem Sl.cons {e : TypeId} {w : World} {v : Value} {x : Int} {T : List Int} {g : List Nat} (h : Sl e w v (x :: T) g) : ∃ b off cap, g = [b] ∧ v = .slice (some ⟨b, off, none⟩) (T.length + 1) cap ∧ T.length + 1 ≤ cap ∧ w.cell? ⟨b, off, none⟩ = some (.int .i64 x) ∧ (∀ off', (off' = off + 1 ∨ (T.length = 0 ∧ cap = 1 ∧ off' = off)) → Sl e w (.slice (some ⟨b, off', none⟩) T.length (cap - 1)) T g) := by
  rcases h with ⟨_, h0, _⟩ | ⟨b, off, cap, c, rfl, h1, h3, h4, h5, h6⟩
  · cases h0
  · simp only [List.length_cons] at h1 h4
    refine ⟨b, off, cap, rfl, h1, h4, h6 0 x rfl, fun off' ho => .inr ⟨b, off', cap - 1, c, rfl, rfl, h3, by omega, by rcases ho with rfl | ⟨_, _, rfl⟩ <;> omega, fun i y hy => ?_⟩⟩
    rcases ho with rfl | ⟨hT, _, rfl⟩
    · rw [show off + 1 + i = off + (i + 1) by omega]
      exact h6 (i + 1) y (by simpa using hy)
    · have := (List.getElem?_eq_some_iff.1 hy).1
      omega
theorem Sl.new {e : TypeId} {w : World} {g : Nat} {c : Array Value} {T : List Int} (h : w.heap[g]? = some (.cells c e (0, 0))) (hs : c.size = T.length) (hc : ∀ (i : Nat) x, T[i]? = some x → c[i]? = some (.int .i64 x)) : Sl e w (.slice (some ⟨g, 0, none⟩) T.length T.length) T [g] :=
  .inr ⟨g, 0, T.length, c, rfl, rfl, h, Nat.le_refl _, by omega, fun i x hx => by rw [Nat.zero_add, cell_of_heap h]; exact hc i x hx⟩

/-- Blocks that are kept. -/
def Kp (w : World) (v : Value) (T : List Blk) : Prop := w.ownsRow 0 54 4 v T.length (flat T)
theorem Kp.turned {w w' : World} {v : Value} {T : List Blk} (h : Kp w v T) {S : List Nat} (t : Turned S w w') (hS : ∀ k, v.ownBlock = some k → k ∉ S) : Kp w' v T :=
  ownsRow_keep h (fun k hk => t.block k (ownsRow_lt h k hk).2.1 (hS k hk))
theorem Kp.types {w : World} {v : Value} {T : List Blk} (h : Kp w v T) : ∀ y, v.ownBlock = some y → ∃ c fr, w.heap[y]? = some (.cells c 54 fr) := fun y hy => by
  obtain ⟨_, _, c, hc⟩ := ownsRow_lt h y hy
  exact ⟨c, _, hc⟩

/-- What a worker does next, in its cells. -/
def ActB (w : World) (a : Nat) (ds : List Nat) (nx : MStp) (bl : Blk) (asked : Int) (po : Option Addr) (item : Int) (pf : Option Addr) (O : List Nat) : MAct → Prop
  | .choose => nx = .choose ∧ O = []
  | .mark b => nx = .mark ∧ bl = b ∧ O = []
  | .push b o => nx = .push ∧ bl = b ∧ ∃ ob d, po = some ⟨ob, 0, none⟩ ∧ ds[0]? = some d ∧ OpB w ob d o ∧ O = [ob]
  | .take k o => nx = .take ∧ asked = k ∧ ∃ ob d, po = some ⟨ob, 0, none⟩ ∧ ds[k]? = some d ∧ OpB w ob d o ∧ O = [ob]
  | .open_ v => nx = .open_ ∧ item = v ∧ O = []
  | .end_ o => nx = .end_ ∧ ∃ fb, pf = some ⟨fb, 0, none⟩ ∧ OfB w fb a ds o ∧ O = [fb]

/-- A worker: block b; M its marker, a the count, ds its deques; B what is its own beside it. -/
structure Wm (w : World) (b M a : Nat) (ds : List Nat) (x : MW) (B : List Nat) (gd cd : Nat) (hv kv pv : Value) (gh gp O : List Nat) (nx : MStp) (bl : Blk) (asked : Int) (po : Option Addr) (item : Int) (pf : Option Addr) : Prop where
  own : B = gh ++ (kv.ownBlock.toList ++ (gp ++ O))
  raw : WmR w b (mwCells nx b M gd ds.length cd hv kv bl pv asked po item pf x.seen x.ended)
  row : ∃ c fr, w.heap[gd]? = some (.cells c 120 fr)
  rows : ∀ (i d : Nat), ds[i]? = some d → w.cell? ⟨gd, i, none⟩ = some (.pointer (some ⟨d, 0, none⟩))
  hands : Sl 2 w hv x.hands gh
  kept : Kp w kv x.kept
  places : Sl 3 w pv x.places gp
  act : ActB w a ds nx bl asked po item pf O x.act
def WmX (w : World) (b M a : Nat) (ds : List Nat) (x : MW) (B : List Nat) : Prop := ∃ gd cd hv kv pv gh gp O nx bl asked po item pf, Wm w b M a ds x B gd cd hv kv pv gh gp O nx bl asked po item pf
end Go.Proofs.YtgbclfhgpkmcnaaGreatDoor

/-
  Small steps of a worker of package mark: fault, count, scan, ask.
-/
namespace Go.Proofs.YtgbclfhgpkmcnaaGreatDoor
open Go.RowKit
set_option linter.unusedVariables false

/-- The marker's cells. -/
def mkCells (ph len cap pb a gw n cw : Nat) (co : Option Addr) (roots fault : Int) : Array Value :=
  #[.iface 114 (mv ph co len cap), .pointer (some ⟨pb, 0, none⟩), .pointer (some ⟨a, 0, none⟩), .slice (some ⟨gw, 0, none⟩) n cw, .int .i64 roots, .int .i64 fault]
def MkR (w : World) (M : Nat) (c : Array Value) : Prop := w.heap[M]? = some (.cells c 83)
section
variable {w w' : World} {M b : Nat} {c cb : Array Value}
theorem MkR.f (h : MkR w M c) (i : Nat) : w.cell? ⟨M, i, none⟩ = c[i]? := cell_of_heap h i
theorem MkR.fz (h : MkR w M c) (i : Nat) : w.frozen? ⟨M, i, none⟩ = false := by unfold MkR at h; simp [World.frozen?, h]
theorem MkR.turned (h : MkR w M c) {S : List Nat} (t : Turned S w w') (hb : M ∉ S) : MkR w' M c := t.at h hb
theorem MkR.set (h : MkR w M c) (i : Nat) (v : Value) : MkR (w.setCell ⟨M, i, none⟩ v) M (c.setIfInBounds i v) := by
  unfold MkR at *
  exact heap_setCell_at _ _ _ _ _ _ h v
theorem MkR.ne (h : MkR w M c) (hb : WmR w b cb) : M ≠ b := ne_of_type h hb (by decide)
end

section
variable (w : World) (b M : Nat) (c cM : Array Value)

theorem fault_any (v5 : Value) (hb : WmR w b c) (hM : MkR w M cM) (h1 : c[1]? = some (.pointer (some ⟨M, 0, none⟩))) (h5 : cM[5]? = some v5) :
    Calls Tryz.prog 78 #[.pointer (some ⟨b, 0, none⟩)] w fun e w' => e = .returned (.tuple #[]) ∧ w' = w.setCell ⟨M, 5, none⟩ (.int .i64 13) := by
  have f1 : w.cell? ⟨b, 1, none⟩ = some (.pointer (some ⟨M, 0, none⟩)) := by rw [hb.f]; exact h1
  have f5 : w.cell? ⟨M, 5, none⟩ = some v5 := by rw [hM.f]; exact h5
  have z5 := hM.fz 5
  clear hb hM h1 h5
  go_enter Tryz.func78, Tryz.ntmps78
  go_wp2_with fail
  first | refine bodyPost_end (results_none rfl _ _ _) rfl ?_ | refine bodyPost_ret (results_none rfl _ _ _) rfl ?_
  exact ⟨rfl, rfl⟩

theorem count_none (ao : Option Addr) (cap : Nat) (seen : Int) (hs : 0 ≤ seen ∧ seen ≤ 1000000) (hb : WmR w b c) (h9 : c[9]? = some (.slice ao 0 cap)) (h14 : c[14]? = some (.int .i64 seen)) :
    Calls Tryz.prog 80 #[.pointer (some ⟨b, 0, none⟩)] w fun e w' => e = .returned (.tuple #[]) ∧ w' = w.setCell ⟨b, 14, none⟩ (.int .i64 (seen + 1)) := by
  have f9 : w.cell? ⟨b, 9, none⟩ = some (.slice ao 0 cap) := by rw [hb.f]; exact h9
  have f14 : w.cell? ⟨b, 14, none⟩ = some (.int .i64 seen) := by rw [hb.f]; exact h14
  have z := hb.fz 14
  have d1 : wrap64 (seen + 1) = seen + 1 := w64 _ (by omega)
  clear hb h9 h14
  go_enter Tryz.func80, Tryz.ntmps80
  go_wp2_with fail
  first | refine bodyPost_end (results_none rfl _ _ _) rfl ?_ | refine bodyPost_ret (results_none rfl _ _ _) rfl ?_
  exact ⟨rfl, rfl⟩
theorem count_some (ao : Option Addr) (n cap : Nat) (hn : 0 < n) (hb : WmR w b c) (h9 : c[9]? = some (.slice ao n cap)) :
    Calls Tryz.prog 80 #[.pointer (some ⟨b, 0, none⟩)] w fun e w' => e = .returned (.tuple #[]) ∧ w' = w := by
  have f9 : w.cell? ⟨b, 9, none⟩ = some (.slice ao n cap) := by rw [hb.f]; exact h9
  have e : ¬ ((n : Int) = 0) := by omega
  clear hb h9
  go_enter Tryz.func80, Tryz.ntmps80
  go_wp2_with fail
  first | refine bodyPost_end (results_none rfl _ _ _) rfl ?_ | refine bodyPost_ret (results_none rfl _ _ _) rfl ?_
  exact ⟨rfl, rfl⟩
/-- Both: one more where no place is left. -/
theorem count_any (ao : Option Addr) (n cap : Nat) (seen : Int) (hs : 0 ≤ seen ∧ seen ≤ 1000000) (hb : WmR w b c) (h9 : c[9]? = some (.slice ao n cap)) (h14 : c[14]? = some (.int .i64 seen)) :
    Calls Tryz.prog 80 #[.pointer (some ⟨b, 0, none⟩)] w fun e w' => e = .returned (.tuple #[]) ∧ WmR w' b (c.setIfInBounds 14 (.int .i64 (seen + if n = 0 then 1 else 0))) ∧ Turned [b] w w' := by
  by_cases hn : n = 0
  · subst hn
    refine (count_none w b c ao cap seen hs hb h9 h14).mono ?_
    rintro e w' ⟨rfl, rfl⟩
    exact ⟨rfl, hb.set 14 _, (Turned.refl _ _).setCell (by simp) _⟩
  · refine (count_some w b c ao n cap (by omega) hb h9).mono ?_
    rintro e w' ⟨rfl, rfl⟩
    refine ⟨rfl, ?_, Turned.refl _ _⟩
    rw [if_neg hn, Int.add_zero]
    have : c.setIfInBounds 14 (.int .i64 seen) = c := by
      apply Array.ext_getElem?
      intro i
      rw [Array.getElem?_setIfInBounds]
      by_cases hi : 14 = i
      · subst hi
        obtain ⟨h, e⟩ := Array.getElem?_eq_some_iff.1 h14
        simp [h, e]
      · simp [hi]
    rw [this]
    exact hb
end

theorem keep_own {w : World} {b : Nat} {c : Array Value} (hb : WmR w b c) {i j : Nat} (hij : i ≠ j) (v : Value) {u : Value} (h : w.cell? ⟨b, j, none⟩ = some u) : (w.setCell ⟨b, i, none⟩ v).cell? ⟨b, j, none⟩ = some u := by
  rw [(hb.set i v).f, Array.getElem?_setIfInBounds_ne hij, ← hb.f]; exact h
theorem keep_far {w : World} {b k i j : Nat} (hne : b ≠ k) (v : Value) {u : Value} (h : w.cell? ⟨k, j, none⟩ = some u) : (w.setCell ⟨b, i, none⟩ v).cell? ⟨k, j, none⟩ = some u := by
  rw [World.cell?_setCell_far _ _ _ _ (by exact hne)]; exact h

theorem method_places (ph len cap : Nat) (co : Option Addr) (w : World) : (method 320 114 (mv ph co len cap) "ballast/mark.places").run Tryz.prog w = .ok (182, mv ph co len cap) w := by kernel_rfl
theorem method_object (ph len cap : Nat) (co : Option Addr) (w : World) : (method 320 114 (mv ph co len cap) "ballast/mark.object").run Tryz.prog w = .ok (181, mv ph co len cap) w := by kernel_rfl
theorem method_ref (ph len cap : Nat) (co : Option Addr) (w : World) : (method 320 114 (mv ph co len cap) "ballast/mark.ref").run Tryz.prog w = .ok (183, mv ph co len cap) w := by kernel_rfl
theorem nil_object (ph len cap : Nat) (co : Option Addr) (w : World) : (nilAhead 320 114 (mv ph co len cap) "ballast/mark.object").run Tryz.prog w = .ok (some false) w := by kernel_rfl
theorem nil_ref (ph len cap : Nat) (co : Option Addr) (w : World) : (nilAhead 320 114 (mv ph co len cap) "ballast/mark.ref").run Tryz.prog w = .ok (some false) w := by kernel_rfl

section
variable (w : World) (b M ph qh len cap : Nat) (co : Option Addr) (c cM : Array Value) (P : MP)
set_option maxRecDepth 100000 in
set_option maxHeartbeats 2000000 in
/-- An object is begun with. -/
theorem scan_any (bl : Blk) (v9 : Value) (seen : Int) (hs : 0 ≤ seen ∧ seen ≤ 1000000) (hn : In64 bl.n) (ht : 0 ≤ bl.t ∧ bl.t ≤ 65536) (hc : CRow w co len P.cl) (hb : WmR w b c) (hM : MkR w M cM) (h1 : c[1]? = some (.pointer (some ⟨M, 0, none⟩))) (h9 : c[9]? = some v9) (h14 : c[14]? = some (.int .i64 seen)) (h0 : cM[0]? = some (.iface 114 (mv ph co len cap))) :
    Calls Tryz.prog 81 #[.pointer (some ⟨b, 0, none⟩), bl.val] w fun e w' => ∃ g c', e = .returned (.tuple #[]) ∧ w.heap.size ≤ g ∧ w'.heap[g]? = some (.cells c' 3 (0, 0)) ∧ c'.size = (P.places bl).length ∧ (∀ (i : Nat) x, (P.places bl)[i]? = some x → c'[i]? = some (.int .i64 x)) ∧ WmR w' b ((c.setIfInBounds 9 (.slice (some ⟨g, 0, none⟩) (P.places bl).length (P.places bl).length)).setIfInBounds 14 (.int .i64 (seen + oneIf (P.places bl)))) ∧ Turned [b] w w' := by
  obtain ⟨w0, hw0⟩ : ∃ w0, w0 = w.alloc (.cells #[.int .i64 bl.t, .int .i64 bl.k, .int .i64 bl.n, .int .i64 bl.s] 54) := ⟨_, rfl⟩
  have ht0 : Turned [] w w0 := by rw [hw0]; exact (Turned.refl [] w).alloc _
  have hr0 : w0.heap[w.heap.size]? = some (.cells #[.int .i64 bl.t, .int .i64 bl.k, .int .i64 bl.n, .int .i64 bl.s] 54) := by rw [hw0]; exact heap_alloc_new _ _
  have f1 : w0.cell? ⟨b, 1, none⟩ = some (.pointer (some ⟨M, 0, none⟩)) := by rw [(hb.turned ht0 (by simp)).f]; exact h1
  have f9 : w0.cell? ⟨b, 9, none⟩ = some v9 := by rw [(hb.turned ht0 (by simp)).f]; exact h9
  have z9 := (hb.turned ht0 (by simp)).fz 9
  have g0 : w0.cell? ⟨M, 0, none⟩ = some (.iface 114 (mv ph co len cap)) := by rw [(hM.turned ht0 (by simp)).f]; exact h0
  have r0 : w0.cell? ⟨w.heap.size, 0, none⟩ = some (.int .i64 bl.t) := by rw [cell_of_heap hr0]; rfl
  have r1 : w0.cell? ⟨w.heap.size, 1, none⟩ = some (.int .i64 bl.k) := by rw [cell_of_heap hr0]; rfl
  have r2 : w0.cell? ⟨w.heap.size, 2, none⟩ = some (.int .i64 bl.n) := by rw [cell_of_heap hr0]; rfl
  have r3 : w0.cell? ⟨w.heap.size, 3, none⟩ = some (.int .i64 bl.s) := by rw [cell_of_heap hr0]; rfl
  have HP := hide (fun w' (t : Turned [] w0 w') => places_any w' ph len cap co P bl hn ht ((hc.turned0 ht0).turned0 t))
  have HB := hide (hb.turned ht0 (by simp))
  have HM0 := hide (hM.turned ht0 (by simp))
  have HR := hide hr0
  have HT0 := hide ht0
  have HC := hide (And.intro h9 h14)
  have hm := method_places ph len cap co
  have HO : Hid ((if (P.places bl).length = 0 then (1 : Int) else 0) = oneIf (P.places bl)) := by
    unfold oneIf
    cases P.places bl <;> rfl
  generalize P.places bl = L at *
  generalize mv ph co len cap = V at *
  unfold Blk.val at *
  clear hc hb hM h1 h9 h14 h0 hr0 ht0 hn ht
  go_enter Tryz.func81, Tryz.ntmps81
  go_wp2_with fail
  rw [← hw0]
  clear hw0
  go_region_held3 (fun w' => w'.cell? ⟨b, 1, none⟩ = some (.pointer (some ⟨M, 0, none⟩)) ∧ w'.cell? ⟨M, 0, none⟩ = some (.iface 114 V) ∧ w'.cell? ⟨w.heap.size, 0, none⟩ = some (.int .i64 bl.t) ∧ w'.cell? ⟨w.heap.size, 1, none⟩ = some (.int .i64 bl.k) ∧ w'.cell? ⟨w.heap.size, 2, none⟩ = some (.int .i64 bl.n) ∧ w'.cell? ⟨w.heap.size, 3, none⟩ = some (.int .i64 bl.s)) (first | go_keep | (dsimp only; refine ⟨?_, ?_, ?_, ?_, ?_, ?_⟩ <;> first | go_keep | exact SB _))
    (first
      | (go_at_call 182; refine (HP.out _ (Turned.refl _ _).drew).mono ?_; rintro e w1 ⟨g, c1, rfl, q1, q2, q3, q4, q5⟩; have t01 := Turned.trans (Turned.drew (Turned.refl [] w0)) q5; have b1 := HB.out.turned t01 (by simp); have b2 := HM0.out.turned t01 (by simp); have y1 := t01.cell (p := ⟨b, 1, none⟩) (lt_of_heap HB.out) (by simp); have y2 := t01.cell (p := ⟨M, 0, none⟩) (lt_of_heap HM0.out) (by simp); have y9 := t01.cell (p := ⟨b, 9, none⟩) (lt_of_heap HB.out) (by simp); have yz := b1.fz 9; have x0 := t01.cell (p := ⟨w.heap.size, 0, none⟩) (lt_of_heap HR.out) (by simp); have x1 := t01.cell (p := ⟨w.heap.size, 1, none⟩) (lt_of_heap HR.out) (by simp); have x2 := t01.cell (p := ⟨w.heap.size, 2, none⟩) (lt_of_heap HR.out) (by simp); have x3 := t01.cell (p := ⟨w.heap.size, 3, none⟩) (lt_of_heap HR.out) (by simp); rw [f1] at y1; rw [g0] at y2; rw [f9] at y9; rw [r0] at x0; rw [r1] at x1; rw [r2] at x2; rw [r3] at x3; have nMb := Ne.symm (HM0.out.ne HB.out); have nrb : b ≠ w.heap.size := ne_of_type HB.out HR.out (by decide); have SB := (fun (v : Value) => keep_own b1 (i := 9) (j := 1) (by decide) v y1); have H1 := hide (And.intro q1 (And.intro q2 (And.intro q3 (And.intro q4 (And.intro t01 b1))))); clear q1 q2 q3 q4 q5 t01 b1 b2 HP f1 g0 f9 r0 r1 r2 r3 z9))
  obtain ⟨q1, q2, q3, q4, t01, b1⟩ := H1.out
  have hgb : g ≠ b := by
    have := HB.out.lt
    simp at q1
    omega
  have b2 := b1.set 9 (.slice (some ⟨g, 0, none⟩) L.length L.length)
  have t2 : Turned [b] w (w1.setCell ⟨b, 9, none⟩ (.slice (some ⟨g, 0, none⟩) L.length L.length)) := (((HT0.out.trans t01).mono (by simp)).setCell (by simp) _)
  have hg2 : (w1.setCell ⟨b, 9, none⟩ (.slice (some ⟨g, 0, none⟩) L.length L.length)).heap[g]? = some (.cells c1 3 (0, 0)) := by rw [Below.heap_setCell _ _ _ _ hgb]; exact q2
  have k9 : (c.setIfInBounds 9 (Value.slice (some ⟨g, 0, none⟩) L.length L.length))[9]? = some (.slice (some ⟨g, 0, none⟩) L.length L.length) := by
    have := (Array.getElem?_eq_some_iff.1 HC.out.1).1
    rw [Array.getElem?_setIfInBounds_self_of_lt this]
  have k14 : (c.setIfInBounds 9 (Value.slice (some ⟨g, 0, none⟩) L.length L.length))[14]? = some (.int .i64 seen) := by
    rw [Array.getElem?_setIfInBounds_ne (by decide)]; exact HC.out.2
  have HN := hide (count_any _ b _ (some ⟨g, 0, none⟩) L.length L.length seen hs b2 k9 k14)
  have H2 := hide (And.intro q1 (And.intro hg2 (And.intro q3 (And.intro q4 (And.intro t2 hgb)))))
  have HSz := hide (And.intro HT0.out.size (And.intro HB.out.lt (lt_of_heap hg2)))
  clear q1 q2 q3 q4 t01 b1 hgb b2 t2 hg2 k9 k14 H1 y1 y2 y9 yz x0 x1 x2 x3 nMb nrb SB HB HM0 HR HC hm
  generalize w1.setCell ⟨b, 9, none⟩ (.slice (some ⟨g, 0, none⟩) L.length L.length) = w2 at *
  go_wp2_with fail
  refine HN.out.mono ?_
  rintro e w3 ⟨rfl, b3, t3⟩
  have H3 := hide (And.intro b3 t3)
  clear b3 t3 HN
  go_wp2_with fail
  first | refine bodyPost_end (results_none rfl _ _ _) rfl ?_ | refine bodyPost_ret (results_none rfl _ _ _) rfl ?_
  obtain ⟨q1, q2, q3, q4, t2, hgb⟩ := H2.out
  obtain ⟨b3, t3⟩ := H3.out
  rw [HO.out] at b3
  refine ⟨g, c1, rfl, ?_, t3.at q2 (by simp; exact hgb), q3, q4, b3, t2.trans t3⟩
  have := HSz.out.1
  have h2 : w0.heap.size ≤ g := q1
  omega
end
end Go.Proofs.YtgbclfhgpkmcnaaGreatDoor

/-
  What a worker's step goes by ('Cx'), what it comes to ('Out'), and what stays where blocks of other types are turned ('Off'). No Go is walked here.
-/
namespace Go.Proofs.YtgbclfhgpkmcnaaGreatDoor
open Go.RowKit
set_option linter.unusedVariables false

/-- None of these blocks is of type e. -/
def Off (w : World) (T : List Nat) (e : TypeId) : Prop := ∀ y, y ∈ T → ∀ c fr, w.heap[y]? ≠ some (.cells c e fr)
section
variable {w w' : World} {T U : List Nat} {e e' : TypeId}
theorem Off.not (h : Off w T e) {y : Nat} {c : Array Value} {fr : Nat × Nat} (hy : w.heap[y]? = some (.cells c e fr)) : y ∉ T := fun hm => h y hm c fr hy
theorem Off.nil : Off w [] e := fun y hy => by cases hy
theorem Off.cons {y : Nat} {c : Array Value} {fr : Nat × Nat} (hy : w.heap[y]? = some (.cells c e' fr)) (he : e' ≠ e) (h : Off w T e) : Off w (y :: T) e := fun z hz c2 fr2 h2 => by
  rcases List.mem_cons.1 hz with rfl | hz
  · rw [hy] at h2
    cases h2
    exact he rfl
  · exact h z hz c2 fr2 h2
theorem Off.one {y : Nat} {c : Array Value} {fr : Nat × Nat} (hy : w.heap[y]? = some (.cells c e' fr)) (he : e' ≠ e) : Off w [y] e := Off.cons hy he Off.nil
theorem Off.app (h1 : Off w T e) (h2 : Off w U e) : Off w (T ++ U) e := fun z hz => by
  rcases List.mem_append.1 hz with h | h
  · exact h1 z h
  · exact h2 z h
theorem Off.mono (h : Off w T e) (hU : ∀ y, y ∈ U → y ∈ T) : Off w U e := fun z hz => h z (hU z hz)

theorem MkR.keep {M : Nat} {c : Array Value} (h : MkR w M c) (t : Turned T w w') (ho : Off w T 83) : MkR w' M c := t.at h (ho.not h)
theorem WmR.keep {b : Nat} {c : Array Value} (h : WmR w b c) (t : Turned T w w') (ho : Off w T 88) : WmR w' b c := t.at h (ho.not h)
theorem CRow.off {co : Option Addr} {len : Nat} {cs : List Cls} (h : CRow w co len cs) (t : Turned T w w') (ho : Off w T 94) : CRow w' co len cs :=
  h.turned t (fun b off spot e => by
    obtain ⟨c, fr, h1⟩ := h.row b off spot e
    exact ho.not h1)
theorem Bts.off {p q n : Nat} {F : Nat → Nat → Bool} (h : Bt.Bts w p q n F) (t : Turned T w w') (h1 : Off w T 76) (h2 : Off w T 99) (h0 : 0 ∉ T) : Bt.Bts w' p q n F := by
  obtain ⟨c, hc, _⟩ := h.row
  exact h.turned t (h1.not h.head) (h2.not hc) h0
theorem Sh.off {a p q : Nat} {ds : List Nat} {Q : QC} {l : List Int} {s : Int} (h : Sh w a p q ds Q l s) (t : Turned T w w') (h1 : Off w T 136) (h2 : Off w T 149) (hp : p ∉ T) (hq : q ∉ T) : Sh w' a p q ds Q l s :=
  h.turned t (h1.not h.head) hp hq (fun d hd => by
    obtain ⟨i, hi⟩ := List.getElem?_of_mem hd
    exact h2.not (h.dq i d hi).head)
theorem OpB.off {b d : Nat} {o : OpS} (h : OpB w b d o) (t : Turned T w w') (hb : b ∉ T) : OpB w' b d o := h.turned t hb
theorem OfB.off {b a : Nat} {ds : List Nat} {o : OfS} (h : OfB w b a ds o) (t : Turned T w w') (hb : b ∉ T) (ho : Off w T 120) : OfB w' b a ds o :=
  h.turned t hb (fun k hk c fr => ho k hk c fr)
end

/-- Where a marker's parts lie. -/
structure Ids where
  M : Nat
  ph : Nat
  qh : Nat
  len : Nat
  cap : Nat
  co : Option Addr
  pb : Nat
  qb : Nat
  a : Nat
  gw : Nat
  n : Nat
  cw : Nat
  p : Nat
  q : Nat
  roots : Int
def Ids.cells (I : Ids) (fault : Int) : Array Value := mkCells I.ph I.len I.cap I.pb I.a I.gw I.n I.cw I.co I.roots fault
/-- What a step of worker b may turn. -/
def Ids.all (I : Ids) (b : Nat) (B : List Nat) : List Nat := I.M :: I.ph :: I.qh :: I.qb :: I.p :: I.q :: b :: B

structure Cx (P : MP) (I : Ids) (k : Nat) (ds : List Nat) (w : World) (S : MS) (b : Nat) (B : List Nat) : Prop where
  mkr : MkR w I.M (I.cells S.fault)
  hm : Mem w I.ph I.qh P.hw S.hs
  hl : P.hw.length ≤ 65536
  cl : CRow w I.co I.len P.cl
  bt : Bt.Bts w I.pb I.qb P.hw.length (Bt.sidesOf S.sz)
  bl : Bt.Bl P.hw.length S.sz
  sh : Sh w I.a I.p I.q ds (P.Q k) S.l S.cs
  ap : I.ph ≠ I.p ∧ I.qh ≠ I.q ∧ I.qh ∉ B ∧ I.q ∉ B
  nz : 0 ∉ I.all b B
  ne : 0 < ds.length ∧ ds.length = P.n ∧ P.n ≤ 4

/-- What is a worker's own is of these types. -/
theorem Wm.types {w : World} {b M a : Nat} {ds : List Nat} {x : MW} {B : List Nat} {gd cd : Nat} {hv kv pv : Value} {gh gp O : List Nat} {nx : MStp} {bl : Blk} {asked : Int} {po : Option Addr} {item : Int} {pf : Option Addr}
    (h : Wm w b M a ds x B gd cd hv kv pv gh gp O nx bl asked po item pf) : ∀ y, y ∈ B → ∃ c e fr, w.heap[y]? = some (.cells c e fr) ∧ (e = 2 ∨ e = 54 ∨ e = 3 ∨ e = 170 ∨ e = 166) := by
  intro y hy
  rw [h.own] at hy
  simp only [List.mem_append, Option.mem_toList] at hy
  rcases hy with hy | hy | hy | hy
  · obtain ⟨c, fr, h1⟩ := h.hands.types y hy
    exact ⟨c, _, fr, h1, .inl rfl⟩
  · obtain ⟨c, fr, h1⟩ := h.kept.types y hy
    exact ⟨c, _, fr, h1, .inr (.inl rfl)⟩
  · obtain ⟨c, fr, h1⟩ := h.places.types y hy
    exact ⟨c, _, fr, h1, .inr (.inr (.inl rfl))⟩
  · have ha := h.act
    cases hx : x.act <;> rw [hx] at ha
    · rw [ha.2] at hy; cases hy
    · rw [ha.2.2] at hy; cases hy
    · obtain ⟨_, _, ob, d, _, _, h1, rfl⟩ := ha
      simp at hy; subst hy
      exact ⟨_, _, _, h1, .inr (.inr (.inr (.inl rfl)))⟩
    · obtain ⟨_, _, ob, d, _, _, h1, rfl⟩ := ha
      simp at hy; subst hy
      exact ⟨_, _, _, h1, .inr (.inr (.inr (.inl rfl)))⟩
    · rw [ha.2.2] at hy; cases hy
    · obtain ⟨_, fb, _, h1, rfl⟩ := ha
      simp at hy; subst hy
      obtain ⟨c, hc⟩ := h1.type
      exact ⟨_, _, _, hc, .inr (.inr (.inr (.inr rfl)))⟩
theorem WmX.types {w : World} {b M a : Nat} {ds : List Nat} {x : MW} {B : List Nat} (h : WmX w b M a ds x B) : ∀ y, y ∈ B → ∃ c e fr, w.heap[y]? = some (.cells c e fr) ∧ (e = 2 ∨ e = 54 ∨ e = 3 ∨ e = 170 ∨ e = 166) := by
  obtain ⟨gd, cd, hv, kv, pv, gh, gp, O, nx, bl, asked, po, item, pf, h⟩ := h
  exact h.types
/-- A worker stays where none of what is its own is turned. -/
theorem Wm.keep {w w' : World} {b M a : Nat} {ds : List Nat} {x : MW} {B : List Nat} {gd cd : Nat} {hv kv pv : Value} {gh gp O : List Nat} {nx : MStp} {bl : Blk} {asked : Int} {po : Option Addr} {item : Int} {pf : Option Addr}
    (h : Wm w b M a ds x B gd cd hv kv pv gh gp O nx bl asked po item pf) {T : List Nat} (t : Turned T w w') (hb : b ∉ T) (hB : ∀ y, y ∈ B → y ∉ T) (ho : Off w T 120) : Wm w' b M a ds x B gd cd hv kv pv gh gp O nx bl asked po item pf := by
  have hin : ∀ y, (y ∈ gh ∨ kv.ownBlock = some y ∨ y ∈ gp ∨ y ∈ O) → y ∉ T := fun y hy => hB y (by rw [h.own]; simp only [List.mem_append, Option.mem_toList]; exact hy)
  obtain ⟨c, fr, hr⟩ := h.row
  have hgd := ho.not hr
  refine ⟨h.own, h.raw.turned t hb, ⟨c, fr, t.at hr hgd⟩, fun i d hi => by rw [t.cell (p := ⟨gd, i, none⟩) (lt_of_heap hr) hgd]; exact h.rows i d hi, h.hands.turned t (fun y hy => hin y (.inl hy)), h.kept.turned t (fun y hy => hin y (.inr (.inl hy))), h.places.turned t (fun y hy => hin y (.inr (.inr (.inl hy)))), ?_⟩
  have ha := h.act
  cases hx : x.act <;> rw [hx] at ha
  · exact ha
  · exact ha
  · obtain ⟨h1, h2, ob, d, h3, h4, h5, rfl⟩ := ha
    exact ⟨h1, h2, ob, d, h3, h4, h5.turned t (hin ob (.inr (.inr (.inr (by simp))))), rfl⟩
  · obtain ⟨h1, h2, ob, d, h3, h4, h5, rfl⟩ := ha
    exact ⟨h1, h2, ob, d, h3, h4, h5.turned t (hin ob (.inr (.inr (.inr (by simp))))), rfl⟩
  · exact ha
  · obtain ⟨h1, fb, h3, h5, rfl⟩ := ha
    exact ⟨h1, fb, h3, h5.off t (hin fb (.inr (.inr (.inr (by simp))))) ho, rfl⟩
/-- The parts beside its own cells. -/
theorem Wm.parts {w w' : World} {b M a : Nat} {ds : List Nat} {x : MW} {B : List Nat} {gd cd : Nat} {hv kv pv : Value} {gh gp O : List Nat} {nx : MStp} {bl : Blk} {asked : Int} {po : Option Addr} {item : Int} {pf : Option Addr}
    (h : Wm w b M a ds x B gd cd hv kv pv gh gp O nx bl asked po item pf) {T : List Nat} (t : Turned T w w') (hB : ∀ y, y ∈ B → y ∉ T) (ho : Off w T 120) :
    (∃ c fr, w'.heap[gd]? = some (.cells c 120 fr)) ∧ (∀ (i d : Nat), ds[i]? = some d → w'.cell? ⟨gd, i, none⟩ = some (.pointer (some ⟨d, 0, none⟩))) ∧ Sl 2 w' hv x.hands gh ∧ Kp w' kv x.kept ∧ Sl 3 w' pv x.places gp ∧ ActB w' a ds nx bl asked po item pf O x.act := by
  have hin : ∀ y, (y ∈ gh ∨ kv.ownBlock = some y ∨ y ∈ gp ∨ y ∈ O) → y ∉ T := fun y hy => hB y (by rw [h.own]; simp only [List.mem_append, Option.mem_toList]; exact hy)
  obtain ⟨c, fr, hr⟩ := h.row
  have hgd := ho.not hr
  refine ⟨⟨c, fr, t.at hr hgd⟩, fun i d hi => by rw [t.cell (p := ⟨gd, i, none⟩) (lt_of_heap hr) hgd]; exact h.rows i d hi, h.hands.turned t (fun y hy => hin y (.inl hy)), h.kept.turned t (fun y hy => hin y (.inr (.inl hy))), h.places.turned t (fun y hy => hin y (.inr (.inr (.inl hy)))), ?_⟩
  have ha := h.act
  cases hx : x.act <;> rw [hx] at ha
  · exact ha
  · exact ha
  · obtain ⟨h1, h2, ob, d, h3, h4, h5, rfl⟩ := ha
    exact ⟨h1, h2, ob, d, h3, h4, h5.turned t (hin ob (.inr (.inr (.inr (by simp))))), rfl⟩
  · obtain ⟨h1, h2, ob, d, h3, h4, h5, rfl⟩ := ha
    exact ⟨h1, h2, ob, d, h3, h4, h5.turned t (hin ob (.inr (.inr (.inr (by simp))))), rfl⟩
  · exact ha
  · obtain ⟨h1, fb, h3, h5, rfl⟩ := ha
    exact ⟨h1, fb, h3, h5.off t (hin fb (.inr (.inr (.inr (by simp))))) ho, rfl⟩
/-- Blocks of other types than its own, and not of int64, are none of its own. -/
theorem Wm.apart {w : World} {b M a : Nat} {ds : List Nat} {x : MW} {B : List Nat} {gd cd : Nat} {hv kv pv : Value} {gh gp O : List Nat} {nx : MStp} {bl : Blk} {asked : Int} {po : Option Addr} {item : Int} {pf : Option Addr}
    (h : Wm w b M a ds x B gd cd hv kv pv gh gp O nx bl asked po item pf) {T : List Nat} (h1 : Off w T 2) (h2 : Off w T 54) (h3 : Off w T 3) (h4 : Off w T 170) (h5 : Off w T 166) : ∀ y, y ∈ B → y ∉ T := by
  intro y hy
  obtain ⟨c, e, fr, g1, g2⟩ := h.types y hy
  rcases g2 with rfl | rfl | rfl | rfl | rfl
  · exact h1.not g1
  · exact h2.not g1
  · exact h3.not g1
  · exact h4.not g1
  · exact h5.not g1
theorem Wm.partsb {w w' : World} {b M a : Nat} {ds : List Nat} {x : MW} {B : List Nat} {gd cd : Nat} {hv kv pv : Value} {gh gp O : List Nat} {nx : MStp} {bl : Blk} {asked : Int} {po : Option Addr} {item : Int} {pf : Option Addr}
    (h : Wm w b M a ds x B gd cd hv kv pv gh gp O nx bl asked po item pf) (t : Turned [b] w w') :
    (∃ c fr, w'.heap[gd]? = some (.cells c 120 fr)) ∧ (∀ (i d : Nat), ds[i]? = some d → w'.cell? ⟨gd, i, none⟩ = some (.pointer (some ⟨d, 0, none⟩))) ∧ Sl 2 w' hv x.hands gh ∧ Kp w' kv x.kept ∧ Sl 3 w' pv x.places gp ∧ ActB w' a ds nx bl asked po item pf O x.act :=
  h.parts t (h.apart (Off.one h.raw (by decide)) (Off.one h.raw (by decide)) (Off.one h.raw (by decide)) (Off.one h.raw (by decide)) (Off.one h.raw (by decide))) (Off.one h.raw (by decide))
theorem WmX.keep {w w' : World} {b M a : Nat} {ds : List Nat} {x : MW} {B : List Nat} (h : WmX w b M a ds x B) {T : List Nat} (t : Turned T w w') (hb : b ∉ T) (hB : ∀ y, y ∈ B → y ∉ T) (ho : Off w T 120) : WmX w' b M a ds x B := by
  obtain ⟨gd, cd, hv, kv, pv, gh, gp, O, nx, bl, asked, po, item, pf, h⟩ := h
  exact ⟨gd, cd, hv, kv, pv, gh, gp, O, nx, bl, asked, po, item, pf, h.keep t hb hB ho⟩

section
variable {P : MP} {I : Ids} {k : Nat} {ds : List Nat} {w w' : World} {S : MS} {b : Nat} {B T : List Nat} {e : TypeId}
/-- The parts and their types. -/
theorem Cx.tM (h : Cx P I k ds w S b B) : ∃ c fr, w.heap[I.M]? = some (.cells c 83 fr) := ⟨_, _, h.mkr⟩
/-- The marker, the count and all else stay where a worker alone is turned. -/
theorem Cx.keep (h : Cx P I k ds w S b B) (t : Turned T w w') (o1 : Off w T 83) (o2 : Off w T 94) (o3 : Off w T 76) (o4 : Off w T 99) (o5 : Off w T 136) (o6 : Off w T 149) (o7 : Off w T 109) (h0 : 0 ∉ T) (hq : I.qh ∉ T ∧ I.q ∉ T) : Cx P I k ds w' S b B :=
  ⟨h.mkr.keep t o1, h.hm.turned t (o7.not h.hm.head) hq.1, h.hl, h.cl.off t o2, Bts.off h.bt t o3 o4 h0, h.bl, h.sh.off t o5 o6 (o7.not h.sh.mem.head) hq.2, h.ap, h.nz, h.ne⟩
/-- What is its own has changed. -/
theorem Cx.own' (h : Cx P I k ds w S b B) {B' : List Nat} (hB : ∀ y, y ∈ B' → y ∈ B ∨ (y ≠ I.qh ∧ y ≠ I.q ∧ y ≠ 0)) : Cx P I k ds w S b B' := by
  have nz := h.nz
  refine ⟨h.mkr, h.hm, h.hl, h.cl, h.bt, h.bl, h.sh, ⟨h.ap.1, h.ap.2.1, fun hm => ?_, fun hm => ?_⟩, fun hm => ?_, h.ne⟩
  · rcases hB _ hm with g | g
    · exact h.ap.2.2.1 g
    · exact g.1 rfl
  · rcases hB _ hm with g | g
    · exact h.ap.2.2.2 g
    · exact g.2.1 rfl
  · unfold Ids.all at hm nz
    simp only [List.mem_cons] at hm nz
    rcases hm with g | g | g | g | g | g | g | g
    · exact nz (.inl g)
    · exact nz (.inr (.inl g))
    · exact nz (.inr (.inr (.inl g)))
    · exact nz (.inr (.inr (.inr (.inl g))))
    · exact nz (.inr (.inr (.inr (.inr (.inl g)))))
    · exact nz (.inr (.inr (.inr (.inr (.inr (.inl g))))))
    · exact nz (.inr (.inr (.inr (.inr (.inr (.inr (.inl g)))))))
    · rcases hB _ g with q | q
      · exact nz (.inr (.inr (.inr (.inr (.inr (.inr (.inr q)))))))
      · exact q.2.2 rfl
theorem Cx.own (h : Cx P I k ds w S b B) {B' : List Nat} (hB : ∀ y, y ∈ B' → y ∈ B ∨ w.heap.size ≤ y) : Cx P I k ds w S b B' := by
  have l1 := h.hm.ltq
  have l2 := h.sh.mem.ltq
  refine h.own' (fun y hy => ?_)
  rcases hB y hy with g | g
  · exact .inl g
  · exact .inr ⟨by omega, by omega, by omega⟩
theorem Cx.zb (h : Cx P I k ds w S b B) : b ≠ 0 := fun e => h.nz (by unfold Ids.all; simp [e])
theorem Cx.zB (h : Cx P I k ds w S b B) {y : Nat} (hy : y ∈ B) : y ≠ 0 := fun e => h.nz (by unfold Ids.all; subst e; simp [hy])
/-- A worker's block alone. -/
theorem Cx.keepb {c : Array Value} (h : Cx P I k ds w S b B) (hb : WmR w b c) (t : Turned [b] w w') : Cx P I k ds w' S b B := by
  refine h.keep t (Off.one hb (by decide)) (Off.one hb (by decide)) (Off.one hb (by decide)) (Off.one hb (by decide)) (Off.one hb (by decide)) (Off.one hb (by decide)) (Off.one hb (by decide)) ?_ ⟨?_, ?_⟩
  · simp; exact Ne.symm h.zb
  · simp; exact ne_of_type h.hm.row hb (by decide)
  · simp; exact ne_of_type h.sh.mem.row hb (by decide)
/-- Nothing is turned. -/
theorem Cx.keep0 (h : Cx P I k ds w S b B) (t : Turned [] w w') : Cx P I k ds w' S b B := h.keep t Off.nil Off.nil Off.nil Off.nil Off.nil Off.nil Off.nil (by simp) (by simp)
/-- The heap was read. -/
theorem Cx.read (h : Cx P I k ds w S b B) (t : Turned [I.ph, I.qh] w w') {s : Int} (m : Mem w' I.ph I.qh P.hw s) : Cx P I k ds w' { S with hs := s } b B := by
  have o : ∀ e, 109 ≠ e → 2 ≠ e → Off w [I.ph, I.qh] e := fun e h1 h2 => Off.cons h.hm.head h1 (Off.one h.hm.row h2)
  refine ⟨h.mkr.keep t (o _ (by decide) (by decide)), m, h.hl, h.cl.off t (o _ (by decide) (by decide)), Bts.off h.bt t (o _ (by decide) (by decide)) (o _ (by decide) (by decide)) ?_, h.bl, h.sh.off t (o _ (by decide) (by decide)) (o _ (by decide) (by decide)) ?_ ?_, h.ap, h.nz, h.ne⟩
  · have := h.nz
    unfold Ids.all at this
    simp at this ⊢
    exact ⟨this.2.1, this.2.2.1⟩
  · simp
    exact ⟨Ne.symm h.ap.1, ne_of_type h.sh.mem.head h.hm.row (by decide)⟩
  · simp
    exact ⟨ne_of_type h.sh.mem.row h.hm.head (by decide), Ne.symm h.ap.2.1⟩
/-- A fault. -/
theorem Cx.faulted (h : Cx P I k ds w S b B) : Cx P I k ds (w.setCell ⟨I.M, 5, none⟩ (.int .i64 13)) { S with fault := 13 } b B := by
  have t : Turned [I.M] w (w.setCell ⟨I.M, 5, none⟩ (.int .i64 13)) := (Turned.refl _ _).setCell (by simp) _
  have o : ∀ e, 83 ≠ e → Off w [I.M] e := fun e h1 => Off.one h.mkr h1
  have nz := h.nz
  refine ⟨h.mkr.set 5 _, h.hm.turned t ((o _ (by decide)).not h.hm.head) ((o _ (by decide)).not h.hm.row), h.hl, h.cl.off t (o _ (by decide)), Bts.off h.bt t (o _ (by decide)) (o _ (by decide)) ?_, h.bl, h.sh.off t (o _ (by decide)) (o _ (by decide)) ((o _ (by decide)).not h.sh.mem.head) ((o _ (by decide)).not h.sh.mem.row), h.ap, h.nz, h.ne⟩
  unfold Ids.all at nz
  simp at nz ⊢
  exact nz.1
/-- Behind a step of an operation (ob its block) or of an offer. -/
theorem Cx.stepped (h : Cx P I k ds w S b B) {ob : Nat} (hob : ob ∈ B) {c : Array Value} {eo : TypeId} {fr : Nat × Nat} (ho : w.heap[ob]? = some (.cells c eo fr)) (he : eo = 170 ∨ eo = 166) (t : Turned [I.p, I.q, ob] w w') {l' : List Int} {s' : Int} (s : Sh w' I.a I.p I.q ds (P.Q k) l' s') : Cx P I k ds w' { S with l := l', cs := s' } b B := by
  have o : ∀ e, 109 ≠ e → 2 ≠ e → 170 ≠ e → 166 ≠ e → Off w [I.p, I.q, ob] e := fun e h1 h2 h3 h4 => Off.cons h.sh.mem.head h1 (Off.cons h.sh.mem.row h2 (Off.one ho (by rcases he with rfl | rfl <;> assumption)))
  have nz := h.nz
  refine ⟨h.mkr.keep t (o _ (by decide) (by decide) (by decide) (by decide)), h.hm.turned t ?_ ?_, h.hl, h.cl.off t (o _ (by decide) (by decide) (by decide) (by decide)), Bts.off h.bt t (o _ (by decide) (by decide) (by decide) (by decide)) (o _ (by decide) (by decide) (by decide) (by decide)) ?_, h.bl, s, h.ap, h.nz, h.ne⟩
  · simp
    refine ⟨h.ap.1, ne_of_type h.hm.head h.sh.mem.row (by decide), ne_of_type h.hm.head ho ?_⟩
    rcases he with rfl | rfl <;> decide
  · simp
    refine ⟨ne_of_type h.hm.row h.sh.mem.head (by decide), h.ap.2.1, ne_of_type h.hm.row ho ?_⟩
    rcases he with rfl | rfl <;> decide
  · unfold Ids.all at nz
    simp at nz ⊢
    exact ⟨nz.2.2.2.2.1, nz.2.2.2.2.2.1, fun e => h.zB hob e.symm⟩
/-- A block was marked. -/
theorem Cx.marked (h : Cx P I k ds w S b B) (t : Turned [I.qb] w w') {z : Nat → Nat} (hz : Bt.Bts w' I.pb I.qb P.hw.length (Bt.sidesOf z)) (hb : Bt.Bl P.hw.length z) : Cx P I k ds w' { S with sz := z } b B := by
  obtain ⟨c, hc, _⟩ := h.bt.row
  have o : ∀ e, 99 ≠ e → Off w [I.qb] e := fun e h1 => Off.one hc h1
  exact ⟨h.mkr.keep t (o _ (by decide)), h.hm.turned t ((o _ (by decide)).not h.hm.head) ((o _ (by decide)).not h.hm.row), h.hl, h.cl.off t (o _ (by decide)), hz, hb, h.sh.off t (o _ (by decide)) (o _ (by decide)) ((o _ (by decide)).not h.sh.mem.head) ((o _ (by decide)).not h.sh.mem.row), h.ap, h.nz, h.ne⟩
theorem Cx.same (h : Cx P I k ds w S b B) {S' : MS} (h1 : S'.l = S.l) (h2 : S'.sz = S.sz) (h3 : S'.fault = S.fault) (h4 : S'.hs = S.hs) (h5 : S'.cs = S.cs) : Cx P I k ds w S' b B :=
  ⟨by rw [h3]; exact h.mkr, by rw [h4]; exact h.hm, h.hl, h.cl, by rw [h2]; exact h.bt, by rw [h2]; exact h.bl, by rw [h1, h5]; exact h.sh, h.ap, h.nz, h.ne⟩
end

section
variable {P : MP} {I : Ids} {k : Nat} {ds : List Nat} {w w' : World} {S : MS} {b : Nat} {B : List Nat} {x : MW} {gd cd : Nat} {hv kv pv : Value} {gh gp O : List Nat} {nx : MStp} {bl : Blk} {asked : Int} {po : Option Addr} {item : Int} {pf : Option Addr}
theorem Wm.keep0 (h : Wm w b I.M I.a ds x B gd cd hv kv pv gh gp O nx bl asked po item pf) (t : Turned [] w w') : Wm w' b I.M I.a ds x B gd cd hv kv pv gh gp O nx bl asked po item pf := h.keep t (by simp) (by simp) Off.nil
/-- The heap was read. -/
theorem Cx.readW (c : Cx P I k ds w S b B) (h : Wm w b I.M I.a ds x B gd cd hv kv pv gh gp O nx bl asked po item pf) (t : Turned [I.ph, I.qh] w w') : Wm w' b I.M I.a ds x B gd cd hv kv pv gh gp O nx bl asked po item pf := by
  refine h.keep t ?_ (fun y hy => ?_) (Off.cons c.hm.head (by decide) (Off.one c.hm.row (by decide)))
  · simp
    exact ⟨ne_of_type h.raw c.hm.head (by decide), ne_of_type h.raw c.hm.row (by decide)⟩
  · obtain ⟨cc, e, fr, g1, g2⟩ := h.types y hy
    simp
    refine ⟨ne_of_type g1 c.hm.head ?_, fun e => c.ap.2.2.1 (e ▸ hy)⟩
    rcases g2 with rfl | rfl | rfl | rfl | rfl <;> decide
theorem Cx.faultW (c : Cx P I k ds w S b B) (h : Wm w b I.M I.a ds x B gd cd hv kv pv gh gp O nx bl asked po item pf) : Wm (w.setCell ⟨I.M, 5, none⟩ (.int .i64 13)) b I.M I.a ds x B gd cd hv kv pv gh gp O nx bl asked po item pf := by
  have t : Turned [I.M] w (w.setCell ⟨I.M, 5, none⟩ (.int .i64 13)) := (Turned.refl _ _).setCell (by simp) _
  have o : ∀ e, 83 ≠ e → Off w [I.M] e := fun e h1 => Off.one c.mkr h1
  exact h.keep t ((o _ (by decide)).not h.raw) (h.apart (o _ (by decide)) (o _ (by decide)) (o _ (by decide)) (o _ (by decide)) (o _ (by decide))) (o _ (by decide))
theorem Cx.markW (c : Cx P I k ds w S b B) (h : Wm w b I.M I.a ds x B gd cd hv kv pv gh gp O nx bl asked po item pf) (t : Turned [I.qb] w w') : Wm w' b I.M I.a ds x B gd cd hv kv pv gh gp O nx bl asked po item pf := by
  obtain ⟨cc, hc, _⟩ := c.bt.row
  have o : ∀ e, 99 ≠ e → Off w [I.qb] e := fun e h1 => Off.one hc h1
  exact h.keep t ((o _ (by decide)).not h.raw) (h.apart (o _ (by decide)) (o _ (by decide)) (o _ (by decide)) (o _ (by decide)) (o _ (by decide))) (o _ (by decide))
theorem Cx.fault5 (c : Cx P I k ds w S b B) : (I.cells S.fault)[5]? = some (.int .i64 S.fault) := rfl
theorem Cx.iface (c : Cx P I k ds w S b B) : w.cell? ⟨I.M, 0, none⟩ = some (.iface 114 (mv I.ph I.co I.len I.cap)) := by rw [c.mkr.f]; rfl
end

section
variable {P : MP} {I : Ids} {k : Nat} {ds : List Nat} {w w' : World} {S : MS} {b : Nat} {B : List Nat} {x : MW} {gd cd : Nat} {hv kv pv : Value} {gh gp O : List Nat} {nx : MStp} {bl : Blk} {asked : Int} {po : Option Addr} {item : Int} {pf : Option Addr}
theorem Wm.offH (h : Wm w b I.M I.a ds x B gd cd hv kv pv gh gp O nx bl asked po item pf) {e : TypeId} (he : 2 ≠ e) : Off w gh e := fun z hz c fr g => by
  obtain ⟨c2, fr2, g2⟩ := h.hands.types z hz
  rw [g2] at g
  cases g
  exact he rfl
/-- The block of what is in hands was written to. -/
theorem Cx.keepH (c : Cx P I k ds w S b B) (h : Wm w b I.M I.a ds x B gd cd hv kv pv gh gp O nx bl asked po item pf) (t : Turned gh w w') : Cx P I k ds w' S b B := by
  have hB : ∀ y, y ∈ gh → y ∈ B := fun y hy => by rw [h.own]; simp [hy]
  exact c.keep t (h.offH (by decide)) (h.offH (by decide)) (h.offH (by decide)) (h.offH (by decide)) (h.offH (by decide)) (h.offH (by decide)) (h.offH (by decide)) (fun h0 => c.zB (hB 0 h0) rfl) ⟨fun hm => c.ap.2.2.1 (hB _ hm), fun hm => c.ap.2.2.2 (hB _ hm)⟩
theorem Wm.partsH (h : Wm w b I.M I.a ds x B gd cd hv kv pv gh gp O nx bl asked po item pf) (t : Turned gh w w') :
    (∃ c fr, w'.heap[gd]? = some (.cells c 120 fr)) ∧ (∀ (i d : Nat), ds[i]? = some d → w'.cell? ⟨gd, i, none⟩ = some (.pointer (some ⟨d, 0, none⟩))) ∧ WmR w' b (mwCells nx b I.M gd ds.length cd hv kv bl pv asked po item pf x.seen x.ended) ∧ Kp w' kv x.kept ∧ Sl 3 w' pv x.places gp ∧ ActB w' I.a ds nx bl asked po item pf O x.act := by
  obtain ⟨c, fr, hr⟩ := h.row
  have hgd := (h.offH (e := 120) (by decide)).not hr
  refine ⟨⟨c, fr, t.at hr hgd⟩, fun i d hi => by rw [t.cell (p := ⟨gd, i, none⟩) (lt_of_heap hr) hgd]; exact h.rows i d hi, h.raw.turned t ((h.offH (by decide)).not h.raw), h.kept.turned t (fun y hy => ?_), h.places.turned t (fun y hy => ?_), ?_⟩
  · obtain ⟨c2, fr2, g2⟩ := h.kept.types y hy
    exact (h.offH (by decide)).not g2
  · obtain ⟨c2, fr2, g2⟩ := h.places.types y hy
    exact (h.offH (by decide)).not g2
  · have ha := h.act
    cases hx : x.act <;> rw [hx] at ha
    · exact ha
    · exact ha
    · obtain ⟨h1, h2, ob, d, h3, h4, h5, rfl⟩ := ha
      exact ⟨h1, h2, ob, d, h3, h4, h5.turned t ((h.offH (by decide)).not h5), rfl⟩
    · obtain ⟨h1, h2, ob, d, h3, h4, h5, rfl⟩ := ha
      exact ⟨h1, h2, ob, d, h3, h4, h5.turned t ((h.offH (by decide)).not h5), rfl⟩
    · exact ha
    · obtain ⟨h1, fb, h3, h5, rfl⟩ := ha
      obtain ⟨c2, hc2⟩ := h5.type
      exact ⟨h1, fb, h3, h5.off t ((h.offH (by decide)).not hc2) (h.offH (by decide)), rfl⟩
end

/-- A variable of four cells is stored to. -/
def FourV (w : World) (g : Nat) : Prop := ∃ c fr, w.heap[g]? = some (.cells c 54 fr)
section
variable {P : MP} {I : Ids} {k : Nat} {ds : List Nat} {w w' : World} {S : MS} {b : Nat} {B : List Nat} {x : MW} {gd cd : Nat} {hv kv pv : Value} {gh gp O : List Nat} {nx : MStp} {bl : Blk} {asked : Int} {po : Option Addr} {item : Int} {pf : Option Addr}
theorem Cx.keepV (h : Cx P I k ds w S b B) {g : Nat} (hg : FourV w g) (g0 : g ≠ 0) (t : Turned [g] w w') : Cx P I k ds w' S b B := by
  obtain ⟨c, fr, hg⟩ := hg
  have o : ∀ e, 54 ≠ e → Off w [g] e := fun e h1 => Off.one hg h1
  exact h.keep t (o _ (by decide)) (o _ (by decide)) (o _ (by decide)) (o _ (by decide)) (o _ (by decide)) (o _ (by decide)) (o _ (by decide)) (by simp; exact Ne.symm g0) ⟨(o _ (by decide)).not h.hm.row, (o _ (by decide)).not h.sh.mem.row⟩
theorem Wm.keepV (h : Wm w b I.M I.a ds x B gd cd hv kv pv gh gp O nx bl asked po item pf) {g : Nat} (hg : FourV w g) (hB : g ∉ B) (t : Turned [g] w w') : Wm w' b I.M I.a ds x B gd cd hv kv pv gh gp O nx bl asked po item pf := by
  obtain ⟨c, fr, hg⟩ := hg
  refine h.keep t ?_ (fun y hy => ?_) (Off.one hg (by decide))
  · simp; exact ne_of_type h.raw hg (by decide)
  · simp; rintro rfl; exact hB hy
end
theorem four_new {w w' : World} {T : List Nat} {c : Array Value} (t : Turned T (w.alloc (.cells c 54)).drew w') (hT : ∀ y, y ∈ T → y < w.heap.size) : w'.heap[w.heap.size]? = some (.cells c 54) :=
  t.at (heap_alloc_new w _) (fun hm => by have := hT _ hm; omega)
theorem four_turned (w : World) (g : Nat) (v0 v1 v2 v3 : Value) : Turned [g] w ((((w.setCell ⟨g, 0, none⟩ v0).setCell ⟨g, 1, none⟩ v1).setCell ⟨g, 2, none⟩ v2).setCell ⟨g, 3, none⟩ v3) :=
  ((((Turned.refl _ _).setCell (by simp) _).setCell (by simp) _).setCell (by simp) _).setCell (by simp) _

/-- What a step comes to: all of it, and the worker. -/
def Out (P : MP) (I : Ids) (k : Nat) (ds : List Nat) (w : World) (b : Nat) (B : List Nat) (S' : MS) (x' : MW) (w' : World) : Prop :=
  ∃ B', Cx P I k ds w' S' b B' ∧ WmX w' b I.M I.a ds x' B' ∧ (∀ y, y ∈ B' → y ∈ B ∨ w.heap.size ≤ y) ∧ Turned (I.all b B) w w'
theorem Out.trans {P : MP} {I : Ids} {k : Nat} {ds : List Nat} {w w1 w2 : World} {b : Nat} {B B1 : List Nat} {S2 : MS} {x2 : MW} (h : Out P I k ds w1 b B1 S2 x2 w2) (t : Turned (I.all b B) w w1) (hB : ∀ y, y ∈ B1 → y ∈ B ∨ w.heap.size ≤ y) : Out P I k ds w b B S2 x2 w2 := by
  obtain ⟨B2, h1, h2, h3, h4⟩ := h
  refine ⟨B2, h1, h2, fun y hy => ?_, t.trans_new h4 (fun y hy => ?_)⟩
  · rcases h3 y hy with g | g
    · exact hB y g
    · right; have := t.size; omega
  · unfold Ids.all at hy ⊢
    simp only [List.mem_cons] at hy ⊢
    rcases hy with g | g | g | g | g | g | g | g
    · exact .inl (.inl g)
    · exact .inl (.inr (.inl g))
    · exact .inl (.inr (.inr (.inl g)))
    · exact .inl (.inr (.inr (.inr (.inl g))))
    · exact .inl (.inr (.inr (.inr (.inr (.inl g)))))
    · exact .inl (.inr (.inr (.inr (.inr (.inr (.inl g))))))
    · exact .inl (.inr (.inr (.inr (.inr (.inr (.inr (.inl g)))))))
    · rcases hB y g with q | q
      · exact .inl (.inr (.inr (.inr (.inr (.inr (.inr (.inr q)))))))
      · exact .inr q
theorem Ids.inAll {I : Ids} {b : Nat} {B T : List Nat} (h : ∀ y, y ∈ T → y = I.M ∨ y = I.ph ∨ y = I.qh ∨ y = I.qb ∨ y = I.p ∨ y = I.q ∨ y = b ∨ y ∈ B) : ∀ y, y ∈ T → y ∈ I.all b B := fun y hy => by
  unfold Ids.all
  simp only [List.mem_cons]
  exact h y hy
end Go.Proofs.YtgbclfhgpkmcnaaGreatDoor

/-
  Steps of a worker of package mark: a ref is taken (takeRef), a block that was kept (takeKept).
-/
namespace Go.Proofs.YtgbclfhgpkmcnaaGreatDoor
open Go.RowKit
set_option linter.unusedVariables false

set_option maxRecDepth 100000 in
/-- 'l[1:]' of a slice that has something. -/
theorem slice_one2 (b off n cap : Nat) (hn : n + 1 ≤ cap) :
    ∃ off', (off' = off + 1 ∨ (n = 0 ∧ cap = 1 ∧ off' = off)) ∧ ∀ w : World, (Instr.slice 30 (.slice (some ⟨b, off, none⟩) (n + 1) cap) (some (.int .i64 1)) none none).run Tryz.prog w = .ok (.slice (some ⟨b, off', none⟩) n (cap - 1)) w := by
  refine ⟨if cap = 1 then off else off + 1, ?_, fun w => ?_⟩
  · by_cases h : cap = 1
    · rw [if_pos h]; exact .inr ⟨by omega, h, rfl⟩
    · rw [if_neg h]; exact .inl rfl
  · rw [run_slice_l (P := Tryz.prog) w 30 _ _ _ Tryz.underlying30 .i64 1 (by omega) (by omega)]
    show Result.ok (sliced _ (1 : Int).toNat (n + 1) cap 1) w = _
    by_cases h : cap = 1 <;> simp [sliced, Addr.add, h]
set_option maxRecDepth 100000 in
theorem slice_one3 (b off n cap : Nat) (hn : n + 1 ≤ cap) :
    ∃ off', (off' = off + 1 ∨ (n = 0 ∧ cap = 1 ∧ off' = off)) ∧ ∀ w : World, (Instr.slice 25 (.slice (some ⟨b, off, none⟩) (n + 1) cap) (some (.int .i64 1)) none none).run Tryz.prog w = .ok (.slice (some ⟨b, off', none⟩) n (cap - 1)) w := by
  refine ⟨if cap = 1 then off else off + 1, ?_, fun w => ?_⟩
  · by_cases h : cap = 1
    · rw [if_pos h]; exact .inr ⟨by omega, h, rfl⟩
    · rw [if_neg h]; exact .inl rfl
  · rw [run_slice_l (P := Tryz.prog) w 25 _ _ _ Tryz.underlying25 .i64 1 (by omega) (by omega)]
    show Result.ok (sliced _ (1 : Int).toNat (n + 1) cap 1) w = _
    by_cases h : cap = 1 <;> simp [sliced, Addr.add, h]

section
variable (P : MP) (I : Ids) (k : Nat) (ds : List Nat) (w : World) (S : MS) (b : Nat) (B : List Nat) (x : MW)

set_option maxRecDepth 100000 in
set_option maxHeartbeats 1000000 in
theorem takeRef_zero (T : List Int) (h : Cx P I k ds w S b B) (hx : WmX w b I.M I.a ds x B) (hh : x.hands = 0 :: T) (hl : T.length ≤ 1000000) :
    Calls Tryz.prog 73 #[.pointer (some ⟨b, 0, none⟩)] w fun e w' => e = .returned (.tuple #[]) ∧ Out P I k ds w b B S { x with hands := T } w' := by
  obtain ⟨gd, cd, hv, kv, pv, gh, gp, O, nx, bl, asked, po, item, pf, hW⟩ := hx
  have hS := hW.hands
  rw [hh] at hS
  obtain ⟨hb_, off, cap, rfl, rfl, hcap, hcell, hrest⟩ := hS.cons
  obtain ⟨off', ho, hsl⟩ := slice_one2 hb_ off T.length cap hcap
  have f3 := hW.raw.f 3
  simp only [mwCells] at f3
  have z3 := hW.raw.fz 3
  have t1 : Turned [b] w (w.setCell ⟨b, 3, none⟩ (.slice (some ⟨hb_, off', none⟩) T.length (cap - 1))) := (Turned.refl _ _).setCell (by simp) _
  have HO : Hid (Out P I k ds w b B S { x with hands := T } (w.setCell ⟨b, 3, none⟩ (.slice (some ⟨hb_, off', none⟩) T.length (cap - 1)))) := by
    obtain ⟨p1, p2, p3, p4, p5, p6⟩ := hW.partsb t1
    refine ⟨B, h.keepb hW.raw t1, ⟨gd, cd, _, kv, pv, [hb_], gp, O, nx, bl, asked, po, item, pf, hW.own, hW.raw.set 3 _, p1, p2, (hrest off' ho).turned t1 ?_, p4, p5, p6⟩, fun y hy => .inl hy, t1.mono (Ids.inAll (by simp))⟩
    intro y hy
    obtain ⟨c, fr, g1⟩ := hS.types y hy
    simp
    exact ne_of_type g1 hW.raw (by decide)
  generalize T.length = n at *
  clear h hW hS hrest t1 hh ho
  go_enter Tryz.func73, Tryz.ntmps73
  go_wp2_with fail
  first | refine bodyPost_end (results_none rfl _ _ _) rfl ?_ | refine bodyPost_ret (results_none rfl _ _ _) rfl ?_
  exact ⟨rfl, HO.out⟩

set_option maxRecDepth 100000 in
set_option maxHeartbeats 2000000 in
theorem takeRef_none (r : Int) (T : List Int) (h : Cx P I k ds w S b B) (hx : WmX w b I.M I.a ds x B) (hh : x.hands = r :: T) (hl : T.length ≤ 1000000) (hr0 : r ≠ 0) (hr : In64 r) (hs : 0 ≤ S.hs ∧ S.hs ≤ 1000000) (hobj : P.obj r = none) :
    Calls Tryz.prog 73 #[.pointer (some ⟨b, 0, none⟩)] w fun e w' => e = .returned (.tuple #[]) ∧ Out P I k ds w b B { S with fault := 13, hs := S.hs + P.acc r } { x with hands := T } w' := by
  obtain ⟨gd, cd, hv, kv, pv, gh, gp, O, nx, bl, asked, po, item, pf, hW⟩ := hx
  have hS := hW.hands
  rw [hh] at hS
  obtain ⟨hb_, off, cap, rfl, rfl, hcap, hcell, hrest⟩ := hS.cons
  obtain ⟨off', ho, hsl⟩ := slice_one2 hb_ off T.length cap hcap
  have f3 := hW.raw.f 3
  simp only [mwCells] at f3
  have z3 := hW.raw.fz 3
  have f1 := hW.raw.f 1
  simp only [mwCells] at f1
  have t1 : Turned [b] w (w.setCell ⟨b, 3, none⟩ (.slice (some ⟨hb_, off', none⟩) T.length (cap - 1))) := (Turned.refl _ _).setCell (by simp) _
  have hC1 := h.keepb hW.raw t1
  have hW1 : Wm (w.setCell ⟨b, 3, none⟩ (.slice (some ⟨hb_, off', none⟩) T.length (cap - 1))) b I.M I.a ds { x with hands := T } B gd cd (.slice (some ⟨hb_, off', none⟩) T.length (cap - 1)) kv pv [hb_] gp O nx bl asked po item pf := by
    obtain ⟨p1, p2, p3, p4, p5, p6⟩ := hW.partsb t1
    refine ⟨hW.own, hW.raw.set 3 _, p1, p2, (hrest off' ho).turned t1 ?_, p4, p5, p6⟩
    intro y hy
    obtain ⟨c, fr, g1⟩ := hS.types y hy
    simp
    exact ne_of_type g1 hW.raw (by decide)
  have g1 : (w.setCell ⟨b, 3, none⟩ (.slice (some ⟨hb_, off', none⟩) T.length (cap - 1))).cell? ⟨b, 1, none⟩ = some (.pointer (some ⟨I.M, 0, none⟩)) := by rw [hW1.raw.f]; rfl
  have gM : (w.setCell ⟨b, 3, none⟩ (.slice (some ⟨hb_, off', none⟩) T.length (cap - 1))).cell? ⟨I.M, 0, none⟩ = some (.iface 114 (mv I.ph I.co I.len I.cap)) := by rw [hC1.mkr.f]; rfl
  have HP := hide (object_none (w.setCell ⟨b, 3, none⟩ (.slice (some ⟨hb_, off', none⟩) T.length (cap - 1))) I.ph I.qh I.len I.cap I.co P S.hs r hr h.hl (w64 _ (by omega)) hC1.hm hC1.cl hobj)
  have hacc : wrap64 (S.hs + P.acc r) = S.hs + P.acc r := w64 _ (by unfold MP.acc; split <;> omega)
  rw [hacc] at HP
  have hm := method_object I.ph I.len I.cap I.co
  have H1 := hide (And.intro hC1 (And.intro hW1 t1))
  generalize mv I.ph I.co I.len I.cap = V at *
  generalize T.length = n at *
  unfold Blk.zero at HP
  simp only [Blk.val] at HP
  clear h hW hS hrest t1 hh ho hC1 hW1 hobj hr hs hacc
  go_enter Tryz.func73, Tryz.ntmps73
  go_wp2_with fail
  refine HP.out.mono ?_
  rintro e w1 ⟨rfl, m1, tt⟩
  have C1 := (H1.out.1.read tt m1).keep0 ((Turned.refl [] _).alloc (.cells #[.int .i64 0, .int .i64 0, .int .i64 0, .int .i64 0] 54))
  have W1 := (H1.out.1.readW H1.out.2.1 tt).keep0 ((Turned.refl [] _).alloc (.cells #[.int .i64 0, .int .i64 0, .int .i64 0, .int .i64 0] 54))
  have T1 : Turned (I.all b B) w (w1.alloc (.cells #[.int .i64 0, .int .i64 0, .int .i64 0, .int .i64 0] 54)) := ((H1.out.2.2.mono (Ids.inAll (by simp))).trans (tt.mono (Ids.inAll (by simp)))).alloc _
  have HF := hide (fault_any _ b I.M _ _ _ W1.raw C1.mkr rfl C1.fault5)
  have H2 := hide (And.intro C1 (And.intro W1 T1))
  clear m1 tt C1 W1 T1 HP H1 g1 gM f1 f3 hm hcell
  go_wp2_with fail
  generalize w1.alloc (.cells #[.int .i64 0, .int .i64 0, .int .i64 0, .int .i64 0] 54) = w2 at *
  refine HF.out.mono ?_
  rintro e w3 ⟨rfl, rfl⟩
  go_wp2_with fail
  first | refine bodyPost_end (results_none rfl _ _ _) rfl ?_ | refine bodyPost_ret (results_none rfl _ _ _) rfl ?_
  obtain ⟨C2, W2, T2⟩ := H2.out
  exact ⟨rfl, B, C2.faulted, ⟨_, _, _, _, _, _, _, _, _, _, _, _, _, _, C2.faultW W2⟩, fun y hy => .inl hy, T2.setCell (.inl (Ids.inAll (T := [I.M]) (by simp) _ (by simp))) _⟩
set_option maxRecDepth 100000 in
set_option maxHeartbeats 2000000 in
theorem takeRef_some (r : Int) (T : List Int) (h : Cx P I k ds w S b B) (hx : WmX w b I.M I.a ds x B) (hh : x.hands = r :: T) (hl : T.length ≤ 1000000) (hr0 : r ≠ 0) (hr : In64 r) (hs : 0 ≤ S.hs ∧ S.hs ≤ 1000000) (bk : Blk) (hobj : P.obj r = some bk) :
    Calls Tryz.prog 73 #[.pointer (some ⟨b, 0, none⟩)] w fun e w' => e = .returned (.tuple #[]) ∧ Out P I k ds w b B { S with hs := S.hs + P.acc r } { x with hands := T, act := .mark bk } w' := by
  obtain ⟨gd, cd, hv, kv, pv, gh, gp, O, nx, bl, asked, po, item, pf, hW⟩ := hx
  have hS := hW.hands
  rw [hh] at hS
  obtain ⟨hb_, off, cap, rfl, rfl, hcap, hcell, hrest⟩ := hS.cons
  obtain ⟨off', ho, hsl⟩ := slice_one2 hb_ off T.length cap hcap
  have f3 := hW.raw.f 3
  simp only [mwCells] at f3
  have z3 := hW.raw.fz 3
  have f1 := hW.raw.f 1
  simp only [mwCells] at f1
  have t1 : Turned [b] w (w.setCell ⟨b, 3, none⟩ (.slice (some ⟨hb_, off', none⟩) T.length (cap - 1))) := (Turned.refl _ _).setCell (by simp) _
  have hC1 := h.keepb hW.raw t1
  have hW1 : Wm (w.setCell ⟨b, 3, none⟩ (.slice (some ⟨hb_, off', none⟩) T.length (cap - 1))) b I.M I.a ds { x with hands := T } B gd cd (.slice (some ⟨hb_, off', none⟩) T.length (cap - 1)) kv pv [hb_] gp O nx bl asked po item pf := by
    obtain ⟨p1, p2, p3, p4, p5, p6⟩ := hW.partsb t1
    refine ⟨hW.own, hW.raw.set 3 _, p1, p2, (hrest off' ho).turned t1 ?_, p4, p5, p6⟩
    intro y hy
    obtain ⟨c, fr, g1⟩ := hS.types y hy
    simp
    exact ne_of_type g1 hW.raw (by decide)
  have g1 : (w.setCell ⟨b, 3, none⟩ (.slice (some ⟨hb_, off', none⟩) T.length (cap - 1))).cell? ⟨b, 1, none⟩ = some (.pointer (some ⟨I.M, 0, none⟩)) := by rw [hW1.raw.f]; rfl
  have gM : (w.setCell ⟨b, 3, none⟩ (.slice (some ⟨hb_, off', none⟩) T.length (cap - 1))).cell? ⟨I.M, 0, none⟩ = some (.iface 114 (mv I.ph I.co I.len I.cap)) := by rw [hC1.mkr.f]; rfl
  have HP := hide (object_some (w.setCell ⟨b, 3, none⟩ (.slice (some ⟨hb_, off', none⟩) T.length (cap - 1))) I.ph I.qh I.len I.cap I.co P S.hs r bk h.hl hC1.hm hC1.cl hobj)
  have hacc : wrap64 (S.hs + P.acc r) = S.hs + P.acc r := w64 _ (by unfold MP.acc; split <;> omega)
  rw [hacc] at HP
  have hm := method_object I.ph I.len I.cap I.co
  have H1 := hide (And.intro hC1 (And.intro hW1 t1))
  generalize mv I.ph I.co I.len I.cap = V at *
  generalize T.length = n at *
  simp only [Blk.val] at HP
  clear h hW hS hrest t1 hh ho hC1 hW1 hobj hr hs hacc
  go_enter Tryz.func73, Tryz.ntmps73
  go_wp2_with fail
  refine HP.out.mono ?_
  rintro e w1 ⟨rfl, m1, tt⟩
  have C1 := H1.out.1.read tt m1
  have W1 := H1.out.1.readW H1.out.2.1 tt
  have T1 : Turned (I.all b B) w w1 := (H1.out.2.2.mono (Ids.inAll (by simp))).trans (tt.mono (Ids.inAll (by simp)))
  have lb := W1.raw.lt
  have y0 := W1.raw.f 0
  have y5 := W1.raw.f 5
  have y6 := W1.raw.f 6
  have y7 := W1.raw.f 7
  have y8 := W1.raw.f 8
  simp only [mwCells] at y0 y5 y6 y7 y8
  have z0 := W1.raw.fz 0
  have z5 := W1.raw.fz 5
  have z6 := W1.raw.fz 6
  have z7 := W1.raw.fz 7
  have z8 := W1.raw.fz 8
  have H2 := hide (And.intro C1 (And.intro W1 T1))
  clear m1 tt C1 W1 T1 HP H1 g1 gM f1 f3 hm hcell z3
  go_wp2_with fail
  first | refine bodyPost_end (results_none rfl _ _ _) rfl ?_ | refine bodyPost_ret (results_none rfl _ _ _) rfl ?_
  obtain ⟨C1, W1, T1⟩ := H2.out
  have tS : Turned [b] w1 (((((w1.setCell ⟨b, 5, none⟩ (.int .i64 bk.t)).setCell ⟨b, 6, none⟩ (.int .i64 bk.k)).setCell ⟨b, 7, none⟩ (.int .i64 bk.n)).setCell ⟨b, 8, none⟩ (.int .i64 bk.s)).setCell ⟨b, 0, none⟩ (stpV .mark b)) := (((((Turned.refl _ _).setCell (by simp) _).setCell (by simp) _).setCell (by simp) _).setCell (by simp) _).setCell (by simp) _
  have tA := (Turned.refl [] (((((w1.setCell ⟨b, 5, none⟩ (.int .i64 bk.t)).setCell ⟨b, 6, none⟩ (.int .i64 bk.k)).setCell ⟨b, 7, none⟩ (.int .i64 bk.n)).setCell ⟨b, 8, none⟩ (.int .i64 bk.s)).setCell ⟨b, 0, none⟩ (stpV .mark b))).alloc (.cells #[.int .i64 bk.t, .int .i64 bk.k, .int .i64 bk.n, .int .i64 bk.s] 54)
  obtain ⟨p1, p2, p3, p4, p5, p6⟩ := W1.partsb tS
  have W2 : Wm _ b I.M I.a ds { x with hands := T, act := .mark bk } ([hb_] ++ (kv.ownBlock.toList ++ (gp ++ []))) gd cd _ kv pv [hb_] gp [] .mark bk asked po item pf := ⟨rfl, ((((W1.raw.set 5 (.int .i64 bk.t)).set 6 (.int .i64 bk.k)).set 7 (.int .i64 bk.n)).set 8 (.int .i64 bk.s)).set 0 (stpV .mark b), p1, p2, p3, p4, p5, rfl, rfl, rfl⟩
  have hB : ∀ y, y ∈ ([hb_] ++ (kv.ownBlock.toList ++ (gp ++ []))) → y ∈ B ∨ w1.heap.size ≤ y := fun y hy => by
    left
    rw [W1.own]
    simp only [List.append_nil, List.mem_append] at hy ⊢
    rcases hy with h | h | h
    · exact .inl h
    · exact .inr (.inl h)
    · exact .inr (.inr (.inl h))
  have O2 : Out P I k ds w1 b B { S with hs := S.hs + P.acc r } { x with hands := T, act := .mark bk } _ := ⟨_, ((C1.own hB).keepb W1.raw tS).keep0 tA, ⟨_, _, _, _, _, _, _, _, _, _, _, _, _, _, W2.keep0 tA⟩, hB, (tS.mono (Ids.inAll (by simp))).trans (tA.mono (by simp))⟩
  exact ⟨rfl, O2.trans T1 (fun y hy => .inl hy)⟩
end
end Go.Proofs.YtgbclfhgpkmcnaaGreatDoor

/-
  Steps of a worker of package mark: what it took is opened (open), what it kept is scanned (takeKept).
-/
namespace Go.Proofs.YtgbclfhgpkmcnaaGreatDoor
open Go.RowKit
set_option linter.unusedVariables false

section
variable (P : MP) (I : Ids) (k : Nat) (ds : List Nat) (w : World) (S : MS) (b : Nat) (B : List Nat) (x : MW)

/-- Behind 'w.next = w.choose'. -/
theorem chosen {P : MP} {I : Ids} {k : Nat} {ds : List Nat} {w : World} {S : MS} {b : Nat} {B : List Nat} {x : MW} {gd cd : Nat} {hv kv pv : Value} {gh gp O : List Nat} {nx : MStp} {bl : Blk} {asked : Int} {po : Option Addr} {item : Int} {pf : Option Addr}
    (h : Cx P I k ds w S b B) (hW : Wm w b I.M I.a ds x B gd cd hv kv pv gh gp O nx bl asked po item pf) :
    Cx P I k ds (w.setCell ⟨b, 0, none⟩ (stpV .choose b)) S b (gh ++ (kv.ownBlock.toList ++ (gp ++ []))) ∧ Wm (w.setCell ⟨b, 0, none⟩ (stpV .choose b)) b I.M I.a ds { x with act := .choose } (gh ++ (kv.ownBlock.toList ++ (gp ++ []))) gd cd hv kv pv gh gp [] .choose bl asked po item pf ∧ Turned (I.all b B) w (w.setCell ⟨b, 0, none⟩ (stpV .choose b)) ∧ ∀ y, y ∈ gh ++ (kv.ownBlock.toList ++ (gp ++ [])) → y ∈ B := by
  have t : Turned [b] w (w.setCell ⟨b, 0, none⟩ (stpV .choose b)) := (Turned.refl _ _).setCell (by simp) _
  obtain ⟨p1, p2, p3, p4, p5, p6⟩ := hW.partsb t
  have hB : ∀ y, y ∈ gh ++ (kv.ownBlock.toList ++ (gp ++ [])) → y ∈ B := fun y hy => by
    rw [hW.own]
    simp only [List.append_nil, List.mem_append] at hy ⊢
    rcases hy with h | h | h
    · exact .inl h
    · exact .inr (.inl h)
    · exact .inr (.inr (.inl h))
  exact ⟨(h.own (fun y hy => .inl (hB y hy))).keepb hW.raw t, ⟨rfl, hW.raw.set 0 _, p1, p2, p3, p4, p5, rfl, rfl⟩, t.mono (Ids.inAll (by simp)), hB⟩

/-- An object is begun with. -/
theorem scan_out {P : MP} {I : Ids} {k : Nat} {ds : List Nat} {w : World} {S : MS} {b : Nat} {B : List Nat} {x : MW} {gd cd : Nat} {hv kv pv : Value} {gh gp : List Nat} {bl : Blk} {asked : Int} {po : Option Addr} {item : Int} {pf : Option Addr}
    (bk : Blk) (C : Cx P I k ds w S b B) (W : Wm w b I.M I.a ds x B gd cd hv kv pv gh gp [] .choose bl asked po item pf) (hact : x.act = .choose) (hs : 0 ≤ x.seen ∧ x.seen ≤ 1000000) (hn : In64 bk.n) (ht : 0 ≤ bk.t ∧ bk.t ≤ 65536) :
    Calls Tryz.prog 81 #[.pointer (some ⟨b, 0, none⟩), bk.val] w fun e w' => e = .returned (.tuple #[]) ∧ Out P I k ds w b B S (scanW P x bk) w' := by
  refine (scan_any w b I.M I.ph I.len I.cap I.co _ _ P bk pv x.seen hs hn ht C.cl W.raw C.mkr rfl rfl rfl rfl).mono ?_
  rintro e w' ⟨g, c', rfl, q1, q2, q3, q4, q5, t⟩
  obtain ⟨p1, p2, p3, p4, p5, p6⟩ := W.partsb t
  have hB : ∀ y, y ∈ gh ++ (kv.ownBlock.toList ++ ([g] ++ [])) → y ∈ B ∨ w.heap.size ≤ y := fun y hy => by
    rw [W.own]
    simp only [List.append_nil, List.mem_append, List.mem_singleton] at hy ⊢
    rcases hy with h | h | h
    · exact .inl (.inl h)
    · exact .inl (.inr (.inl h))
    · subst h; exact .inr q1
  refine ⟨rfl, _, (C.own hB).keepb W.raw t, ⟨gd, cd, hv, kv, _, gh, [g], [], .choose, bl, asked, po, item, pf, rfl, q5, p1, p2, p3, p4, Sl.new q2 q3 q4, rfl, rfl⟩, hB, t.mono (Ids.inAll (by simp))⟩

set_option maxRecDepth 100000 in
set_option maxHeartbeats 2000000 in
theorem open_none (v : Int) (h : Cx P I k ds w S b B) (hx : WmX w b I.M I.a ds x B) (ha : x.act = .open_ v) (hr : In64 v) (hs : 0 ≤ S.hs ∧ S.hs ≤ 1000000) (hobj : P.obj v = none) :
    Calls Tryz.prog 88 #[.pointer (some ⟨b, 0, none⟩)] w fun e w' => e = .returned (.tuple #[]) ∧ Out P I k ds w b B { S with fault := 13, hs := S.hs + P.acc v } { x with act := .choose } w' := by
  obtain ⟨gd, cd, hv, kv, pv, gh, gp, O, nx, bl, asked, po, item, pf, hW⟩ := hx
  obtain ⟨C0, W0, T0, hB0⟩ := chosen h hW
  have hact := hW.act
  rw [ha] at hact
  obtain ⟨_, rfl, _⟩ := hact
  have z0 := hW.raw.fz 0
  have f0 := hW.raw.f 0
  simp only [mwCells] at f0
  have g1 : (w.setCell ⟨b, 0, none⟩ (stpV .choose b)).cell? ⟨b, 1, none⟩ = some (.pointer (some ⟨I.M, 0, none⟩)) := W0.raw.f 1
  have g12 : (w.setCell ⟨b, 0, none⟩ (stpV .choose b)).cell? ⟨b, 12, none⟩ = some (.int .i64 item) := W0.raw.f 12
  have gM := C0.iface
  have n1 := C0.mkr.ne W0.raw
  have hacc : wrap64 (S.hs + P.acc item) = S.hs + P.acc item := w64 _ (by unfold MP.acc; split <;> omega)
  have HP : Hid (∀ w', Turned [] (w.setCell ⟨b, 0, none⟩ (stpV .choose b)) w' → Calls Tryz.prog 181 #[mv I.ph I.co I.len I.cap, .int .i64 item] w' fun e w'' => e = .returned (.tuple #[Blk.zero.val, .bool false]) ∧ Cx P I k ds w'' { S with hs := S.hs + P.acc item } b (gh ++ (kv.ownBlock.toList ++ (gp ++ []))) ∧ Wm w'' b I.M I.a ds { x with act := .choose } (gh ++ (kv.ownBlock.toList ++ (gp ++ []))) gd cd hv kv pv gh gp [] .choose bl asked po item pf ∧ Turned [I.ph, I.qh] w' w'') := by
    intro w' t
    refine (object_none w' I.ph I.qh I.len I.cap I.co P S.hs item hr h.hl (w64 _ (by omega)) (C0.keep0 t).hm (C0.keep0 t).cl hobj).mono ?_
    rintro e w'' ⟨h1, h2, h3⟩
    rw [hacc] at h2
    exact ⟨h1, (C0.keep0 t).read h3 h2, (C0.keep0 t).readW (W0.keep0 t) h3, h3⟩
  have HFz : Hid (∀ wz, Cx P I k ds wz { S with hs := S.hs + P.acc item } b (gh ++ (kv.ownBlock.toList ++ (gp ++ []))) → Wm wz b I.M I.a ds { x with act := .choose } (gh ++ (kv.ownBlock.toList ++ (gp ++ []))) gd cd hv kv pv gh gp [] .choose bl asked po item pf → Turned (I.all b B) w wz → Calls Tryz.prog 78 #[.pointer (some ⟨b, 0, none⟩)] wz fun e w' => e = .returned (.tuple #[]) ∧ Out P I k ds w b B { S with fault := 13, hs := S.hs + P.acc item } { x with act := .choose } w') := by
    intro wz C W T
    refine (fault_any wz b I.M _ _ _ W.raw C.mkr rfl C.fault5).mono ?_
    rintro e w' ⟨rfl, rfl⟩
    exact ⟨rfl, _, C.faulted, ⟨_, _, _, _, _, _, _, _, _, _, _, _, _, _, C.faultW W⟩, fun y hy => .inl (hB0 y hy), T.setCell (.inl (Ids.inAll (T := [I.M]) (by simp) _ (by simp))) _⟩
  have hm := method_object I.ph I.len I.cap I.co
  have hn := nil_object I.ph I.len I.cap I.co
  have H1 := hide (And.intro C0 (And.intro W0 (And.intro T0 (And.intro hB0 (And.intro h.zb hW.raw.lt)))))
  unfold Blk.zero at HP
  simp only [Blk.val] at HP
  generalize hw1 : w.setCell ⟨b, 0, none⟩ (stpV .choose b) = wa at *
  clear h hW C0 W0 T0 hB0 hobj hr hs hacc ha
  go_enter Tryz.func88, Tryz.ntmps88
  go_wp2_with fail
  rw [show (w.setCell ⟨b, 0, none⟩ (.func (.func 67) #[.pointer (some ⟨b, 0, none⟩)] #[])) = wa from hw1]
  clear hw1
  have hlp := hide (And.intro H1.out.1.hm.ltp H1.out.1.hm.ltq)
  go_region_held3 (fun w' => w'.cell? ⟨b, 1, none⟩ = some (.pointer (some ⟨I.M, 0, none⟩)) ∧ w'.cell? ⟨I.M, 0, none⟩ = some (.iface 114 (mv I.ph I.co I.len I.cap)) ∧ w'.cell? ⟨b, 12, none⟩ = some (.int .i64 item)) (go_keep)
    (first
      | (go_at_call 181; refine (HP.out wa.drew (Turned.refl _ _).drew).mono ?_; rintro e w1 ⟨rfl, C1, W1, tt⟩; have y1 := (show w1.cell? ⟨b, 1, none⟩ = some (.pointer (some ⟨I.M, 0, none⟩)) from W1.raw.f 1); have y12 := (show w1.cell? ⟨b, 12, none⟩ = some (.int .i64 item) from W1.raw.f 12); have yM := C1.iface; have e1 := World.new_ne w1 ⟨b, 1, none⟩ y1; have e2 := World.new_ne w1 ⟨b, 12, none⟩ y12; have e3 := World.new_ne w1 ⟨I.M, 0, none⟩ yM; have H2 := hide (And.intro C1 (And.intro W1 tt)); clear tt C1 W1 HP g1 g12 gM)
      | (go_at_call 181; refine (HP.out (wa.alloc (.cells #[.int .i64 0, .int .i64 0, .int .i64 0, .int .i64 0] 54)).drew ((Turned.refl _ _).alloc _).drew).mono ?_; rintro e w1 ⟨rfl, C1, W1, tt⟩; have hv4 := four_new tt (by have := hlp.out; simp; omega); have u0 := cell_of_heap hv4 0; have u1 := cell_of_heap hv4 1; have u2 := cell_of_heap hv4 2; have u3 := cell_of_heap hv4 3; have q0 := (show w1.frozen? ⟨wa.heap.size, 0, none⟩ = false by simp [World.frozen?, hv4]); have q1 := (show w1.frozen? ⟨wa.heap.size, 1, none⟩ = false by simp [World.frozen?, hv4]); have q2 := (show w1.frozen? ⟨wa.heap.size, 2, none⟩ = false by simp [World.frozen?, hv4]); have q3 := (show w1.frozen? ⟨wa.heap.size, 3, none⟩ = false by simp [World.frozen?, hv4]); have y1 := (show w1.cell? ⟨b, 1, none⟩ = some (.pointer (some ⟨I.M, 0, none⟩)) from W1.raw.f 1); have y12 := (show w1.cell? ⟨b, 12, none⟩ = some (.int .i64 item) from W1.raw.f 12); have yM := C1.iface; have e1 := (show wa.heap.size ≠ b from ne_of_type hv4 W1.raw (by decide)); have e2 := (show wa.heap.size ≠ I.M from ne_of_type hv4 C1.mkr (by decide)); have H2 := hide (And.intro C1 (And.intro W1 (And.intro tt hv4))); clear tt C1 W1 HP g1 g12 gM hv4))
  all_goals
    go_wp2_with fail
    first
    | refine (HFz.out _ (H2.out.1.keep0 ((Turned.refl [] w1).alloc _)) (H2.out.2.1.keep0 ((Turned.refl [] w1).alloc _)) ((H1.out.2.2.1.drew.trans (H2.out.2.2.mono (Ids.inAll (by simp)))).alloc _)).mono ?_
    | refine (HFz.out _ (H2.out.1.keepV ⟨_, _, H2.out.2.2.2⟩ (by have := H1.out.2.1.raw.lt; omega) (four_turned w1 wa.heap.size _ _ _ _)) (H2.out.2.1.keepV ⟨_, _, H2.out.2.2.2⟩ (fun hm => by obtain ⟨c, e, fr, g1, _⟩ := H1.out.2.1.types _ hm; have := lt_of_heap g1; omega) (four_turned w1 wa.heap.size _ _ _ _)) (Turned.trans_new (((H1.out.2.2.1.alloc _).drew).trans (H2.out.2.2.1.mono (Ids.inAll (by simp)))) (four_turned w1 wa.heap.size _ _ _ _) (by intro i hi; simp at hi; subst hi; exact .inr H1.out.2.2.1.size))).mono ?_
    rintro e w3 ⟨rfl, hO⟩
    have HO := hide hO
    clear hO
    go_wp2_with fail
    first | refine bodyPost_end (results_none rfl _ _ _) rfl ?_ | refine bodyPost_ret (results_none rfl _ _ _) rfl ?_
    exact ⟨rfl, HO.out⟩
set_option maxRecDepth 100000 in
set_option maxHeartbeats 2000000 in
theorem open_some (v : Int) (h : Cx P I k ds w S b B) (hx : WmX w b I.M I.a ds x B) (ha : x.act = .open_ v) (hr : In64 v) (hs : 0 ≤ S.hs ∧ S.hs ≤ 1000000) (hse : 0 ≤ x.seen ∧ x.seen ≤ 1000000) (bk : Blk) (hobj : P.obj v = some bk) :
    Calls Tryz.prog 88 #[.pointer (some ⟨b, 0, none⟩)] w fun e w' => e = .returned (.tuple #[]) ∧ Out P I k ds w b B { S with hs := S.hs + P.acc v } (scanW P x bk) w' := by
  obtain ⟨gd, cd, hv, kv, pv, gh, gp, O, nx, bl, asked, po, item, pf, hW⟩ := hx
  obtain ⟨C0, W0, T0, hB0⟩ := chosen h hW
  have hact := hW.act
  rw [ha] at hact
  obtain ⟨_, rfl, _⟩ := hact
  have z0 := hW.raw.fz 0
  have f0 := hW.raw.f 0
  simp only [mwCells] at f0
  have g1 : (w.setCell ⟨b, 0, none⟩ (stpV .choose b)).cell? ⟨b, 1, none⟩ = some (.pointer (some ⟨I.M, 0, none⟩)) := W0.raw.f 1
  have g12 : (w.setCell ⟨b, 0, none⟩ (stpV .choose b)).cell? ⟨b, 12, none⟩ = some (.int .i64 item) := W0.raw.f 12
  have gM := C0.iface
  have n1 := C0.mkr.ne W0.raw
  have hacc : wrap64 (S.hs + P.acc item) = S.hs + P.acc item := w64 _ (by unfold MP.acc; split <;> omega)
  have HP : Hid (∀ w', Turned [] (w.setCell ⟨b, 0, none⟩ (stpV .choose b)) w' → Calls Tryz.prog 181 #[mv I.ph I.co I.len I.cap, .int .i64 item] w' fun e w'' => e = .returned (.tuple #[bk.val, .bool true]) ∧ Cx P I k ds w'' { S with hs := S.hs + P.acc item } b (gh ++ (kv.ownBlock.toList ++ (gp ++ []))) ∧ Wm w'' b I.M I.a ds { x with act := .choose } (gh ++ (kv.ownBlock.toList ++ (gp ++ []))) gd cd hv kv pv gh gp [] .choose bl asked po item pf ∧ Turned [I.ph, I.qh] w' w'') := by
    intro w' t
    refine (object_some w' I.ph I.qh I.len I.cap I.co P S.hs item bk h.hl (C0.keep0 t).hm (C0.keep0 t).cl hobj).mono ?_
    rintro e w'' ⟨h1, h2, h3⟩
    rw [hacc] at h2
    exact ⟨h1, (C0.keep0 t).read h3 h2, (C0.keep0 t).readW (W0.keep0 t) h3, h3⟩
  have HFz : Hid (∀ wz, Cx P I k ds wz { S with hs := S.hs + P.acc item } b (gh ++ (kv.ownBlock.toList ++ (gp ++ []))) → Wm wz b I.M I.a ds { x with act := .choose } (gh ++ (kv.ownBlock.toList ++ (gp ++ []))) gd cd hv kv pv gh gp [] .choose bl asked po item pf → Turned (I.all b B) w wz → Calls Tryz.prog 81 #[.pointer (some ⟨b, 0, none⟩), bk.val] wz fun e w' => e = .returned (.tuple #[]) ∧ Out P I k ds w b B { S with hs := S.hs + P.acc item } (scanW P x bk) w') := by
    intro wz C W T
    obtain ⟨h1, h2⟩ := obj_some hobj
    obtain ⟨e1, e2, e3, e4, e5, e6, e7, xx, e8, e9, e10, e11⟩ := readOf_some h1
    have hl := h.hl
    refine (scan_out bk C W rfl hse (by rw [e11]; exact part_in64 xx) (by omega)).mono ?_
    rintro e w' ⟨rfl, hO⟩
    exact ⟨rfl, hO.trans T (fun y hy => .inl (hB0 y hy))⟩
  have hm := method_object I.ph I.len I.cap I.co
  have hn := nil_object I.ph I.len I.cap I.co
  have H1 := hide (And.intro C0 (And.intro W0 (And.intro T0 (And.intro hB0 (And.intro h.zb hW.raw.lt)))))
  simp only [Blk.val] at HP HFz
  generalize hw1 : w.setCell ⟨b, 0, none⟩ (stpV .choose b) = wa at *
  clear h hW C0 W0 T0 hB0 hobj hr hs hacc ha hse
  go_enter Tryz.func88, Tryz.ntmps88
  go_wp2_with fail
  rw [show (w.setCell ⟨b, 0, none⟩ (.func (.func 67) #[.pointer (some ⟨b, 0, none⟩)] #[])) = wa from hw1]
  clear hw1
  have hlp := hide (And.intro H1.out.1.hm.ltp H1.out.1.hm.ltq)
  go_region_held3 (fun w' => w'.cell? ⟨b, 1, none⟩ = some (.pointer (some ⟨I.M, 0, none⟩)) ∧ w'.cell? ⟨I.M, 0, none⟩ = some (.iface 114 (mv I.ph I.co I.len I.cap)) ∧ w'.cell? ⟨b, 12, none⟩ = some (.int .i64 item)) (go_keep)
    (first
      | (go_at_call 181; refine (HP.out wa.drew (Turned.refl _ _).drew).mono ?_; rintro e w1 ⟨rfl, C1, W1, tt⟩; have y1 := (show w1.cell? ⟨b, 1, none⟩ = some (.pointer (some ⟨I.M, 0, none⟩)) from W1.raw.f 1); have y12 := (show w1.cell? ⟨b, 12, none⟩ = some (.int .i64 item) from W1.raw.f 12); have yM := C1.iface; have e1 := World.new_ne w1 ⟨b, 1, none⟩ y1; have e2 := World.new_ne w1 ⟨b, 12, none⟩ y12; have e3 := World.new_ne w1 ⟨I.M, 0, none⟩ yM; have H2 := hide (And.intro C1 (And.intro W1 tt)); clear tt C1 W1 HP g1 g12 gM)
      | (go_at_call 181; refine (HP.out (wa.alloc (.cells #[.int .i64 0, .int .i64 0, .int .i64 0, .int .i64 0] 54)).drew ((Turned.refl _ _).alloc _).drew).mono ?_; rintro e w1 ⟨rfl, C1, W1, tt⟩; have hv4 := four_new tt (by have := hlp.out; simp; omega); have u0 := cell_of_heap hv4 0; have u1 := cell_of_heap hv4 1; have u2 := cell_of_heap hv4 2; have u3 := cell_of_heap hv4 3; have q0 := (show w1.frozen? ⟨wa.heap.size, 0, none⟩ = false by simp [World.frozen?, hv4]); have q1 := (show w1.frozen? ⟨wa.heap.size, 1, none⟩ = false by simp [World.frozen?, hv4]); have q2 := (show w1.frozen? ⟨wa.heap.size, 2, none⟩ = false by simp [World.frozen?, hv4]); have q3 := (show w1.frozen? ⟨wa.heap.size, 3, none⟩ = false by simp [World.frozen?, hv4]); have y1 := (show w1.cell? ⟨b, 1, none⟩ = some (.pointer (some ⟨I.M, 0, none⟩)) from W1.raw.f 1); have y12 := (show w1.cell? ⟨b, 12, none⟩ = some (.int .i64 item) from W1.raw.f 12); have yM := C1.iface; have e1 := (show wa.heap.size ≠ b from ne_of_type hv4 W1.raw (by decide)); have e2 := (show wa.heap.size ≠ I.M from ne_of_type hv4 C1.mkr (by decide)); have H2 := hide (And.intro C1 (And.intro W1 (And.intro tt hv4))); clear tt C1 W1 HP g1 g12 gM hv4))
  all_goals
    go_wp2_with fail
    first
    | refine (HFz.out _ (H2.out.1.keep0 ((Turned.refl [] w1).alloc _)) (H2.out.2.1.keep0 ((Turned.refl [] w1).alloc _)) ((H1.out.2.2.1.drew.trans (H2.out.2.2.mono (Ids.inAll (by simp)))).alloc _)).mono ?_
    | refine (HFz.out _ (H2.out.1.keepV ⟨_, _, H2.out.2.2.2⟩ (by have := H1.out.2.1.raw.lt; omega) (four_turned w1 wa.heap.size _ _ _ _)) (H2.out.2.1.keepV ⟨_, _, H2.out.2.2.2⟩ (fun hm => by obtain ⟨c, e, fr, g1, _⟩ := H1.out.2.1.types _ hm; have := lt_of_heap g1; omega) (four_turned w1 wa.heap.size _ _ _ _)) (Turned.trans_new (((H1.out.2.2.1.alloc _).drew).trans (H2.out.2.2.1.mono (Ids.inAll (by simp)))) (four_turned w1 wa.heap.size _ _ _ _) (by intro i hi; simp at hi; subst hi; exact .inr H1.out.2.2.1.size))).mono ?_
    rintro e w3 ⟨rfl, hO⟩
    have HO := hide hO
    clear hO
    go_wp2_with fail
    first | refine bodyPost_end (results_none rfl _ _ _) rfl ?_ | refine bodyPost_ret (results_none rfl _ _ _) rfl ?_
    exact ⟨rfl, HO.out⟩
end
end Go.Proofs.YtgbclfhgpkmcnaaGreatDoor

/-
  Steps of a worker of package mark: it turns to one of the deques, or offers to end (ask).
-/
namespace Go.Proofs.YtgbclfhgpkmcnaaGreatDoor
open Go.RowKit
set_option linter.unusedVariables false

section
variable (P : MP) (I : Ids) (k : Nat) (ds : List Nat) (w : World) (S : MS) (b : Nat) (B : List Nat) (x : MW)

set_option maxRecDepth 100000 in
set_option maxHeartbeats 4000000 in
theorem ask_pop (d : Nat) (h : Cx P I k ds w S b B) (hx : WmX w b I.M I.a ds x B) (hd : ds[0]? = some d) :
    Calls Tryz.prog 76 #[.pointer (some ⟨b, 0, none⟩), .int .i64 0] w fun e w' => e = .returned (.tuple #[]) ∧ Out P I k ds w b B S { x with act := .take 0 (opNew .popReadBottom 0) } w' := by
  obtain ⟨gd, cd, hv, kv, pv, gh, gp, O, nx, bl, asked, po, item, pf, hW⟩ := hx
  have hal : 0 < ds.length := (List.getElem?_eq_some_iff.1 hd).1
  have hne := h.ne
  have t1 : Turned [b] w ((w.setCell ⟨b, 10, none⟩ (.int .i64 0)).setCell ⟨b, 0, none⟩ (stpV .take b)) := ((Turned.refl _ _).setCell (by simp) _).setCell (by simp) _
  have raw1 := (hW.raw.set 10 (.int .i64 0)).set 0 (stpV .take b)
  have C1 := h.keepb hW.raw t1
  obtain ⟨p1, p2, p3, p4, p5, p6⟩ := hW.partsb t1
  have f2 : ((w.setCell ⟨b, 10, none⟩ (.int .i64 0)).setCell ⟨b, 0, none⟩ (stpV .take b)).cell? ⟨b, 2, none⟩ = some (.slice (some ⟨gd, 0, none⟩) ds.length cd) := raw1.f 2
  have r2 := p2 0 d hd
  have z0 := hW.raw.fz 0
  have z10 := hW.raw.fz 10
  have f0 := hW.raw.f 0
  have f10 := hW.raw.f 10
  simp only [mwCells] at f0 f10
  have hpop := pop_any ((w.setCell ⟨b, 10, none⟩ (.int .i64 0)).setCell ⟨b, 0, none⟩ (stpV .take b)) d I.p I.q _ S.l S.cs (C1.sh.dq 0 d hd)
  have hsz : ((w.setCell ⟨b, 10, none⟩ (.int .i64 0)).setCell ⟨b, 0, none⟩ (stpV .take b)).heap.size = w.heap.size := by simp
  rw [hsz] at hpop
  have HPop := hide hpop
  have HF : Hid (∀ (w2 : World) (ob : Nat) (o : OpS), Turned [] ((w.setCell ⟨b, 10, none⟩ (.int .i64 0)).setCell ⟨b, 0, none⟩ (stpV .take b)) w2 → w.heap.size ≤ ob → OpB w2 ob d o → (w2.cell? ⟨b, 11, none⟩ = some (.pointer po) ∧ w2.frozen? ⟨b, 11, none⟩ = false) ∧ Out P I k ds w b B S { x with act := .take 0 o } (w2.setCell ⟨b, 11, none⟩ (.pointer (some ⟨ob, 0, none⟩)))) := by
    intro w2 ob o t2 hob hop
    have raw2 := raw1.turned t2 (by simp)
    have t3 : Turned [b] w2 (w2.setCell ⟨b, 11, none⟩ (.pointer (some ⟨ob, 0, none⟩))) := (Turned.refl _ _).setCell (by simp) _
    have hB : ∀ y, y ∈ gh ++ (kv.ownBlock.toList ++ (gp ++ [ob])) → y ∈ B ∨ w.heap.size ≤ y := fun y hy => by
      have := hW.own
      simp only [List.mem_append, List.mem_singleton] at hy
      rcases hy with g | g | g | g
      · left; rw [this]; simp [g]
      · left; rw [this]; simp only [List.mem_append]; exact .inr (.inl g)
      · left; rw [this]; simp [g]
      · right; have := t1.size; omega
    have t13 : Turned [b] w (w2.setCell ⟨b, 11, none⟩ (.pointer (some ⟨ob, 0, none⟩))) := (t1.trans (t2.mono (by simp))).trans t3
    obtain ⟨q1, q2, q3, q4, q5, q6⟩ := hW.partsb t13
    refine ⟨⟨raw2.f 11, raw2.fz 11⟩, _, (h.own hB).keepb hW.raw t13, ⟨gd, cd, hv, kv, pv, gh, gp, [ob], .take, bl, 0, some ⟨ob, 0, none⟩, item, pf, rfl, raw2.set 11 _, q1, q2, q3, q4, q5, rfl, rfl, ob, d, rfl, hd, hop.turned t3 ?_, rfl⟩, hB, t13.mono (Ids.inAll (by simp))⟩
    simp; exact ne_of_type hop raw2 (by decide)
  have hnl : ¬ (0 = (ds.length : Int)) := by omega
  have hl4 : ds.length ≤ 4 := by omega
  generalize ds.length = n at *
  clear hsz hpop h hW C1 p1 p2 p3 p4 p5 p6 raw1 hd hne t1
  simp only [stpV, MStp.fn] at f2 r2
  go_enter Tryz.func76, Tryz.ntmps76
  go_wp2_with fail
  refine HPop.out.mono ?_
  rintro e w2 ⟨rfl, _, h2, h3, _⟩
  obtain ⟨⟨g11, gz11⟩, hO⟩ := HF.out w2 _ _ h3 (Nat.le_refl _) h2
  have HO := hide hO
  clear hO h2 h3 HF HPop f2 r2 f0 f10 z0 z10
  go_wp2_with fail
  first | refine bodyPost_end (results_none rfl _ _ _) rfl ?_ | refine bodyPost_ret (results_none rfl _ _ _) rfl ?_
  exact ⟨rfl, HO.out⟩

set_option maxRecDepth 100000 in
set_option maxHeartbeats 4000000 in
theorem ask_steal (a d : Nat) (h : Cx P I k ds w S b B) (hx : WmX w b I.M I.a ds x B) (hd : ds[a]? = some d) (ha : 1 ≤ a) :
    Calls Tryz.prog 76 #[.pointer (some ⟨b, 0, none⟩), .int .i64 (a : Int)] w fun e w' => e = .returned (.tuple #[]) ∧ Out P I k ds w b B S { x with act := .take a (opNew .stealReadTop 0) } w' := by
  obtain ⟨gd, cd, hv, kv, pv, gh, gp, O, nx, bl, asked, po, item, pf, hW⟩ := hx
  have hal : a < ds.length := (List.getElem?_eq_some_iff.1 hd).1
  have hne := h.ne
  have t1 : Turned [b] w ((w.setCell ⟨b, 10, none⟩ (.int .i64 (a : Int))).setCell ⟨b, 0, none⟩ (stpV .take b)) := ((Turned.refl _ _).setCell (by simp) _).setCell (by simp) _
  have raw1 := (hW.raw.set 10 (.int .i64 (a : Int))).set 0 (stpV .take b)
  have C1 := h.keepb hW.raw t1
  obtain ⟨p1, p2, p3, p4, p5, p6⟩ := hW.partsb t1
  have f2 : ((w.setCell ⟨b, 10, none⟩ (.int .i64 (a : Int))).setCell ⟨b, 0, none⟩ (stpV .take b)).cell? ⟨b, 2, none⟩ = some (.slice (some ⟨gd, 0, none⟩) ds.length cd) := raw1.f 2
  have r2 := p2 a d hd
  have z0 := hW.raw.fz 0
  have z10 := hW.raw.fz 10
  have f0 := hW.raw.f 0
  have f10 := hW.raw.f 10
  simp only [mwCells] at f0 f10
  have hpop := steal_any ((w.setCell ⟨b, 10, none⟩ (.int .i64 (a : Int))).setCell ⟨b, 0, none⟩ (stpV .take b)) d I.p I.q _ S.l S.cs (C1.sh.dq a d hd)
  have hsz : ((w.setCell ⟨b, 10, none⟩ (.int .i64 (a : Int))).setCell ⟨b, 0, none⟩ (stpV .take b)).heap.size = w.heap.size := by simp
  rw [hsz] at hpop
  have HPop := hide hpop
  have HF : Hid (∀ (w2 : World) (ob : Nat) (o : OpS), Turned [] ((w.setCell ⟨b, 10, none⟩ (.int .i64 (a : Int))).setCell ⟨b, 0, none⟩ (stpV .take b)) w2 → w.heap.size ≤ ob → OpB w2 ob d o → (w2.cell? ⟨b, 11, none⟩ = some (.pointer po) ∧ w2.frozen? ⟨b, 11, none⟩ = false) ∧ Out P I k ds w b B S { x with act := .take a o } (w2.setCell ⟨b, 11, none⟩ (.pointer (some ⟨ob, 0, none⟩)))) := by
    intro w2 ob o t2 hob hop
    have raw2 := raw1.turned t2 (by simp)
    have t3 : Turned [b] w2 (w2.setCell ⟨b, 11, none⟩ (.pointer (some ⟨ob, 0, none⟩))) := (Turned.refl _ _).setCell (by simp) _
    have hB : ∀ y, y ∈ gh ++ (kv.ownBlock.toList ++ (gp ++ [ob])) → y ∈ B ∨ w.heap.size ≤ y := fun y hy => by
      have := hW.own
      simp only [List.mem_append, List.mem_singleton] at hy
      rcases hy with g | g | g | g
      · left; rw [this]; simp [g]
      · left; rw [this]; simp only [List.mem_append]; exact .inr (.inl g)
      · left; rw [this]; simp [g]
      · right; have := t1.size; omega
    have t13 : Turned [b] w (w2.setCell ⟨b, 11, none⟩ (.pointer (some ⟨ob, 0, none⟩))) := (t1.trans (t2.mono (by simp))).trans t3
    obtain ⟨q1, q2, q3, q4, q5, q6⟩ := hW.partsb t13
    refine ⟨⟨raw2.f 11, raw2.fz 11⟩, _, (h.own hB).keepb hW.raw t13, ⟨gd, cd, hv, kv, pv, gh, gp, [ob], .take, bl, (a : Int), some ⟨ob, 0, none⟩, item, pf, rfl, raw2.set 11 _, q1, q2, q3, q4, q5, rfl, rfl, ob, d, rfl, hd, hop.turned t3 ?_, rfl⟩, hB, t13.mono (Ids.inAll (by simp))⟩
    simp; exact ne_of_type hop raw2 (by decide)
  have hnl : ¬ ((a : Int) = (ds.length : Int)) := by omega
  have hl4 : ds.length ≤ 4 := by omega
  have ha0 : ¬ ((a : Int) = 0) := by omega
  generalize ds.length = n at *
  clear hsz hpop h hW C1 p1 p2 p3 p4 p5 p6 raw1 hd hne t1
  simp only [stpV, MStp.fn] at f2 r2
  go_enter Tryz.func76, Tryz.ntmps76
  go_wp2_with fail
  refine HPop.out.mono ?_
  rintro e w2 ⟨rfl, _, h2, h3, _⟩
  obtain ⟨⟨g11, gz11⟩, hO⟩ := HF.out w2 _ _ h3 (Nat.le_refl _) h2
  have HO := hide hO
  clear hO h2 h3 HF HPop f2 r2 f0 f10 z0 z10
  go_wp2_with fail
  first | refine bodyPost_end (results_none rfl _ _ _) rfl ?_ | refine bodyPost_ret (results_none rfl _ _ _) rfl ?_
  exact ⟨rfl, HO.out⟩

set_option maxRecDepth 100000 in
set_option maxHeartbeats 4000000 in
theorem ask_end (h : Cx P I k ds w S b B) (hx : WmX w b I.M I.a ds x B) :
    Calls Tryz.prog 76 #[.pointer (some ⟨b, 0, none⟩), .int .i64 (ds.length : Int)] w fun e w' => e = .returned (.tuple #[]) ∧ Out P I k ds w b B S { x with act := .end_ ofNew } w' := by
  obtain ⟨gd, cd, hv, kv, pv, gh, gp, O, nx, bl, asked, po, item, pf, hW⟩ := hx
  have hne := h.ne
  have t1 : Turned [b] w ((w.setCell ⟨b, 10, none⟩ (.int .i64 (ds.length : Int))).setCell ⟨b, 0, none⟩ (stpV .take b)) := ((Turned.refl _ _).setCell (by simp) _).setCell (by simp) _
  have raw1 := (hW.raw.set 10 (.int .i64 (ds.length : Int))).set 0 (stpV .take b)
  have C1 := h.keepb hW.raw t1
  obtain ⟨p1, p2, p3, p4, p5, p6⟩ := hW.partsb t1
  have f1 : ((w.setCell ⟨b, 10, none⟩ (.int .i64 (ds.length : Int))).setCell ⟨b, 0, none⟩ (stpV .take b)).cell? ⟨b, 1, none⟩ = some (.pointer (some ⟨I.M, 0, none⟩)) := raw1.f 1
  have f2 : ((w.setCell ⟨b, 10, none⟩ (.int .i64 (ds.length : Int))).setCell ⟨b, 0, none⟩ (stpV .take b)).cell? ⟨b, 2, none⟩ = some (.slice (some ⟨gd, 0, none⟩) ds.length cd) := raw1.f 2
  have gM : ((w.setCell ⟨b, 10, none⟩ (.int .i64 (ds.length : Int))).setCell ⟨b, 0, none⟩ (stpV .take b)).cell? ⟨I.M, 2, none⟩ = some (.pointer (some ⟨I.a, 0, none⟩)) := C1.mkr.f 2
  have z0 := hW.raw.fz 0
  have z10 := hW.raw.fz 10
  have f0 := hW.raw.f 0
  have f10 := hW.raw.f 10
  simp only [mwCells] at f0 f10
  have nb := C1.mkr.ne raw1
  have HOf : Hid (∀ w', Turned [] ((w.setCell ⟨b, 10, none⟩ (.int .i64 (ds.length : Int))).setCell ⟨b, 0, none⟩ (stpV .take b)) w' → Calls Tryz.prog 82 #[.pointer (some ⟨I.a, 0, none⟩), .slice (some ⟨gd, 0, none⟩) ds.length cd] w' fun e w'' => ∃ fb, e = .returned (.pointer (some ⟨fb, 0, none⟩)) ∧ w.heap.size ≤ fb ∧ OfB w'' fb I.a ds ofNew ∧ Turned [] ((w.setCell ⟨b, 10, none⟩ (.int .i64 (ds.length : Int))).setCell ⟨b, 0, none⟩ (stpV .take b)) w'') := by
    intro w' t
    refine (offer_any w' I.a I.p I.q ds (P.Q k) S.l S.cs gd 0 cd hne.1 (fun i d hi => ?_) (C1.keep0 t).sh).mono ?_
    · rw [Nat.zero_add]
      obtain ⟨c8, fr8, hr8⟩ := p1
      rw [t.cell (p := ⟨gd, i, none⟩) (lt_of_heap hr8) (by simp)]
      exact p2 i d hi
    · rintro e w'' ⟨fb, h1, h2, h3, h4⟩
      refine ⟨fb, h1, ?_, h3, t.trans h4⟩
      have := t.size
      have := t1.size
      omega
  have HF : Hid (∀ (w2 : World) (fb : Nat), Turned [] ((w.setCell ⟨b, 10, none⟩ (.int .i64 (ds.length : Int))).setCell ⟨b, 0, none⟩ (stpV .take b)) w2 → w.heap.size ≤ fb → OfB w2 fb I.a ds ofNew → (w2.cell? ⟨b, 13, none⟩ = some (.pointer pf) ∧ w2.frozen? ⟨b, 13, none⟩ = false ∧ w2.cell? ⟨b, 0, none⟩ = some (stpV .take b) ∧ w2.frozen? ⟨b, 0, none⟩ = false ∧ WmR w2 b (((mwCells nx b I.M gd ds.length cd hv kv bl pv asked po item pf x.seen x.ended).setIfInBounds 10 (.int .i64 (ds.length : Int))).setIfInBounds 0 (stpV .take b)) ∧ MkR w2 I.M (I.cells S.fault)) ∧ Out P I k ds w b B S { x with act := .end_ ofNew } ((w2.setCell ⟨b, 13, none⟩ (.pointer (some ⟨fb, 0, none⟩))).setCell ⟨b, 0, none⟩ (stpV .end_ b))) := by
    intro w2 fb t2 hob hop
    have raw2 := raw1.turned t2 (by simp)
    have t3 : Turned [b] w2 ((w2.setCell ⟨b, 13, none⟩ (.pointer (some ⟨fb, 0, none⟩))).setCell ⟨b, 0, none⟩ (stpV .end_ b)) := ((Turned.refl _ _).setCell (by simp) _).setCell (by simp) _
    have hB : ∀ y, y ∈ gh ++ (kv.ownBlock.toList ++ (gp ++ [fb])) → y ∈ B ∨ w.heap.size ≤ y := fun y hy => by
      have := hW.own
      simp only [List.mem_append, List.mem_singleton] at hy
      rcases hy with g | g | g | g
      · left; rw [this]; simp [g]
      · left; rw [this]; simp only [List.mem_append]; exact .inr (.inl g)
      · left; rw [this]; simp [g]
      · right; omega
    have t13 := (t1.trans (t2.mono (by simp))).trans t3
    obtain ⟨q1, q2, q3, q4, q5, q6⟩ := hW.partsb t13
    obtain ⟨cf, hcf⟩ := hop.type
    refine ⟨⟨raw2.f 13, raw2.fz 13, raw2.f 0, raw2.fz 0, raw2, (C1.keep0 t2).mkr⟩, _, (h.own hB).keepb hW.raw t13, ⟨gd, cd, hv, kv, pv, gh, gp, [fb], .end_, bl, _, po, item, some ⟨fb, 0, none⟩, rfl, (raw2.set 13 _).set 0 _, q1, q2, q3, q4, q5, rfl, fb, rfl, hop.off t3 ?_ (Off.one raw2 (by decide)), rfl⟩, hB, t13.mono (Ids.inAll (by simp))⟩
    simp; exact ne_of_type hcf raw2 (by decide)
  have hl4 : ds.length ≤ 4 := by omega
  have hl0 : 0 < ds.length := hne.1
  generalize ds.length = n at *
  clear h hW C1 p1 p2 p3 p4 p5 p6 raw1 hne t1
  simp only [stpV, MStp.fn] at f1 f2 gM
  go_enter Tryz.func76, Tryz.ntmps76
  go_wp2_with fail
  go_region_held3 (fun w' => w'.cell? ⟨b, 1, none⟩ = some (.pointer (some ⟨I.M, 0, none⟩)) ∧ w'.cell? ⟨I.M, 2, none⟩ = some (.pointer (some ⟨I.a, 0, none⟩)) ∧ w'.cell? ⟨b, 2, none⟩ = some (.slice (some ⟨gd, 0, none⟩) n cd)) (first | go_keep | (dsimp only; refine ⟨?_, ?_, ?_⟩ <;> first | go_keep | exact SB1 _ | exact SB2 _ | exact SB3 _ _ | exact SB4 _ _ | exact SB5 _ | exact SB6 _))
    (first
      | (go_at_call 82; refine (HOf.out _ (Turned.refl _ _).drew).mono ?_; rintro e w2 ⟨fb, rfl, q1, q2, q3⟩; obtain ⟨⟨g13, z13, g0, zz0, raw2, mk2⟩, hO⟩ := HF.out w2 fb q3 q1 q2; have y1 := (show w2.cell? ⟨b, 1, none⟩ = some (.pointer (some ⟨I.M, 0, none⟩)) from raw2.f 1); have y2 := (show w2.cell? ⟨b, 2, none⟩ = some (.slice (some ⟨gd, 0, none⟩) n cd) from raw2.f 2); have yM := (show w2.cell? ⟨I.M, 2, none⟩ = some (.pointer (some ⟨I.a, 0, none⟩)) from mk2.f 2); have SB1 := (fun (v : Value) => keep_own raw2 (i := 13) (j := 1) (by decide) v y1); have SB2 := (fun (v : Value) => keep_own raw2 (i := 13) (j := 2) (by decide) v y2); have SB3 := (fun (v u : Value) => keep_own (raw2.set 13 v) (i := 0) (j := 1) (by decide) u (keep_own raw2 (i := 13) (j := 1) (by decide) v y1)); have SB4 := (fun (v u : Value) => keep_own (raw2.set 13 v) (i := 0) (j := 2) (by decide) u (keep_own raw2 (i := 13) (j := 2) (by decide) v y2)); have SB5 := (fun (v : Value) => keep_own raw2 (i := 0) (j := 1) (by decide) v y1); have SB6 := (fun (v : Value) => keep_own raw2 (i := 0) (j := 2) (by decide) v y2); have n2 := Ne.symm nb; have HO := hide hO; clear hO raw2 mk2 q1 q2 q3 HOf HF))
  all_goals
    go_wp2_with fail
    first | refine bodyPost_end (results_none rfl _ _ _) rfl ?_ | refine bodyPost_ret (results_none rfl _ _ _) rfl ?_
    exact ⟨rfl, HO.out⟩

/-- It turns to a deque, or offers to end. -/
theorem ask_any (a : Nat) (h : Cx P I k ds w S b B) (hx : WmX w b I.M I.a ds x B) (ha : a ≤ P.n) :
    Calls Tryz.prog 76 #[.pointer (some ⟨b, 0, none⟩), .int .i64 (a : Int)] w fun e w' => e = .returned (.tuple #[]) ∧ Out P I k ds w b B S (askW P x a) w' := by
  have hne := h.ne
  unfold askW
  by_cases e : a = P.n
  · rw [if_pos e]
    have e2 : a = ds.length := by omega
    subst e2
    exact ask_end P I k ds w S b B x h hx
  · rw [if_neg e]
    obtain ⟨d, hd⟩ : ∃ d, ds[a]? = some d := ⟨ds[a]'(by omega), by simp⟩
    by_cases e0 : a = 0
    · subst e0
      rw [if_pos rfl]
      exact ask_pop P I k ds w S b B x d h hx hd
    · rw [if_neg e0]
      exact ask_steal P I k ds w S b B x a d h hx hd (by omega)

end
end Go.Proofs.YtgbclfhgpkmcnaaGreatDoor

/-
  Steps of a worker of package mark: what it kept is scanned (takeKept).
-/
namespace Go.Proofs.YtgbclfhgpkmcnaaGreatDoor
open Go.RowKit
set_option linter.unusedVariables false

theorem flat_last (T : List Blk) (bk : Blk) (j : Nat) (hj : j < 4) : (flat (T ++ [bk]))[T.length * 4 + j]? = bk.cells[j]? := by
  rw [flat_snoc, List.getElem?_append_right (by rw [flat_length]; omega), flat_length]
  congr 1
  omega
/-- The last one is taken. -/
theorem Kp.snoc {w : World} {v : Value} {T : List Blk} {bk : Blk} (h : Kp w v (T ++ [bk])) : ∃ g cap, v = .slice (some ⟨g, 0, none⟩) (T.length + 1) cap ∧ T.length + 1 ≤ cap ∧ (∀ j u, bk.cells[j]? = some u → w.cell? ⟨g, T.length * 4 + j, none⟩ = some u) ∧ Kp w (.slice (some ⟨g, 0, none⟩) T.length cap) T := by
  unfold Kp at h
  rw [List.length_append] at h
  rcases h.2 with ⟨_, h0⟩ | ⟨g, cap, cur, hv, hg, hh, hc, hm, hs, ht⟩
  · simp at h0
  · simp only [List.length_cons, List.length_nil, Nat.zero_add] at hv hc ht
    refine ⟨g, cap, hv, hc, fun j u hu => ?_, ⟨by rw [flat_length], .inr ⟨g, cap, cur, rfl, hg, hh, by omega, hm, hs, ?_⟩⟩⟩
    · have hj : j < 4 := by have := (List.getElem?_eq_some_iff.1 hu).1; simpa [Blk.cells] using this
      rw [cell_of_heap hh]
      have h1 := flat_last T bk j hj
      rw [← ht, List.getElem?_take, if_pos (by omega)] at h1
      rw [hu] at h1
      simpa using h1
    · have h2 : (cur.toList.take ((T.length + 1) * 4)).take (T.length * 4) = (flat (T ++ [bk])).take (T.length * 4) := by rw [ht]
      rw [List.take_take, Nat.min_eq_left (by omega), flat_snoc, List.take_append_of_le_length (by rw [flat_length]; omega)] at h2
      rw [h2]
      exact List.take_of_length_le (by rw [flat_length]; omega)

set_option maxRecDepth 100000 in
/-- 'l[:n]' of a slice of n + 1. -/
theorem slice_last (g n cap : Nat) (hn : n + 1 ≤ cap) (w : World) : (Instr.slice 40 (.slice (some ⟨g, 0, none⟩) (n + 1) cap) none (some (.int .i64 (n : Int))) none).run Tryz.prog w = .ok (.slice (some ⟨g, 0, none⟩) n cap) w := by
  rw [run_slice_h (P := Tryz.prog) w 40 _ _ _ Tryz.underlying40 .i64 n (by omega) (by omega)]
  show Result.ok (sliced _ 0 (n : Int).toNat cap 4) w = _
  simp [sliced, Addr.add]

section
variable (P : MP) (I : Ids) (k : Nat) (ds : List Nat) (w : World) (S : MS) (b : Nat) (B : List Nat) (x : MW)
set_option maxRecDepth 100000 in
set_option maxHeartbeats 2000000 in
theorem takeKept_any (T : List Blk) (bk : Blk) (h : Cx P I k ds w S b B) (hx : WmX w b I.M I.a ds x B) (ha : x.act = .choose) (hk : x.kept = T ++ [bk]) (hl : T.length ≤ 1000000) (hse : 0 ≤ x.seen ∧ x.seen ≤ 1000000) (hn : In64 bk.n) (ht : 0 ≤ bk.t ∧ bk.t ≤ 65536) :
    Calls Tryz.prog 75 #[.pointer (some ⟨b, 0, none⟩)] w fun e w' => e = .returned (.tuple #[]) ∧ Out P I k ds w b B S (scanW P { x with kept := T } bk) w' := by
  obtain ⟨gd, cd, hv, kv, pv, gh, gp, O, nx, bl, asked, po, item, pf, hW⟩ := hx
  have hact := hW.act
  rw [ha] at hact
  obtain ⟨rfl, rfl⟩ := hact
  have hK := hW.kept
  rw [hk] at hK
  obtain ⟨g, cap, rfl, hcap, hcell, hrest⟩ := hK.snoc
  have l4 : w.cell? ⟨b, 4, none⟩ = some (.slice (some ⟨g, 0, none⟩) (T.length + 1) cap) := hW.raw.f 4
  have z4 := hW.raw.fz 4
  have lb := hW.raw.lt
  have r0 := hcell 0 (.int .i64 bk.t) rfl
  have r1 := hcell 1 (.int .i64 bk.k) rfl
  have r2 := hcell 2 (.int .i64 bk.n) rfl
  have r3 := hcell 3 (.int .i64 bk.s) rfl
  rw [Nat.add_zero] at r0
  have hsl := slice_last g T.length cap hcap
  have t1 : Turned [b] w (w.setCell ⟨b, 4, none⟩ (.slice (some ⟨g, 0, none⟩) T.length cap)) := (Turned.refl _ _).setCell (by simp) _
  have hgb : g ≠ b := by
    obtain ⟨c, fr, h1⟩ := hK.types g rfl
    exact ne_of_type h1 hW.raw (by decide)
  have HS : Hid (∀ o, Calls Tryz.prog 81 #[.pointer (some ⟨b, 0, none⟩), bk.val] ((w.setCell ⟨b, 4, none⟩ (.slice (some ⟨g, 0, none⟩) T.length cap)).alloc o) fun e w' => e = .returned (.tuple #[]) ∧ Out P I k ds w b B S (scanW P { x with kept := T } bk) w') := by
    intro o
    obtain ⟨p1, p2, p3, p4, p5, p6⟩ := hW.partsb t1
    have W1 : Wm (w.setCell ⟨b, 4, none⟩ (.slice (some ⟨g, 0, none⟩) T.length cap)) b I.M I.a ds { x with kept := T } B gd cd hv (.slice (some ⟨g, 0, none⟩) T.length cap) pv gh gp [] .choose bl asked po item pf := by
      refine ⟨hW.own, hW.raw.set 4 _, p1, p2, p3, hrest.turned t1 (fun y hy => ?_), p5, p6⟩
      simp [Value.ownBlock] at hy
      subst hy
      simp; exact hgb
    have tA : Turned [] (w.setCell ⟨b, 4, none⟩ (.slice (some ⟨g, 0, none⟩) T.length cap)) ((w.setCell ⟨b, 4, none⟩ (.slice (some ⟨g, 0, none⟩) T.length cap)).alloc o) := (Turned.refl _ _).alloc o
    refine (scan_out bk ((h.keepb hW.raw t1).keep0 tA) (W1.keep0 tA) ha hse hn ht).mono ?_
    rintro e w' ⟨rfl, hO⟩
    exact ⟨rfl, hO.trans ((t1.mono (Ids.inAll (by simp))).alloc o) (fun y hy => .inl hy)⟩
  simp only [Blk.val] at HS
  generalize T.length = n at *
  have d1 : wrap64 ((n : Int) + 1 - 1) = (n : Int) := by rw [w64 _ (by omega)]; omega
  clear h hW hK hcell hrest t1 hk ha hn ht hse
  go_enter Tryz.func75, Tryz.ntmps75
  go_wp2_with fail
  refine (HS.out _).mono ?_
  rintro e w3 ⟨rfl, hO⟩
  have HO := hide hO
  clear hO
  go_wp2_with fail
  first | refine bodyPost_end (results_none rfl _ _ _) rfl ?_ | refine bodyPost_ret (results_none rfl _ _ _) rfl ?_
  exact ⟨rfl, HO.out⟩
end
end Go.Proofs.YtgbclfhgpkmcnaaGreatDoor

/-
  Steps of a worker of package mark: a step of a take, of a push, of an offer (take, push, end).
-/
namespace Go.Proofs.YtgbclfhgpkmcnaaGreatDoor
open Go.RowKit
set_option linter.unusedVariables false

set_option maxHeartbeats 4000000 in
set_option maxRecDepth 4000 in
/-- An offer's step, with its access. -/
theorem qstep_exact (w : World) (a p q b : Nat) (ds : List Nat) (Q : QC) (l : List Int) (s : Int) (o : OfS) (hb : -1000000 ≤ cnt Q l ∧ cnt Q l ≤ 1000000) (hk : QOk Q o) (hst : o.state = 0) (h : Sh w a p q ds Q l s) (ho : OfB w b a ds o) :
    Calls Tryz.prog 95 #[.pointer (some ⟨b, 0, none⟩)] w fun e w' => e = .returned (.int .i64 (stepQ Q l o).2.state) ∧ Sh w' a p q ds Q (stepQ Q l o).1 (wrap64 (s + 1)) ∧ OfB w' b a ds (stepQ Q l o).2 ∧ Turned [p, q, b] w w' := by
  have HA := qact_any w a p q b ds Q l s o hb hk hst h ho
  have f0 := ho.f0
  have H := hide (state_any w a b ds o ho)
  rw [hst] at H
  generalize stepQ Q l o = R at *
  clear ho h hk hst hb
  generalize o.at_ = at_ at *
  cases at_
  all_goals (
    simp only [QStp.fn] at HA f0
    have HB := hide HA
    clear HA
    go_enter Tryz.func95, Tryz.ntmps95
    go_wp2_with fail
    refine H.out.mono ?_
    rintro e w1 ⟨rfl, rfl⟩
    clear H
    go_wp2_with fail
    refine HB.out.mono ?_
    rintro e w2 ⟨rfl, h1, h2, h3⟩
    have H2 := hide (state_any w2 a b ds _ h2)
    have H3 := hide (And.intro h1 (And.intro h2 h3))
    clear HB h1 h2 h3 f0
    go_wp2_with fail
    refine H2.out.mono ?_
    rintro e w3 ⟨rfl, rfl⟩
    go_wp2_with fail
    go_ret
    exact ⟨rfl, H3.out⟩)

section
variable {P : MP} {I : Ids} {k : Nat} {ds : List Nat} {w w' : World} {S : MS} {b : Nat} {B : List Nat} {x : MW} {gd cd : Nat} {hv kv pv : Value} {gh gp O : List Nat} {nx : MStp} {bl : Blk} {asked : Int} {po : Option Addr} {item : Int} {pf : Option Addr}
/-- A worker behind a step of its operation (ob) or offer, but for that. -/
theorem Cx.stepW (c : Cx P I k ds w S b B) (h : Wm w b I.M I.a ds x B gd cd hv kv pv gh gp O nx bl asked po item pf) {ob : Nat} {cc : Array Value} {eo : TypeId} {fr : Nat × Nat} (ho : w.heap[ob]? = some (.cells cc eo fr)) (he : eo = 170 ∨ eo = 166) (t : Turned [I.p, I.q, ob] w w') :
    (∃ c fr, w'.heap[gd]? = some (.cells c 120 fr)) ∧ (∀ (i d : Nat), ds[i]? = some d → w'.cell? ⟨gd, i, none⟩ = some (.pointer (some ⟨d, 0, none⟩))) ∧ WmR w' b (mwCells nx b I.M gd ds.length cd hv kv bl pv asked po item pf x.seen x.ended) ∧ Sl 2 w' hv x.hands gh ∧ Kp w' kv x.kept ∧ Sl 3 w' pv x.places gp := by
  have o : ∀ e, 109 ≠ e → 2 ≠ e → 170 ≠ e → 166 ≠ e → Off w [I.p, I.q, ob] e := fun e h1 h2 h3 h4 => Off.cons c.sh.mem.head h1 (Off.cons c.sh.mem.row h2 (Off.one ho (by rcases he with rfl | rfl <;> assumption)))
  obtain ⟨c1, fr1, hr⟩ := h.row
  have hgd := (o _ (by decide) (by decide) (by decide) (by decide)).not hr
  refine ⟨⟨c1, fr1, t.at hr hgd⟩, fun i d hi => by rw [t.cell (p := ⟨gd, i, none⟩) (lt_of_heap hr) hgd]; exact h.rows i d hi, h.raw.turned t ((o _ (by decide) (by decide) (by decide) (by decide)).not h.raw), h.hands.turned t (fun y hy => ?_), h.kept.turned t (fun y hy => ?_), h.places.turned t (fun y hy => ?_)⟩
  · obtain ⟨c2, fr2, g2⟩ := h.hands.types y hy
    have hB : y ∈ B := by rw [h.own]; simp [hy]
    simp
    refine ⟨ne_of_type g2 c.sh.mem.head (by decide), fun e => c.ap.2.2.2 (e ▸ hB), ne_of_type g2 ho ?_⟩
    rcases he with rfl | rfl <;> decide
  · obtain ⟨c2, fr2, g2⟩ := h.kept.types y hy
    exact (o _ (by decide) (by decide) (by decide) (by decide)).not g2
  · obtain ⟨c2, fr2, g2⟩ := h.places.types y hy
    exact (o _ (by decide) (by decide) (by decide) (by decide)).not g2
/-- The control's count and deques behind a deque's step. -/
theorem Sh.stepD {a p q : Nat} {Q : QC} {l l' : List Int} {s s' : Int} {ob i d : Nat} {C : Cfg} {cc : Array Value} {fr : Nat × Nat} (h : Sh w a p q ds Q l s) (hd : ds[i]? = some d) (ho : w.heap[ob]? = some (.cells cc 170 fr)) (hD : Dq w' d p q C l' s') (hl : l'.length = l.length) (t : Turned [p, q, ob] w w') : Sh w' a p q ds Q l' s' := by
  have h1 : w'.heap[a]? = some (.cells #[.pointer (some ⟨p, 0, none⟩), .int .i64 Q.at_, .int .i64 Q.n] 136) := t.at h.head (by
    simp
    exact ⟨ne_of_type h.head h.mem.head (by decide), ne_of_type h.head h.mem.row (by decide), ne_of_type h.head ho (by decide)⟩)
  refine ⟨h1, by rw [hl]; exact h.cell, by rw [hl]; exact h.most, h.n, h.len, hD.mem, fun j e hj => ?_⟩
  have h2 := h.dq j e hj
  refine ⟨h2.ne, h2.cap, h2.over, by rw [hl]; exact h2.room, by rw [hl]; exact h2.most, t.at h2.head ?_, hD.mem⟩
  simp
  exact ⟨h2.ne.1, h2.ne.2, ne_of_type h2.head ho (by decide)⟩
end

section
variable (P : MP) (I : Ids) (k : Nat) (ds : List Nat) (w : World) (S : MS) (b : Nat) (B : List Nat) (x : MW)

set_option maxRecDepth 100000 in
set_option maxHeartbeats 4000000 in
theorem take_any (a : Nat) (o : OpS) (h : Cx P I k ds w S b B) (hx : WmX w b I.M I.a ds x B) (ha : x.act = .take a o) (hn : a < P.n) (hd : o.done = false) (hfit : Fit (P.dq k a) S.l o 1000000) (hcs : 0 ≤ S.cs ∧ S.cs ≤ 1000000) :
    Calls Tryz.prog 77 #[.pointer (some ⟨b, 0, none⟩)] w fun e w' => e = .returned (.tuple #[]) ∧ Out P I k ds w b B { S with l := (stepOf (P.dq k a) S.l o).1, cs := S.cs + 1 } (tookW P x a (stepOf (P.dq k a) S.l o).2) w' := by
  obtain ⟨gd, cd, hv, kv, pv, gh, gp, O, nx, bl, asked, po, item, pf, hW⟩ := hx
  have hact := hW.act
  rw [ha] at hact
  obtain ⟨rfl, rfl, ob, d, rfl, hdk, hop, rfl⟩ := hact
  have hobB : ob ∈ B := by rw [hW.own]; simp
  have f11 : w.cell? ⟨b, 11, none⟩ = some (.pointer (some ⟨ob, 0, none⟩)) := hW.raw.f 11
  have hD := h.sh.dq a d hdk
  rw [P.cOf hn] at hD
  have hst := step_any w d I.p I.q ob (P.dq k a) S.l S.cs 1000000 (by omega) o hfit ⟨ne_of_type hop hD.head (by decide), ne_of_type hop hD.mem.head (by decide), ne_of_type hop hD.mem.row (by decide)⟩ hD hop
  rw [hd] at hst
  simp only [Bool.false_eq_true, if_false] at hst
  rw [w64 _ (by omega)] at hst
  have HA := hide hst
  -- behind the operation's step
  have HK : Hid (∀ w1, Dq w1 d I.p I.q (P.dq k a) (stepOf (P.dq k a) S.l o).1 (S.cs + 1) → OpB w1 ob d (stepOf (P.dq k a) S.l o).2 → Turned [I.p, I.q, ob] w w1 → Cx P I k ds w1 { S with l := (stepOf (P.dq k a) S.l o).1, cs := S.cs + 1 } b B ∧ Wm w1 b I.M I.a ds { x with act := .take a (stepOf (P.dq k a) S.l o).2 } B gd cd hv kv pv gh gp [ob] .take bl a (some ⟨ob, 0, none⟩) item pf ∧ Turned (I.all b B) w w1) := by
    intro w1 r1 r2 t
    have hsh := h.sh.stepD hdk hop r1 (stepOf_len _ _ _) t
    obtain ⟨p1, p2, p3, p4, p5, p6⟩ := h.stepW hW hop (.inl rfl) t
    exact ⟨h.stepped hobB hop (.inl rfl) t hsh, ⟨hW.own, p3, p1, p2, p4, p5, p6, rfl, rfl, ob, d, rfl, hdk, r2, rfl⟩, t.mono (Ids.inAll (by simp [hobB]))⟩
  generalize hR : stepOf (P.dq k a) S.l o = R at *
  clear hst
  have HAsk : Hid (∀ w1 (a' : Nat), a' ≤ P.n → Cx P I k ds w1 { S with l := R.1, cs := S.cs + 1 } b B → Wm w1 b I.M I.a ds { x with act := .take a R.2 } B gd cd hv kv pv gh gp [ob] .take bl a (some ⟨ob, 0, none⟩) item pf → Turned (I.all b B) w w1 → Calls Tryz.prog 76 #[.pointer (some ⟨b, 0, none⟩), .int .i64 (a' : Int)] w1 fun e w' => e = .returned (.tuple #[]) ∧ Out P I k ds w b B { S with l := R.1, cs := S.cs + 1 } (askW P x a') w') := by
    intro w1 a' h1 C W T
    refine (ask_any P I k ds w1 _ b B _ a' C ⟨_, _, _, _, _, _, _, _, _, _, _, _, _, _, W⟩ h1).mono ?_
    rintro e w' ⟨rfl, hO⟩
    refine ⟨rfl, ?_⟩
    have := hO.trans T (fun y hy => .inl hy)
    unfold askW at this ⊢
    exact this
  have hn4 := h.ne
  have hraw := hW.raw
  clear hD hop hfit h hW hobB hdk ha hd hR
  unfold tookW
  cases hdone : R.2.done
  · rw [hdone] at HA
    clear HAsk hraw
    go_enter Tryz.func77, Tryz.ntmps77
    go_wp2_with fail
    refine HA.out.mono ?_
    rintro e w1 ⟨rfl, r1, r2, t⟩
    have H1 := hide (HK.out w1 r1 r2 t)
    clear r1 r2 t HA HK f11
    go_wp2_with fail
    first | refine bodyPost_end (results_none rfl _ _ _) rfl ?_ | refine bodyPost_ret (results_none rfl _ _ _) rfl ?_
    obtain ⟨C, W, T⟩ := H1.out
    exact ⟨rfl, B, C, ⟨_, _, _, _, _, _, _, _, _, _, _, _, _, _, W⟩, fun y hy => .inl hy, T⟩
  · rw [hdone] at HA
    simp only [if_true]
    have HV : Hid (∀ w1, OpB w1 ob d R.2 → Calls Tryz.prog 87 #[.pointer (some ⟨ob, 0, none⟩)] w1 fun e w' => e = .returned (.tuple #[.int .i64 (valOf R.2).1, .int .i64 (valOf R.2).2]) ∧ Turned [] w1 w') := by
      intro w1 h1
      refine (value_any w1 d ob R.2 h1).mono ?_
      rintro e w' ⟨rfl, m, rfl⟩
      exact ⟨rfl, (Turned.refl _ _).drewN m⟩
    have HOp : Hid (∀ w1 v, Cx P I k ds w1 { S with l := R.1, cs := S.cs + 1 } b B → Wm w1 b I.M I.a ds { x with act := .take a R.2 } B gd cd hv kv pv gh gp [ob] .take bl a (some ⟨ob, 0, none⟩) item pf → Turned (I.all b B) w w1 → Out P I k ds w b B { S with l := R.1, cs := S.cs + 1 } { x with act := .open_ v } ((w1.setCell ⟨b, 12, none⟩ (.int .i64 v)).setCell ⟨b, 0, none⟩ (stpV .open_ b))) := by
      intro w1 v C W T
      have t3 : Turned [b] w1 ((w1.setCell ⟨b, 12, none⟩ (.int .i64 v)).setCell ⟨b, 0, none⟩ (stpV .open_ b)) := ((Turned.refl _ _).setCell (by simp) _).setCell (by simp) _
      obtain ⟨p1, p2, p3, p4, p5, p6⟩ := W.partsb t3
      have hB : ∀ y, y ∈ gh ++ (kv.ownBlock.toList ++ (gp ++ [])) → y ∈ B ∨ w1.heap.size ≤ y := fun y hy => by
        left
        rw [W.own]
        simp only [List.append_nil, List.mem_append] at hy ⊢
        rcases hy with h | h | h
        · exact .inl h
        · exact .inr (.inl h)
        · exact .inr (.inr (.inl h))
      refine Out.trans (B1 := B) ⟨_, (C.own hB).keepb W.raw t3, ⟨gd, cd, hv, kv, pv, gh, gp, [], .open_, bl, a, some ⟨ob, 0, none⟩, v, pf, rfl, (W.raw.set 12 _).set 0 _, p1, p2, p3, p4, p5, rfl, rfl, rfl⟩, hB, t3.mono (Ids.inAll (by simp))⟩ T (fun y hy => .inl hy)
    generalize valOf R.2 = V at *
    obtain ⟨vi, ve⟩ := V
    simp only at HV ⊢
    have d1 : wrap64 ((a : Int) + 1) = ((a + 1 : Nat) : Int) := by rw [w64 _ (by omega)]; omega
    clear hraw
    by_cases e0 : ve = 0
    · subst e0
      simp only [if_true]
      go_enter Tryz.func77, Tryz.ntmps77
      go_wp2_with fail
      refine HA.out.mono ?_
      rintro e w1 ⟨rfl, r1, r2, t⟩
      have HV1 := hide (HV.out w1 r2)
      have H1 := hide (HK.out w1 r1 r2 t)
      have g11 : w1.cell? ⟨b, 11, none⟩ = some (.pointer (some ⟨ob, 0, none⟩)) := H1.out.2.1.raw.f 11
      clear r1 r2 t HA HK f11 HV
      go_wp2_with fail
      refine HV1.out.mono ?_
      rintro e w2 ⟨rfl, t2⟩
      have H2 := hide (And.intro (H1.out.1.keep0 t2) (And.intro (H1.out.2.1.keep0 t2) (H1.out.2.2.trans (t2.mono (by simp)))))
      have y0 : w2.cell? ⟨b, 0, none⟩ = some (stpV .take b) := H2.out.2.1.raw.f 0
      have y10 : w2.cell? ⟨b, 10, none⟩ = some (.int .i64 a) := H2.out.2.1.raw.f 10
      have y12 : w2.cell? ⟨b, 12, none⟩ = some (.int .i64 item) := H2.out.2.1.raw.f 12
      have z0 := H2.out.2.1.raw.fz 0
      have z12 := H2.out.2.1.raw.fz 12
      clear t2 H1 HV1 g11
      have HO := hide (HOp.out w2 vi H2.out.1 H2.out.2.1 H2.out.2.2)
      clear HOp HAsk H2
      go_wp2_with fail
      first | refine bodyPost_end (results_none rfl _ _ _) rfl ?_ | refine bodyPost_ret (results_none rfl _ _ _) rfl ?_
      exact ⟨rfl, HO.out⟩
    · rw [if_neg e0]
      by_cases e16 : ve = 16
      · subst e16
        rw [if_pos rfl]
        go_enter Tryz.func77, Tryz.ntmps77
        go_wp2_with fail
        refine HA.out.mono ?_
        rintro e w1 ⟨rfl, r1, r2, t⟩
        have HV1 := hide (HV.out w1 r2)
        have H1 := hide (HK.out w1 r1 r2 t)
        have g11 : w1.cell? ⟨b, 11, none⟩ = some (.pointer (some ⟨ob, 0, none⟩)) := H1.out.2.1.raw.f 11
        clear r1 r2 t HA HK f11 HV
        go_wp2_with fail
        refine HV1.out.mono ?_
        rintro e w2 ⟨rfl, t2⟩
        have H2 := hide (And.intro (H1.out.1.keep0 t2) (And.intro (H1.out.2.1.keep0 t2) (H1.out.2.2.trans (t2.mono (by simp)))))
        have y0 : w2.cell? ⟨b, 0, none⟩ = some (stpV .take b) := H2.out.2.1.raw.f 0
        have y10 : w2.cell? ⟨b, 10, none⟩ = some (.int .i64 a) := H2.out.2.1.raw.f 10
        have y12 : w2.cell? ⟨b, 12, none⟩ = some (.int .i64 item) := H2.out.2.1.raw.f 12
        have z0 := H2.out.2.1.raw.fz 0
        have z12 := H2.out.2.1.raw.fz 12
        clear t2 H1 HV1 g11
        have HC := hide (HAsk.out w2 a (by omega) H2.out.1 H2.out.2.1 H2.out.2.2)
        clear HOp HAsk H2
        go_wp2_with fail
        refine HC.out.mono ?_
        rintro e w3 ⟨rfl, hO⟩
        have HO := hide hO
        clear hO HC
        go_wp2_with fail
        first | refine bodyPost_end (results_none rfl _ _ _) rfl ?_ | refine bodyPost_ret (results_none rfl _ _ _) rfl ?_
        exact ⟨rfl, HO.out⟩
      · rw [if_neg e16]
        go_enter Tryz.func77, Tryz.ntmps77
        go_wp2_with fail
        refine HA.out.mono ?_
        rintro e w1 ⟨rfl, r1, r2, t⟩
        have HV1 := hide (HV.out w1 r2)
        have H1 := hide (HK.out w1 r1 r2 t)
        have g11 : w1.cell? ⟨b, 11, none⟩ = some (.pointer (some ⟨ob, 0, none⟩)) := H1.out.2.1.raw.f 11
        clear r1 r2 t HA HK f11 HV
        go_wp2_with fail
        refine HV1.out.mono ?_
        rintro e w2 ⟨rfl, t2⟩
        have H2 := hide (And.intro (H1.out.1.keep0 t2) (And.intro (H1.out.2.1.keep0 t2) (H1.out.2.2.trans (t2.mono (by simp)))))
        have y0 : w2.cell? ⟨b, 0, none⟩ = some (stpV .take b) := H2.out.2.1.raw.f 0
        have y10 : w2.cell? ⟨b, 10, none⟩ = some (.int .i64 a) := H2.out.2.1.raw.f 10
        have y12 : w2.cell? ⟨b, 12, none⟩ = some (.int .i64 item) := H2.out.2.1.raw.f 12
        have z0 := H2.out.2.1.raw.fz 0
        have z12 := H2.out.2.1.raw.fz 12
        clear t2 H1 HV1 g11
        have HC := hide (HAsk.out w2 (a + 1) (by omega) H2.out.1 H2.out.2.1 H2.out.2.2)
        clear HOp HAsk H2
        go_wp2_with fail
        refine HC.out.mono ?_
        rintro e w3 ⟨rfl, hO⟩
        have HO := hide hO
        clear hO HC
        go_wp2_with fail
        first | refine bodyPost_end (results_none rfl _ _ _) rfl ?_ | refine bodyPost_ret (results_none rfl _ _ _) rfl ?_
        exact ⟨rfl, HO.out⟩

set_option maxRecDepth 100000 in
set_option maxHeartbeats 4000000 in
theorem mend_any (o : OfS) (h : Cx P I k ds w S b B) (hx : WmX w b I.M I.a ds x B) (ha : x.act = .end_ o) (hs : o.state = 0) (hb : -1000000 ≤ cnt (P.Q k) S.l ∧ cnt (P.Q k) S.l ≤ 1000000) (hq : QOk (P.Q k) o) (hcs : 0 ≤ S.cs ∧ S.cs ≤ 1000000) (hen : x.ended = false) :
    Calls Tryz.prog 83 #[.pointer (some ⟨b, 0, none⟩)] w fun e w' => e = .returned (.tuple #[]) ∧ Out P I k ds w b B { S with l := (stepQ (P.Q k) S.l o).1, cs := S.cs + 1 } (endedW x (stepQ (P.Q k) S.l o).2) w' := by
  obtain ⟨gd, cd, hv, kv, pv, gh, gp, O, nx, bl, asked, po, item, pf, hW⟩ := hx
  have hact := hW.act
  rw [ha] at hact
  obtain ⟨rfl, fb, rfl, hof, rfl⟩ := hact
  have hobB : fb ∈ B := by rw [hW.own]; simp
  obtain ⟨cf, hcf⟩ := hof.type
  have f13 : w.cell? ⟨b, 13, none⟩ = some (.pointer (some ⟨fb, 0, none⟩)) := hW.raw.f 13
  have hst := qstep_exact w I.a I.p I.q fb ds (P.Q k) S.l S.cs o hb hq hs h.sh hof
  rw [w64 _ (by omega)] at hst
  have HA := hide hst
  have HK : Hid (∀ w1, Sh w1 I.a I.p I.q ds (P.Q k) (stepQ (P.Q k) S.l o).1 (S.cs + 1) → OfB w1 fb I.a ds (stepQ (P.Q k) S.l o).2 → Turned [I.p, I.q, fb] w w1 → Cx P I k ds w1 { S with l := (stepQ (P.Q k) S.l o).1, cs := S.cs + 1 } b B ∧ Wm w1 b I.M I.a ds { x with act := .end_ (stepQ (P.Q k) S.l o).2 } B gd cd hv kv pv gh gp [fb] .end_ bl asked po item (some ⟨fb, 0, none⟩) ∧ Turned (I.all b B) w w1) := by
    intro w1 r1 r2 t
    obtain ⟨p1, p2, p3, p4, p5, p6⟩ := h.stepW hW hcf (.inr rfl) t
    exact ⟨h.stepped hobB hcf (.inr rfl) t r1, ⟨hW.own, p3, p1, p2, p4, p5, p6, rfl, fb, rfl, r2, rfl⟩, t.mono (Ids.inAll (by simp [hobB]))⟩
  have HC : Hid (∀ w1, Cx P I k ds w1 { S with l := (stepQ (P.Q k) S.l o).1, cs := S.cs + 1 } b B → Wm w1 b I.M I.a ds { x with act := .end_ (stepQ (P.Q k) S.l o).2 } B gd cd hv kv pv gh gp [fb] .end_ bl asked po item (some ⟨fb, 0, none⟩) → Turned (I.all b B) w w1 → Out P I k ds w b B { S with l := (stepQ (P.Q k) S.l o).1, cs := S.cs + 1 } { x with act := .choose } (w1.setCell ⟨b, 0, none⟩ (stpV .choose b)) ∧ Out P I k ds w b B { S with l := (stepQ (P.Q k) S.l o).1, cs := S.cs + 1 } { x with act := .end_ (stepQ (P.Q k) S.l o).2, ended := true } (w1.setCell ⟨b, 15, none⟩ (.bool true))) := by
    intro w1 C W T
    obtain ⟨C0, W0, T0, hB0⟩ := chosen C W
    have t3 : Turned [b] w1 (w1.setCell ⟨b, 15, none⟩ (.bool true)) := (Turned.refl _ _).setCell (by simp) _
    obtain ⟨p1, p2, p3, p4, p5, p6⟩ := W.partsb t3
    exact ⟨⟨_, C0, ⟨_, _, _, _, _, _, _, _, _, _, _, _, _, _, W0⟩, fun y hy => .inl (hB0 y hy), T.trans T0⟩, ⟨B, C.keepb W.raw t3, ⟨gd, cd, hv, kv, pv, gh, gp, [fb], .end_, bl, asked, po, item, some ⟨fb, 0, none⟩, W.own, W.raw.set 15 _, p1, p2, p3, p4, p5, p6⟩, fun y hy => .inl hy, T.trans (t3.mono (Ids.inAll (by simp)))⟩⟩
  generalize stepQ (P.Q k) S.l o = R at *
  clear h hW hof hcf hobB hst hb hq hs ha hcs
  unfold endedW
  generalize R.2.state = st at *
  by_cases e2 : st = 2
  · subst e2
    rw [if_pos rfl]
    go_enter Tryz.func83, Tryz.ntmps83
    go_wp2_with fail
    refine HA.out.mono ?_
    rintro e w1 ⟨rfl, r1, r2, t⟩
    have H1 := hide (HK.out w1 r1 r2 t)
    have HC1 := hide (HC.out w1 H1.out.1 H1.out.2.1 H1.out.2.2)
    have y0 : w1.cell? ⟨b, 0, none⟩ = some (stpV .end_ b) := H1.out.2.1.raw.f 0
    have y15 : w1.cell? ⟨b, 15, none⟩ = some (.bool x.ended) := H1.out.2.1.raw.f 15
    have z0 := H1.out.2.1.raw.fz 0
    have z15 := H1.out.2.1.raw.fz 15
    clear r1 r2 t HA HK HC f13
    clear H1
    go_wp2_with fail
    first | refine bodyPost_end (results_none rfl _ _ _) rfl ?_ | refine bodyPost_ret (results_none rfl _ _ _) rfl ?_
    exact ⟨rfl, HC1.out.2⟩
  · rw [if_neg e2]
    by_cases e1 : st = 1
    · subst e1
      rw [if_pos rfl]
      go_enter Tryz.func83, Tryz.ntmps83
      go_wp2_with fail
      refine HA.out.mono ?_
      rintro e w1 ⟨rfl, r1, r2, t⟩
      have H1 := hide (HK.out w1 r1 r2 t)
      have HC1 := hide (HC.out w1 H1.out.1 H1.out.2.1 H1.out.2.2)
      have y0 : w1.cell? ⟨b, 0, none⟩ = some (stpV .end_ b) := H1.out.2.1.raw.f 0
      have y15 : w1.cell? ⟨b, 15, none⟩ = some (.bool x.ended) := H1.out.2.1.raw.f 15
      have z0 := H1.out.2.1.raw.fz 0
      have z15 := H1.out.2.1.raw.fz 15
      clear r1 r2 t HA HK HC f13
      clear H1
      go_wp2_with fail
      first | refine bodyPost_end (results_none rfl _ _ _) rfl ?_ | refine bodyPost_ret (results_none rfl _ _ _) rfl ?_
      exact ⟨rfl, HC1.out.1⟩
    · rw [if_neg e1]
      go_enter Tryz.func83, Tryz.ntmps83
      go_wp2_with fail
      refine HA.out.mono ?_
      rintro e w1 ⟨rfl, r1, r2, t⟩
      have H1 := hide (HK.out w1 r1 r2 t)
      have HC1 := hide (HC.out w1 H1.out.1 H1.out.2.1 H1.out.2.2)
      have y0 : w1.cell? ⟨b, 0, none⟩ = some (stpV .end_ b) := H1.out.2.1.raw.f 0
      have y15 : w1.cell? ⟨b, 15, none⟩ = some (.bool x.ended) := H1.out.2.1.raw.f 15
      have z0 := H1.out.2.1.raw.fz 0
      have z15 := H1.out.2.1.raw.fz 15
      clear r1 r2 t HA HK HC f13
      clear HC1
      go_wp2_with fail
      first | refine bodyPost_end (results_none rfl _ _ _) rfl ?_ | refine bodyPost_ret (results_none rfl _ _ _) rfl ?_
      obtain ⟨C, W, T⟩ := H1.out
      exact ⟨rfl, B, C, ⟨_, _, _, _, _, _, _, _, _, _, _, _, _, _, W⟩, fun y hy => .inl hy, T⟩
end
end Go.Proofs.YtgbclfhgpkmcnaaGreatDoor

/-
  Steps of a worker of package mark: a block is marked (mark).
-/
namespace Go.Proofs.YtgbclfhgpkmcnaaGreatDoor
open Go.RowKit
set_option linter.unusedVariables false

section
variable (P : MP) (I : Ids) (k : Nat) (ds : List Nat) (w : World) (S : MS) (b : Nat) (B : List Nat) (x : MW)

/-- What marking comes to: the first one is told so, and no error with it. -/
theorem markC_ways (n : Nat) (z : Nat → Nat) (t s : Int) : (Bt.markC n z t s).1 = true ∧ (Bt.markC n z t s).2.1 = 0 ∨ (Bt.markC n z t s).1 = false := by
  unfold Bt.markC
  split
  · exact .inr rfl
  · split
    · exact .inr rfl
    · split
      · exact .inr rfl
      · split
        · exact .inl ⟨rfl, rfl⟩
        · exact .inr rfl

set_option maxRecDepth 100000 in
set_option maxHeartbeats 4000000 in
theorem wmark_any (bk : Blk) (h : Cx P I k ds w S b B) (hx : WmX w b I.M I.a ds x B) (ha : x.act = .mark bk) (hz : In64 bk.s) :
    Calls Tryz.prog 79 #[.pointer (some ⟨b, 0, none⟩)] w fun e w' => e = .returned (.tuple #[]) ∧ Out P I k ds w b B { S with sz := (Bt.markC P.hw.length S.sz bk.t bk.s).2.2, fault := if (Bt.markC P.hw.length S.sz bk.t bk.s).2.1 = 0 then S.fault else 13 } (if (Bt.markC P.hw.length S.sz bk.t bk.s).1 then { x with act := .push bk (opNew .pushReadBottom bk.t) } else { x with act := .choose }) w' := by
  obtain ⟨gd, cd, hv, kv, pv, gh, gp, O, nx, bl, asked, po, item, pf, hW⟩ := hx
  obtain ⟨C0, W0, T0, hB0⟩ := chosen h hW
  have hact := hW.act
  rw [ha] at hact
  obtain ⟨_, rfl, _⟩ := hact
  have hne := h.ne
  obtain ⟨d, hd⟩ : ∃ d, ds[0]? = some d := ⟨ds[0], by simp⟩
  have f0 := hW.raw.f 0
  have z0 := hW.raw.fz 0
  simp only [mwCells] at f0
  have g1 : (w.setCell ⟨b, 0, none⟩ (stpV .choose b)).cell? ⟨b, 1, none⟩ = some (.pointer (some ⟨I.M, 0, none⟩)) := W0.raw.f 1
  have g5 : (w.setCell ⟨b, 0, none⟩ (stpV .choose b)).cell? ⟨b, 5, none⟩ = some (.int .i64 bl.t) := W0.raw.f 5
  have g8 : (w.setCell ⟨b, 0, none⟩ (stpV .choose b)).cell? ⟨b, 8, none⟩ = some (.int .i64 bl.s) := W0.raw.f 8
  have gM : (w.setCell ⟨b, 0, none⟩ (stpV .choose b)).cell? ⟨I.M, 1, none⟩ = some (.pointer (some ⟨I.pb, 0, none⟩)) := C0.mkr.f 1
  have HM : Hid (∀ w', Turned [] (w.setCell ⟨b, 0, none⟩ (stpV .choose b)) w' → Calls Tryz.prog 89 #[.pointer (some ⟨I.pb, 0, none⟩), .int .i64 bl.t, .int .i64 bl.s] w' fun e w'' => e = .returned (.tuple #[.bool (Bt.markC P.hw.length S.sz bl.t bl.s).1, .int .i64 (Bt.markC P.hw.length S.sz bl.t bl.s).2.1]) ∧ Cx P I k ds w'' { S with sz := (Bt.markC P.hw.length S.sz bl.t bl.s).2.2 } b (gh ++ (kv.ownBlock.toList ++ (gp ++ []))) ∧ Wm w'' b I.M I.a ds { x with act := .choose } (gh ++ (kv.ownBlock.toList ++ (gp ++ []))) gd cd hv kv pv gh gp [] .choose bl asked po item pf ∧ Turned (I.all b B) w w'') := by
    intro w' t
    have C1 := C0.keep0 t
    refine (Bt.mark_any I.pb I.qb P.hw.length S.sz bl.t bl.s w' C1.bt C1.bl hz).mono ?_
    rintro e w'' ⟨h1, h2, h3⟩
    rw [← Bt.markC_eq] at h1 h2
    have hbl := Bt.markT_bl C1.bl bl.t bl.s
    rw [← Bt.markC_eq] at hbl
    exact ⟨h1, C1.marked h3 h2 hbl, C1.markW (W0.keep0 t) h3, (T0.trans (t.mono (by simp))).trans (h3.mono (Ids.inAll (by simp)))⟩
  have HP : Hid (∀ w1, Cx P I k ds w1 { S with sz := (Bt.markC P.hw.length S.sz bl.t bl.s).2.2 } b (gh ++ (kv.ownBlock.toList ++ (gp ++ []))) → Wm w1 b I.M I.a ds { x with act := .choose } (gh ++ (kv.ownBlock.toList ++ (gp ++ []))) gd cd hv kv pv gh gp [] .choose bl asked po item pf → Turned (I.all b B) w w1 →
      ∀ w', Turned [] w1 w' → Calls Tryz.prog 90 #[.pointer (some ⟨d, 0, none⟩), .int .i64 bl.t] w' fun e w'' => ∃ ob, e = .returned (.pointer (some ⟨ob, 0, none⟩)) ∧ (WmR w'' b (mwCells .choose b I.M gd ds.length cd hv kv bl pv asked po item pf x.seen x.ended) ∧ w''.cell? ⟨gd, 0, none⟩ = some (.pointer (some ⟨d, 0, none⟩)) ∧ gd ≠ b) ∧ Out P I k ds w b B { S with sz := (Bt.markC P.hw.length S.sz bl.t bl.s).2.2 } { x with act := .push bl (opNew .pushReadBottom bl.t) } ((w''.setCell ⟨b, 11, none⟩ (.pointer (some ⟨ob, 0, none⟩))).setCell ⟨b, 0, none⟩ (stpV .push b))) := by
    intro w1 C W T w' t
    have C1 := C.keep0 t
    refine (push_any w' d I.p I.q _ S.l S.cs bl.t (C1.sh.dq 0 d hd)).mono ?_
    rintro e w2 ⟨rfl, _, hop, t2, _⟩
    have W2 := (W.keep0 t).keep0 t2
    have t3 : Turned [b] w2 ((w2.setCell ⟨b, 11, none⟩ (.pointer (some ⟨w'.heap.size, 0, none⟩))).setCell ⟨b, 0, none⟩ (stpV .push b)) := ((Turned.refl _ _).setCell (by simp) _).setCell (by simp) _
    obtain ⟨p1, p2, p3, p4, p5, p6⟩ := W2.partsb t3
    have hB : ∀ y, y ∈ gh ++ (kv.ownBlock.toList ++ (gp ++ [w'.heap.size])) → y ∈ gh ++ (kv.ownBlock.toList ++ (gp ++ [])) ∨ w1.heap.size ≤ y := fun y hy => by
      simp only [List.append_nil, List.mem_append, List.mem_singleton] at hy ⊢
      rcases hy with g | g | g | g
      · exact .inl (.inl g)
      · exact .inl (.inr (.inl g))
      · exact .inl (.inr (.inr g))
      · right; have := t.size; omega
    have t12 : Turned [] w1 w2 := t.trans t2
    obtain ⟨c8, fr8, hr8⟩ := W2.row
    refine ⟨w'.heap.size, rfl, ⟨W2.raw, W2.rows 0 d hd, ne_of_type hr8 W2.raw (by decide)⟩, Out.trans (B1 := gh ++ (kv.ownBlock.toList ++ (gp ++ []))) (w1 := w1) ⟨_, ((C.own hB).keep0 t12).keepb W2.raw t3, ⟨gd, cd, hv, kv, pv, gh, gp, [w'.heap.size], .push, bl, asked, some ⟨w'.heap.size, 0, none⟩, item, pf, rfl, (W2.raw.set 11 _).set 0 _, p1, p2, p3, p4, p5, rfl, rfl, w'.heap.size, d, rfl, hd, hop.turned t3 ?_, rfl⟩, hB, (t12.mono (by simp)).trans (t3.mono (Ids.inAll (by simp)))⟩ T (fun y hy => .inl (hB0 y hy))⟩
    simp; exact ne_of_type hop W2.raw (by decide)
  have HFt : Hid (∀ w1, Cx P I k ds w1 { S with sz := (Bt.markC P.hw.length S.sz bl.t bl.s).2.2 } b (gh ++ (kv.ownBlock.toList ++ (gp ++ []))) → Wm w1 b I.M I.a ds { x with act := .choose } (gh ++ (kv.ownBlock.toList ++ (gp ++ []))) gd cd hv kv pv gh gp [] .choose bl asked po item pf → Turned (I.all b B) w w1 → Calls Tryz.prog 78 #[.pointer (some ⟨b, 0, none⟩)] w1 fun e w' => e = .returned (.tuple #[]) ∧ Out P I k ds w b B { S with sz := (Bt.markC P.hw.length S.sz bl.t bl.s).2.2, fault := 13 } { x with act := .choose } w') := by
    intro wz C W T
    refine (fault_any wz b I.M _ _ _ W.raw C.mkr rfl C.fault5).mono ?_
    rintro e w' ⟨rfl, rfl⟩
    exact ⟨rfl, _, C.faulted, ⟨_, _, _, _, _, _, _, _, _, _, _, _, _, _, C.faultW W⟩, fun y hy => .inl (hB0 y hy), T.setCell (.inl (Ids.inAll (T := [I.M]) (by simp) _ (by simp))) _⟩
  have HB0 := hide hB0
  have HR0 : Hid (∀ w1, Wm w1 b I.M I.a ds { x with act := .choose } (gh ++ (kv.ownBlock.toList ++ (gp ++ []))) gd cd hv kv pv gh gp [] .choose bl asked po item pf → w1.cell? ⟨gd, 0, none⟩ = some (.pointer (some ⟨d, 0, none⟩)) ∧ w1.cell? ⟨b, 2, none⟩ = some (.slice (some ⟨gd, 0, none⟩) ds.length cd)) := fun w1 W => ⟨W.rows 0 d hd, W.raw.f 2⟩
  have hways := markC_ways P.hw.length S.sz bl.t bl.s
  have nb := C0.mkr.ne W0.raw
  have hl4 : ds.length ≤ 4 := by omega
  have hl0 : 0 < ds.length := hne.1
  simp only [stpV, MStp.fn] at g1 g5 g8 gM
  generalize Bt.markC P.hw.length S.sz bl.t bl.s = R at *
  obtain ⟨R1, R2, R3⟩ := R
  simp only at hways HM HP HFt ⊢
  generalize ds.length = n at *
  clear h hW C0 W0 T0 hB0 hne hz ha hd
  rcases hways with ⟨rfl, rfl⟩ | rfl
  · simp only [if_true]
    go_enter Tryz.func79, Tryz.ntmps79
    go_wp2_with fail
    go_region_held3 (fun w' => w'.cell? ⟨b, 1, none⟩ = some (.pointer (some ⟨I.M, 0, none⟩)) ∧ w'.cell? ⟨I.M, 1, none⟩ = some (.pointer (some ⟨I.pb, 0, none⟩)) ∧ w'.cell? ⟨b, 5, none⟩ = some (.int .i64 bl.t) ∧ w'.cell? ⟨b, 8, none⟩ = some (.int .i64 bl.s)) (go_keep)
      (first
        | (go_at_call 89; refine (HM.out _ (Turned.refl _ _).drew).mono ?_; rintro e w1 ⟨rfl, C1, W1, T1⟩; have y1 := (show w1.cell? ⟨b, 1, none⟩ = some (.pointer (some ⟨I.M, 0, none⟩)) from W1.raw.f 1); have y5 := (show w1.cell? ⟨b, 5, none⟩ = some (.int .i64 bl.t) from W1.raw.f 5); have y8 := (show w1.cell? ⟨b, 8, none⟩ = some (.int .i64 bl.s) from W1.raw.f 8); have yM := (show w1.cell? ⟨I.M, 1, none⟩ = some (.pointer (some ⟨I.pb, 0, none⟩)) from C1.mkr.f 1); have H1 := hide (And.intro C1 (And.intro W1 T1)); clear C1 W1 T1 HM g1 g5 g8 gM))
    have HP1 := hide (HP.out w1 H1.out.1 H1.out.2.1 H1.out.2.2)
    have y2 : w1.cell? ⟨b, 2, none⟩ = some (.slice (some ⟨gd, 0, none⟩) n cd) := (HR0.out w1 H1.out.2.1).2
    have r0 : w1.cell? ⟨gd, 0, none⟩ = some (.pointer (some ⟨d, 0, none⟩)) := (HR0.out w1 H1.out.2.1).1
    clear HP HFt yM y1 y8
    go_wp2_with fail
    go_region_held3 (fun w' => w'.cell? ⟨b, 2, none⟩ = some (.slice (some ⟨gd, 0, none⟩) n cd) ∧ w'.cell? ⟨gd, 0, none⟩ = some (.pointer (some ⟨d, 0, none⟩)) ∧ w'.cell? ⟨b, 5, none⟩ = some (.int .i64 bl.t)) (first | go_keep | (dsimp only; refine ⟨?_, ?_, ?_⟩ <;> first | go_keep | exact SB1 _ | exact SB2 _ | exact SB3 _ _ | exact SB4 _ _ | exact SB5 _ | exact SB6 _))
      (first
        | (go_at_call 90; refine (HP1.out _ (Turned.refl _ _).drew).mono ?_; rintro e w2 ⟨ob, rfl, ⟨raw2, q1, q2⟩, hO⟩; have g11 := raw2.f 11; have z11 := raw2.fz 11; have g0 := raw2.f 0; have zz0 := raw2.fz 0; simp only [mwCells] at g11 g0; have u2 := (show w2.cell? ⟨b, 2, none⟩ = some (.slice (some ⟨gd, 0, none⟩) n cd) from raw2.f 2); have u5 := (show w2.cell? ⟨b, 5, none⟩ = some (.int .i64 bl.t) from raw2.f 5); have SB1 := (fun (v : Value) => keep_own raw2 (i := 11) (j := 2) (by decide) v u2); have SB2 := (fun (v : Value) => keep_own raw2 (i := 11) (j := 5) (by decide) v u5); have SB3 := (fun (v u : Value) => keep_own (raw2.set 11 v) (i := 0) (j := 2) (by decide) u (keep_own raw2 (i := 11) (j := 2) (by decide) v u2)); have SB4 := (fun (v u : Value) => keep_own (raw2.set 11 v) (i := 0) (j := 5) (by decide) u (keep_own raw2 (i := 11) (j := 5) (by decide) v u5)); have SB5 := (fun (v : Value) => keep_own raw2 (i := 0) (j := 2) (by decide) v u2); have SB6 := (fun (v : Value) => keep_own raw2 (i := 0) (j := 5) (by decide) v u5); have n2 := Ne.symm q2; have HO := hide hO; clear hO raw2 HP1 H1 y2 r0 y5))
    all_goals
      go_wp2_with fail
      first | refine bodyPost_end (results_none rfl _ _ _) rfl ?_ | refine bodyPost_ret (results_none rfl _ _ _) rfl ?_
      exact ⟨rfl, HO.out⟩
  · simp only [Bool.false_eq_true, if_false]
    by_cases e0 : R2 = 0
    · subst e0
      rw [if_pos rfl]
      go_enter Tryz.func79, Tryz.ntmps79
      go_wp2_with fail
      go_region_held3 (fun w' => w'.cell? ⟨b, 1, none⟩ = some (.pointer (some ⟨I.M, 0, none⟩)) ∧ w'.cell? ⟨I.M, 1, none⟩ = some (.pointer (some ⟨I.pb, 0, none⟩)) ∧ w'.cell? ⟨b, 5, none⟩ = some (.int .i64 bl.t) ∧ w'.cell? ⟨b, 8, none⟩ = some (.int .i64 bl.s)) (go_keep)
        (first
          | (go_at_call 89; refine (HM.out _ (Turned.refl _ _).drew).mono ?_; rintro e w1 ⟨rfl, C1, W1, T1⟩; have y1 := (show w1.cell? ⟨b, 1, none⟩ = some (.pointer (some ⟨I.M, 0, none⟩)) from W1.raw.f 1); have y5 := (show w1.cell? ⟨b, 5, none⟩ = some (.int .i64 bl.t) from W1.raw.f 5); have y8 := (show w1.cell? ⟨b, 8, none⟩ = some (.int .i64 bl.s) from W1.raw.f 8); have yM := (show w1.cell? ⟨I.M, 1, none⟩ = some (.pointer (some ⟨I.pb, 0, none⟩)) from C1.mkr.f 1); have H1 := hide (And.intro C1 (And.intro W1 T1)); clear C1 W1 T1 HM g1 g5 g8 gM))
      clear HP HFt y1 y5 y8 yM
      go_wp2_with fail
      first | refine bodyPost_end (results_none rfl _ _ _) rfl ?_ | refine bodyPost_ret (results_none rfl _ _ _) rfl ?_
      obtain ⟨C, W, T⟩ := H1.out
      exact ⟨rfl, _, C, ⟨_, _, _, _, _, _, _, _, _, _, _, _, _, _, W⟩, fun y hy => .inl (HB0.out y hy), T⟩
    · rw [if_neg e0]
      go_enter Tryz.func79, Tryz.ntmps79
      go_wp2_with fail
      go_region_held3 (fun w' => w'.cell? ⟨b, 1, none⟩ = some (.pointer (some ⟨I.M, 0, none⟩)) ∧ w'.cell? ⟨I.M, 1, none⟩ = some (.pointer (some ⟨I.pb, 0, none⟩)) ∧ w'.cell? ⟨b, 5, none⟩ = some (.int .i64 bl.t) ∧ w'.cell? ⟨b, 8, none⟩ = some (.int .i64 bl.s)) (go_keep)
        (first
          | (go_at_call 89; refine (HM.out _ (Turned.refl _ _).drew).mono ?_; rintro e w1 ⟨rfl, C1, W1, T1⟩; have y1 := (show w1.cell? ⟨b, 1, none⟩ = some (.pointer (some ⟨I.M, 0, none⟩)) from W1.raw.f 1); have y5 := (show w1.cell? ⟨b, 5, none⟩ = some (.int .i64 bl.t) from W1.raw.f 5); have y8 := (show w1.cell? ⟨b, 8, none⟩ = some (.int .i64 bl.s) from W1.raw.f 8); have yM := (show w1.cell? ⟨I.M, 1, none⟩ = some (.pointer (some ⟨I.pb, 0, none⟩)) from C1.mkr.f 1); have H1 := hide (And.intro C1 (And.intro W1 T1)); clear C1 W1 T1 HM g1 g5 g8 gM))
      have HC := hide (HFt.out w1 H1.out.1 H1.out.2.1 H1.out.2.2)
      clear HP HFt y1 y5 y8 yM H1
      go_wp2_with fail
      refine HC.out.mono ?_
      rintro e w3 ⟨rfl, hO⟩
      have HO := hide hO
      clear hO HC
      go_wp2_with fail
      first | refine bodyPost_end (results_none rfl _ _ _) rfl ?_ | refine bodyPost_ret (results_none rfl _ _ _) rfl ?_
      exact ⟨rfl, HO.out⟩
end
end Go.Proofs.YtgbclfhgpkmcnaaGreatDoor

/-
  A marker of package mark as a whole in the model's heap ('Mk'), and what a worker's step leaves ('Mk.upd'). No Go is walked here.
-/
namespace Go.Proofs.YtgbclfhgpkmcnaaGreatDoor
open Go.RowKit
set_option linter.unusedVariables false

/-- The deques as worker k has them. -/
def rotL (ds : List Nat) (k : Nat) : List Nat := (List.range ds.length).map fun a => ds.getD ((k + a) % ds.length) 0
theorem rotL_length (ds : List Nat) (k : Nat) : (rotL ds k).length = ds.length := by simp [rotL]
theorem rotL_get {ds : List Nat} {k a : Nat} (ha : a < ds.length) : (rotL ds k)[a]? = ds[(k + a) % ds.length]? := by
  have h1 : (k + a) % ds.length < ds.length := Nat.mod_lt _ (by omega)
  simp [rotL, ha, List.getD_eq_getElem?_getD, h1]
theorem rotL_zero (ds : List Nat) : rotL ds 0 = ds := by
  apply List.ext_getElem?
  intro i
  by_cases hi : i < ds.length
  · rw [rotL_get hi, Nat.zero_add, Nat.mod_eq_of_lt hi]
  · rw [List.getElem?_eq_none (by rw [rotL_length]; omega), List.getElem?_eq_none (by omega)]
theorem mod_back {n j m : Nat} (hn : n ≤ 4) (hj : j < n) (hm : m < n) : (j + (m + n - j) % n) % n = m := by
  have h4 : n = 1 ∨ n = 2 ∨ n = 3 ∨ n = 4 := by omega
  rcases h4 with rfl | rfl | rfl | rfl <;> omega
/-- The control, whoever looks at it. -/
theorem Sh.any {P : MP} {w : World} {a p q : Nat} {ds : List Nat} {l : List Int} {s : Int} {j : Nat} (h : Sh w a p q (rotL ds j) (P.Q j) l s) (hn : ds.length = P.n) (h4 : P.n ≤ 4) (hj : j < P.n) (k : Nat) : Sh w a p q (rotL ds k) (P.Q k) l s := by
  refine ⟨h.head, h.cell, h.most, h.n, ⟨by rw [rotL_length, P.Qlen]; exact hn, by rw [rotL_length]; omega⟩, h.mem, fun i d hi => ?_⟩
  have hil : i < ds.length := by
    have := (List.getElem?_eq_some_iff.1 hi).1
    rwa [rotL_length] at this
  rw [rotL_get hil] at hi
  rw [P.cOf (by omega)]
  have hm : (k + i) % ds.length < ds.length := Nat.mod_lt _ (by omega)
  have hb := mod_back (n := ds.length) (j := j) (m := (k + i) % ds.length) (by omega) (by omega) hm
  have ha' : ((k + i) % ds.length + ds.length - j) % ds.length < ds.length := Nat.mod_lt _ (by omega)
  have h1 := h.dq (((k + i) % ds.length + ds.length - j) % ds.length) d (by rw [rotL_get ha', hb]; exact hi)
  rw [P.cOf (by omega)] at h1
  unfold MP.dq at h1 ⊢
  rw [← hn] at h1 ⊢
  rw [hb] at h1
  exact h1

/-- What a marker turns that was there ahead of it: the heap, the bits' row, control. -/
def Ids.five (I : Ids) : List Nat := [I.ph, I.qh, I.qb, I.p, I.q]
theorem Ids.all_mem {I : Ids} {b y : Nat} {B : List Nat} : y ∈ I.all b B ↔ (y ∈ I.five ∨ y ∈ I.M :: b :: B) := by
  unfold Ids.all Ids.five
  simp only [List.mem_cons, List.not_mem_nil, or_false]
  constructor
  · rintro (h | h | h | h | h | h | h | h) <;> simp [h]
  · rintro ((h | h | h | h | h) | h | h | h) <;> simp [h]

/-- A marker: M and its parts, its workers ws; Bs what is each worker's own. w0: the world ahead of all of it. -/
structure Mk (P : MP) (I : Ids) (w0 w : World) (ds ws : List Nat) (S : MS) (Bs : Nat → List Nat) : Prop where
  tu : Turned I.five w0 w
  n : ws.length = P.n ∧ ds.length = P.n ∧ 1 ≤ P.n ∧ P.n ≤ 4 ∧ I.n = P.n
  row : ∃ c fr, w.heap[I.gw]? = some (.cells c 77 fr)
  rows : ∀ (i b : Nat), ws[i]? = some b → w.cell? ⟨I.gw, i, none⟩ = some (.pointer (some ⟨b, 0, none⟩))
  mkr : MkR w I.M (I.cells S.fault)
  hm : Mem w I.ph I.qh P.hw S.hs
  hl : P.hw.length ≤ 65536
  cl : CRow w I.co I.len P.cl
  bt : Bt.Bts w I.pb I.qb P.hw.length (Bt.sidesOf S.sz)
  bl : Bt.Bl P.hw.length S.sz
  sh : Sh w I.a I.p I.q ds (P.Q 0) S.l S.cs
  wk : ∀ (i b : Nat), ws[i]? = some b → WmX w b I.M I.a (rotL ds i) (S.X i) (Bs i)
  nd : ∀ (i j b : Nat), ws[i]? = some b → ws[j]? = some b → i = j
  ap : ∀ (i j y : Nat), i < ws.length → j < ws.length → y ∈ Bs i → y ∈ Bs j → i = j
  nq : I.ph ≠ I.p ∧ I.qh ≠ I.q ∧ ∀ i, i < ws.length → I.qh ∉ Bs i ∧ I.q ∉ Bs i
  lo : 0 < w0.heap.size ∧ 0 ∉ I.five ∧ ∀ i b, ws[i]? = some b → ∀ y, y ∈ I.M :: b :: Bs i → w0.heap.size ≤ y

section
variable {P : MP} {I : Ids} {w0 w w' : World} {ds ws : List Nat} {S : MS} {Bs : Nat → List Nat} {k b : Nat}
theorem Mk.cx (h : Mk P I w0 w ds ws S Bs) (hk : ws[k]? = some b) : Cx P I k (rotL ds k) w S b (Bs k) := by
  have hkl : k < ws.length := (List.getElem?_eq_some_iff.1 hk).1
  have hn := h.n
  have hs := h.sh
  rw [← rotL_zero ds] at hs
  refine ⟨h.mkr, h.hm, h.hl, h.cl, h.bt, h.bl, hs.any hn.2.1 hn.2.2.2.1 (by omega) k, ⟨h.nq.1, h.nq.2.1, h.nq.2.2 k hkl⟩, fun h0 => ?_, ⟨by rw [rotL_length]; omega, by rw [rotL_length]; exact hn.2.1, hn.2.2.2.1⟩⟩
  rcases Ids.all_mem.1 h0 with g | g
  · exact h.lo.2.1 g
  · have := h.lo.2.2 k b hk 0 g
    have := h.lo.1
    omega

/-- Behind a step of worker k. -/
theorem Mk.updB (h : Mk P I w0 w ds ws S Bs) (hk : ws[k]? = some b) {S' : MS} {x' : MW} (hO : Out P I k (rotL ds k) w b (Bs k) S' x' w') (hX : S'.X = updM S.X k x') : ∃ Bs', Mk P I w0 w' ds ws S' Bs' ∧ ∀ i y, y ∈ Bs' i → y ∈ Bs i ∨ w.heap.size ≤ y := by
  obtain ⟨B', C, W, hB, t⟩ := hO
  have hkl : k < ws.length := (List.getElem?_eq_some_iff.1 hk).1
  have hn := h.n
  have hxk := h.wk k b hk
  have hraw : ∃ c, WmR w b c := by
    obtain ⟨gd, cd, hv, kv, pv, gh, gp, O, nx, bl, asked, po, item, pf, hW⟩ := hxk
    exact ⟨_, hW.raw⟩
  obtain ⟨cb, hcb⟩ := hraw
  obtain ⟨cq, hcq, _⟩ := h.bt.row
  -- types of what was turned
  have hOff : ∀ e, e ≠ 83 → e ≠ 109 → e ≠ 2 → e ≠ 99 → e ≠ 88 → e ≠ 54 → e ≠ 3 → e ≠ 170 → e ≠ 166 → Off w (I.all b (Bs k)) e := by
    intro e q1 q2 q3 q4 q5 q6 q7 q8 q9
    unfold Ids.all
    refine Off.cons h.mkr (Ne.symm q1) (Off.cons h.hm.head (Ne.symm q2) (Off.cons h.hm.row (Ne.symm q3) (Off.cons hcq (Ne.symm q4) (Off.cons h.sh.mem.head (Ne.symm q2) (Off.cons h.sh.mem.row (Ne.symm q3) (Off.cons hcb (Ne.symm q5) (fun y hy c fr g => ?_)))))))
    obtain ⟨c2, e2, fr2, g1, g2⟩ := hxk.types y hy
    rw [g1] at g
    cases g
    rcases g2 with r | r | r | r | r
    · exact q3 r
    · exact q6 r
    · exact q7 r
    · exact q8 r
    · exact q9 r
  have hOther : ∀ (i c : Nat), ws[i]? = some c → i ≠ k → WmX w' c I.M I.a (rotL ds i) (S.X i) (Bs i) := by
    intro i c hc hik
    have hil : i < ws.length := (List.getElem?_eq_some_iff.1 hc).1
    have hxi := h.wk i c hc
    obtain ⟨cc, hcc⟩ : ∃ cc, WmR w c cc := by
      obtain ⟨gd, cd, hv, kv, pv, gh, gp, O, nx, bl, asked, po, item, pf, hW⟩ := hxi
      exact ⟨_, hW.raw⟩
    refine hxi.keep t (fun hm => ?_) (fun y hy hm => ?_) (hOff _ (by decide) (by decide) (by decide) (by decide) (by decide) (by decide) (by decide) (by decide) (by decide))
    · unfold Ids.all at hm
      simp only [List.mem_cons] at hm
      rcases hm with g | g | g | g | g | g | g | g
      · exact ne_of_type hcc h.mkr (by decide) g
      · exact ne_of_type hcc h.hm.head (by decide) g
      · exact ne_of_type hcc h.hm.row (by decide) g
      · exact ne_of_type hcc hcq (by decide) g
      · exact ne_of_type hcc h.sh.mem.head (by decide) g
      · exact ne_of_type hcc h.sh.mem.row (by decide) g
      · exact hik (h.nd i k c hc (by rw [g]; exact hk))
      · obtain ⟨c5, e5, f5, h7, h8⟩ := hxk.types c g
        refine ne_of_type h7 hcc ?_ rfl
        rcases h8 with rfl | rfl | rfl | rfl | rfl <;> decide
    · obtain ⟨c5, e5, f5, h7, h8⟩ := hxi.types y hy
      unfold Ids.all at hm
      simp only [List.mem_cons] at hm
      rcases hm with g | g | g | g | g | g | g | g
      · refine ne_of_type h7 h.mkr ?_ g
        rcases h8 with rfl | rfl | rfl | rfl | rfl <;> decide
      · refine ne_of_type h7 h.hm.head ?_ g
        rcases h8 with rfl | rfl | rfl | rfl | rfl <;> decide
      · exact (h.nq.2.2 i hil).1 (g ▸ hy)
      · refine ne_of_type h7 hcq ?_ g
        rcases h8 with rfl | rfl | rfl | rfl | rfl <;> decide
      · refine ne_of_type h7 h.sh.mem.head ?_ g
        rcases h8 with rfl | rfl | rfl | rfl | rfl <;> decide
      · exact (h.nq.2.2 i hil).2 (g ▸ hy)
      · refine ne_of_type h7 hcb ?_ g
        rcases h8 with rfl | rfl | rfl | rfl | rfl <;> decide
      · exact hik (h.ap i k y hil hkl hy g)
  have hltB : ∀ i y, i < ws.length → y ∈ Bs i → y < w.heap.size := fun i y hi hy => by
    obtain ⟨c5, e5, f5, h7, h8⟩ := (h.wk i ws[i] (by simp)).types y hy
    exact lt_of_heap h7
  obtain ⟨cr, frr, hr⟩ := h.row
  have hgw := (hOff 77 (by decide) (by decide) (by decide) (by decide) (by decide) (by decide) (by decide) (by decide) (by decide)).not hr
  have hsz := h.tu.size
  have hsh : Sh w' I.a I.p I.q ds (P.Q 0) S'.l S'.cs := by
    have := C.sh.any hn.2.1 hn.2.2.2.1 (by omega) 0
    rwa [rotL_zero] at this
  have hlo := h.lo.2.2 k b hk
  refine ⟨fun i => if i = k then B' else Bs i, ⟨h.tu.trans_new t (fun y hy => (Ids.all_mem.1 hy).imp id (hlo y)), hn, ⟨cr, frr, t.at hr hgw⟩, fun i c hc => by rw [t.cell (p := ⟨I.gw, i, none⟩) (lt_of_heap hr) hgw]; exact h.rows i c hc, C.mkr, C.hm, C.hl, C.cl, C.bt, C.bl, hsh, fun i c hc => ?_, h.nd, fun i j y hi hj hyi hyj => ?_, ⟨h.nq.1, h.nq.2.1, fun i hi => ?_⟩, ⟨h.lo.1, h.lo.2.1, fun i c hc y hy => ?_⟩⟩, fun i y hy => ?_⟩
  · rw [hX]
    by_cases hik : i = k
    · subst hik
      have : c = b := by rw [hk] at hc; exact (Option.some.inj hc).symm
      subst this
      simpa [updM] using W
    · simpa [updM, hik] using hOther i c hc hik
  · by_cases hik : i = k <;> by_cases hjk : j = k
    · omega
    · simp only [hik, hjk, if_true, if_false] at hyi hyj
      rcases hB y hyi with h1 | h1
      · exact absurd (h.ap j k y hj hkl hyj h1) hjk
      · have := hltB j y hj hyj
        omega
    · simp only [hik, hjk, if_true, if_false] at hyi hyj
      rcases hB y hyj with h1 | h1
      · exact absurd (h.ap i k y hi hkl hyi h1) hik
      · have := hltB i y hi hyi
        omega
    · simp only [hik, hjk, if_false] at hyi hyj
      exact h.ap i j y hi hj hyi hyj
  · by_cases hik : i = k
    · simp only [hik, if_true]
      exact ⟨C.ap.2.2.1, C.ap.2.2.2⟩
    · simp only [hik, if_false]
      exact h.nq.2.2 i hi
  · have hc2 := h.lo.2.2 i c hc
    simp only [List.mem_cons] at hy
    rcases hy with g | g | g
    · exact hc2 y (by simp [g])
    · exact hc2 y (by simp [g])
    · by_cases hik : i = k
      · simp only [hik, if_true] at g
        rcases hB y g with h1 | h1
        · exact hlo y (by simp [h1])
        · omega
      · simp only [hik, if_false] at g
        exact hc2 y (by simp [g])
  · by_cases hik : i = k
    · subst hik
      simp only [if_true] at hy
      exact hB y hy
    · simp only [hik, if_false] at hy
      exact .inl hy
theorem Mk.upd (h : Mk P I w0 w ds ws S Bs) (hk : ws[k]? = some b) {S' : MS} {x' : MW} (hO : Out P I k (rotL ds k) w b (Bs k) S' x' w') (hX : S'.X = updM S.X k x') : ∃ Bs', Mk P I w0 w' ds ws S' Bs' := by
  obtain ⟨Bs', h1, _⟩ := h.updB hk hO hX
  exact ⟨Bs', h1⟩
/-- What is new changes nothing. -/
theorem Mk.keep0 (h : Mk P I w0 w ds ws S Bs) (t : Turned [] w w') : Mk P I w0 w' ds ws S Bs := by
  obtain ⟨c, fr, hr⟩ := h.row
  exact ⟨h.tu.trans (t.mono (by simp)), h.n, ⟨c, fr, t.at hr (by simp)⟩, fun i b hb => by rw [t.cell (p := ⟨I.gw, i, none⟩) (lt_of_heap hr) (by simp)]; exact h.rows i b hb, t.at h.mkr (by simp), h.hm.turned t (by simp) (by simp), h.hl, h.cl.turned0 t, h.bt.turned0 t, h.bl, h.sh.turned t (by simp) (by simp) (by simp) (by simp), fun i b hb => (h.wk i b hb).keep t (by simp) (by simp) Off.nil, h.nd, h.ap, h.nq, h.lo⟩
/-- How many roots there are. -/
theorem Mk.rooted (h : Mk P I w0 w ds ws S Bs) (r : Int) : Mk P { I with roots := r } w0 (w.setCell ⟨I.M, 4, none⟩ (.int .i64 r)) ds ws S Bs := by
  have t : Turned [I.M] w (w.setCell ⟨I.M, 4, none⟩ (.int .i64 r)) := (Turned.refl _ _).setCell (by simp) _
  have oM : ∀ e, 83 ≠ e → Off w [I.M] e := fun e he => Off.one h.mkr he
  obtain ⟨c, fr, hr⟩ := h.row
  have hM0 : 0 ∉ [I.M] := by
    have h1 := h.n
    have h2 := h.lo.2.2 0 (ws[0]'(by omega)) (by simp) I.M (by simp)
    have := h.lo.1
    simp
    omega
  have hg := (oM 77 (by decide)).not hr
  have hlo : w0.heap.size ≤ I.M := by
    have h1 := h.n
    exact h.lo.2.2 0 (ws[0]'(by omega)) (by simp) I.M (by simp)
  refine ⟨h.tu.trans_new t (fun y hy => by simp at hy; subst hy; exact .inr hlo), h.n, ⟨c, fr, t.at hr hg⟩, fun i b hb => by rw [t.cell (p := ⟨I.gw, i, none⟩) (lt_of_heap hr) hg]; exact h.rows i b hb, heap_setCell_at _ _ 4 _ _ _ h.mkr _, h.hm.turned t ((oM _ (by decide)).not h.hm.head) ((oM _ (by decide)).not h.hm.row), h.hl, h.cl.off t (oM _ (by decide)), Bts.off h.bt t (oM _ (by decide)) (oM _ (by decide)) hM0, h.bl, h.sh.off t (oM _ (by decide)) (oM _ (by decide)) ((oM _ (by decide)).not h.sh.mem.head) ((oM _ (by decide)).not h.sh.mem.row), fun i b hb => ?_, h.nd, h.ap, h.nq, h.lo⟩
  obtain ⟨cb, hcb⟩ : ∃ cc, WmR w b cc := by
    obtain ⟨gd, cd, hv, kv, pv, gh, gp, O, nx, bl, asked, po, item, pf, hW⟩ := h.wk i b hb
    exact ⟨_, hW.raw⟩
  refine (h.wk i b hb).keep t ((oM _ (by decide)).not hcb) (fun y hy => ?_) (oM _ (by decide))
  obtain ⟨c2, e2, fr2, g1, g2⟩ := (h.wk i b hb).types y hy
  refine (oM e2 ?_).not g1
  rcases g2 with rfl | rfl | rfl | rfl | rfl <;> decide
end
end Go.Proofs.YtgbclfhgpkmcnaaGreatDoor

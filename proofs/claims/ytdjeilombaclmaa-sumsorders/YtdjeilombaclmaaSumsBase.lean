/-
  Sums in the model's heap ('Sm'): what stays, and what each store leaves.
-/
import Derived.Test.YtdjeilombaclmaaSumsInv
import Derived.Test.YtdjeilombaclmaaGangReset
namespace Go.Proofs.Ytdjeilombaclmaa
open Go.RowKit
set_option linter.unusedVariables false

/-- The blocks of sums. -/
structure SIds where
  s : Nat
  gp : Nat
  gq : Nat
  sa : Nat
  sp : Nat
  sq : Nat
  bb : Nat
  ab : Nat
  wr : Nat
  wk : List Nat
  va : Option Addr
  vc : Nat
  tl : List Int
/-- Those that a step may write. -/
def SIds.hot (I : SIds) : List Nat := I.s :: I.gp :: I.gq :: I.sa :: I.sp :: I.sq :: I.bb :: I.ab :: I.wk

def ints (l : List Int) : Array Value := (l.map (Value.int .i64)).toArray
def wkCells (k : Nat) (W : SW) : Array Value := #[.int .i64 (k : Int), .int .i64 (W.blk : Int), .int .i64 (W.pos : Int), .int .i64 (W.lim : Int)]
def smCells (I : SIds) (P : SP) (added : Nat) (tot : Int) : Array Value :=
  #[ptr I.gp, ptr I.sa, .slice (some ⟨I.wr, 0, none⟩) P.n P.n, .slice I.va P.len I.vc, .int .i64 (P.size : Int), .slice (some ⟨I.bb, 0, none⟩) P.nb P.nb, .int .i64 (added : Int), .int .i64 tot, .slice (some ⟨I.ab, 0, none⟩) P.len P.len]

structure Sm (w : World) (I : SIds) (P : SP) (S : SS) : Prop where
  head : w.heap[I.s]? = some (.cells (smCells I P S.added S.tot) 58)
  gang : Gg w I.gp I.gq S.ws S.came S.ph
  share : Sh w I.sa I.sp I.sq ((S.cnt : Int) :: I.tl) S.acc 0 P.nb
  wrow : w.heap[I.wr]? = some (.cells (I.wk.map ptr).toArray 68)
  wlen : I.wk.length = P.n ∧ S.wk.length = P.n
  each : ∀ (k b : Nat) (W : SW), I.wk[k]? = some b → S.wk[k]? = some W → w.heap[b]? = some (.cells (wkCells k W) 78)
  vals : IRd w I.va P.len P.vals
  vnew : ∀ a, I.va = some a → a.block ∉ I.hot
  bl : w.heap[I.bb]? = some (.cells (ints S.bl) 2)
  bll : S.bl.length = P.nb
  ah : w.heap[I.ab]? = some (.cells (ints S.ah) 2)
  ahl : S.ah.length = P.len
  nd : I.hot.Nodup
  wrn : I.wr ∉ I.hot

section
variable {w w' : World} {I : SIds} {P : SP} {S : SS}
theorem Sm.lt (h : Sm w I P S) : I.s < w.heap.size := lt_of_heap h.head
theorem Sm.c (h : Sm w I P S) (i : Nat) {v : Value} (hv : (smCells I P S.added S.tot)[i]? = some v) : w.cell? ⟨I.s, i, none⟩ = some v := by rw [cell_of_heap h.head]; exact hv
theorem Sm.f (h : Sm w I P S) (i : Nat) : w.frozen? ⟨I.s, i, none⟩ = false := by simp [World.frozen?, h.head]
theorem Sm.wc (h : Sm w I P S) {k b : Nat} {W : SW} (hb : I.wk[k]? = some b) (hW : S.wk[k]? = some W) (i : Nat) {v : Value} (hv : (wkCells k W)[i]? = some v) : w.cell? ⟨b, i, none⟩ = some v := by rw [cell_of_heap (h.each k b W hb hW)]; exact hv
theorem Sm.wf (h : Sm w I P S) {k b : Nat} {W : SW} (hb : I.wk[k]? = some b) (hW : S.wk[k]? = some W) (i : Nat) : w.frozen? ⟨b, i, none⟩ = false := by simp [World.frozen?, h.each k b W hb hW]
theorem Sm.c0 (h : Sm w I P S) : w.cell? ⟨I.s, 0, none⟩ = some (.pointer (some ⟨I.gp, 0, none⟩)) := h.c 0 rfl
theorem Sm.c1 (h : Sm w I P S) : w.cell? ⟨I.s, 1, none⟩ = some (.pointer (some ⟨I.sa, 0, none⟩)) := h.c 1 rfl
theorem Sm.c2 (h : Sm w I P S) : w.cell? ⟨I.s, 2, none⟩ = some (.slice (some ⟨I.wr, 0, none⟩) P.n P.n) := h.c 2 rfl
theorem Sm.c3 (h : Sm w I P S) : w.cell? ⟨I.s, 3, none⟩ = some (.slice I.va P.len I.vc) := h.c 3 rfl
theorem Sm.c4 (h : Sm w I P S) : w.cell? ⟨I.s, 4, none⟩ = some (.int .i64 (P.size : Int)) := h.c 4 rfl
theorem Sm.c5 (h : Sm w I P S) : w.cell? ⟨I.s, 5, none⟩ = some (.slice (some ⟨I.bb, 0, none⟩) P.nb P.nb) := h.c 5 rfl
theorem Sm.c6 (h : Sm w I P S) : w.cell? ⟨I.s, 6, none⟩ = some (.int .i64 (S.added : Int)) := h.c 6 rfl
theorem Sm.c7 (h : Sm w I P S) : w.cell? ⟨I.s, 7, none⟩ = some (.int .i64 S.tot) := h.c 7 rfl
theorem Sm.c8 (h : Sm w I P S) : w.cell? ⟨I.s, 8, none⟩ = some (.slice (some ⟨I.ab, 0, none⟩) P.len P.len) := h.c 8 rfl
theorem Sm.w0 (h : Sm w I P S) {k b : Nat} {W : SW} (hb : I.wk[k]? = some b) (hW : S.wk[k]? = some W) : w.cell? ⟨b, 0, none⟩ = some (.int .i64 (k : Int)) := h.wc hb hW 0 rfl
theorem Sm.w1 (h : Sm w I P S) {k b : Nat} {W : SW} (hb : I.wk[k]? = some b) (hW : S.wk[k]? = some W) : w.cell? ⟨b, 1, none⟩ = some (.int .i64 (W.blk : Int)) := h.wc hb hW 1 rfl
theorem Sm.w2 (h : Sm w I P S) {k b : Nat} {W : SW} (hb : I.wk[k]? = some b) (hW : S.wk[k]? = some W) : w.cell? ⟨b, 2, none⟩ = some (.int .i64 (W.pos : Int)) := h.wc hb hW 2 rfl
theorem Sm.w3 (h : Sm w I P S) {k b : Nat} {W : SW} (hb : I.wk[k]? = some b) (hW : S.wk[k]? = some W) : w.cell? ⟨b, 3, none⟩ = some (.int .i64 (W.lim : Int)) := h.wc hb hW 3 rfl
theorem Sm.wrc (h : Sm w I P S) {k b : Nat} (hb : I.wk[k]? = some b) : w.cell? ⟨I.wr, k, none⟩ = some (.pointer (some ⟨b, 0, none⟩)) := by rw [cell_of_heap h.wrow]; simp [hb, ptr]
theorem Sm.bc (h : Sm w I P S) {i : Nat} {x : Int} (hx : S.bl[i]? = some x) : w.cell? ⟨I.bb, i, none⟩ = some (.int .i64 x) := by rw [cell_of_heap h.bl]; simp [ints, hx]
theorem Sm.bf (h : Sm w I P S) (i : Nat) : w.frozen? ⟨I.bb, i, none⟩ = false := by simp [World.frozen?, h.bl]
theorem Sm.ac (h : Sm w I P S) {i : Nat} {x : Int} (hx : S.ah[i]? = some x) : w.cell? ⟨I.ab, i, none⟩ = some (.int .i64 x) := by rw [cell_of_heap h.ah]; simp [ints, hx]
theorem Sm.af (h : Sm w I P S) (i : Nat) : w.frozen? ⟨I.ab, i, none⟩ = false := by simp [World.frozen?, h.ah]

/-- All that differs: what a step writes. -/
theorem Sm.apart (h : Sm w I P S) : (I.s ≠ I.gp ∧ I.s ≠ I.gq ∧ I.s ≠ I.sa ∧ I.s ≠ I.sp ∧ I.s ≠ I.sq ∧ I.s ≠ I.bb ∧ I.s ≠ I.ab ∧ I.s ∉ I.wk) ∧ (I.gp ≠ I.sa ∧ I.gp ≠ I.sp ∧ I.gp ≠ I.sq ∧ I.gp ≠ I.bb ∧ I.gp ≠ I.ab ∧ I.gp ∉ I.wk) ∧ (I.gq ≠ I.sa ∧ I.gq ≠ I.sp ∧ I.gq ≠ I.sq ∧ I.gq ≠ I.bb ∧ I.gq ≠ I.ab ∧ I.gq ∉ I.wk) ∧ (I.sa ≠ I.bb ∧ I.sa ≠ I.ab ∧ I.sa ∉ I.wk) ∧ (I.sp ≠ I.bb ∧ I.sp ≠ I.ab ∧ I.sp ∉ I.wk) ∧ (I.sq ≠ I.bb ∧ I.sq ≠ I.ab ∧ I.sq ∉ I.wk) ∧ (I.bb ≠ I.ab ∧ I.bb ∉ I.wk) ∧ I.ab ∉ I.wk ∧ I.wk.Nodup := by
  have nd := h.nd
  simp only [SIds.hot, List.nodup_cons, List.mem_cons, not_or] at nd
  obtain ⟨⟨a1, a2, a3, a4, a5, a6, a7, a8⟩, ⟨b1, b2, b3, b4, b5, b6, b7⟩, ⟨c2, c3, c4, c5, c6, c7⟩, ⟨d3, d4, d5, d6, d7⟩, ⟨e4, e5, e6, e7⟩, ⟨f5, f6, f7⟩, ⟨g6, g7⟩, h7, n⟩ := nd
  exact ⟨⟨a1, a2, a3, a4, a5, a6, a7, a8⟩, ⟨b2, b3, b4, b5, b6, b7⟩, ⟨c2, c3, c4, c5, c6, c7⟩, ⟨d5, d6, d7⟩, ⟨e5, e6, e7⟩, ⟨f5, f6, f7⟩, ⟨g6, g7⟩, h7, n⟩

theorem Sm.cold (h : Sm w I P S) {T : List Nat} (hT : ∀ i, i ∈ T → i ∈ I.hot) (t : Turned T w w') : w'.heap[I.wr]? = some (.cells (I.wk.map ptr).toArray 68) ∧ IRd w' I.va P.len P.vals := by
  refine ⟨by rw [t.block I.wr (lt_of_heap h.wrow) (fun hm => h.wrn (hT _ hm))]; exact h.wrow, h.vals.turned t (fun g off i x hg _ hm => h.vnew _ hg (hT _ hm))⟩

theorem Sm.next (h : Sm w I P S) (t : Turned [] w w') : Sm w' I P S := by
  have k : ∀ {b : Nat} {o : Obj}, w.heap[b]? = some o → w'.heap[b]? = some o := fun {b o} hb => by rw [t.block b (lt_of_heap hb) (by simp)]; exact hb
  have hc := h.cold (T := []) (by simp) t
  exact ⟨k h.head, h.gang.turned0 t, h.share.turned0 t, hc.1, h.wlen, fun j b W hb hW => k (h.each j b W hb hW), hc.2, h.vnew, k h.bl, h.bll, k h.ah, h.ahl, h.nd, h.wrn⟩

theorem mem_wk {l : List Nat} {k b : Nat} (h : l[k]? = some b) : b ∈ l := List.mem_of_getElem? h

theorem Sm.ganged (h : Sm w I P S) (t : Turned [I.gp, I.gq] w w') {ws : List Int} {came ph : Nat} (g : Gg w' I.gp I.gq ws came ph) : Sm w' I P { S with ws := ws, came := came, ph := ph } := by
  obtain ⟨⟨a1, a2, a3, a4, a5, a6, a7, a8⟩, ⟨b2, b3, b4, b5, b6, b7⟩, ⟨c2, c3, c4, c5, c6, c7⟩, -⟩ := h.apart
  have k : ∀ {b : Nat} {o : Obj}, w.heap[b]? = some o → b ≠ I.gp → b ≠ I.gq → w'.heap[b]? = some o := fun {b o} hb h1 h2 => by rw [t.block b (lt_of_heap hb) (by simp [h1, h2])]; exact hb
  have hc := h.cold (T := [I.gp, I.gq]) (by simp [SIds.hot]) t
  exact ⟨k h.head a1 a2, g, h.share.turned t (by simp [Ne.symm b2, Ne.symm c2]) (by simp [Ne.symm b3, Ne.symm c3]) (by simp [Ne.symm b4, Ne.symm c4]), hc.1, h.wlen,
    fun j b W hb hW => k (h.each j b W hb hW) (fun e => b7 (e ▸ mem_wk hb)) (fun e => c7 (e ▸ mem_wk hb)), hc.2, h.vnew, k h.bl (Ne.symm b5) (Ne.symm c5), h.bll, k h.ah (Ne.symm b6) (Ne.symm c6), h.ahl, h.nd, h.wrn⟩

theorem Sm.shared (h : Sm w I P S) (t : Turned [I.sa, I.sp, I.sq] w w') {cnt acc : Nat} (g : Sh w' I.sa I.sp I.sq ((cnt : Int) :: I.tl) acc 0 P.nb) : Sm w' I P { S with cnt := cnt, acc := acc } := by
  obtain ⟨⟨a1, a2, a3, a4, a5, a6, a7, a8⟩, ⟨b2, b3, b4, b5, b6, b7⟩, ⟨c2, c3, c4, c5, c6, c7⟩, ⟨d5, d6, d7⟩, ⟨e5, e6, e7⟩, ⟨f5, f6, f7⟩, -⟩ := h.apart
  have k : ∀ {b : Nat} {o : Obj}, w.heap[b]? = some o → b ≠ I.sa → b ≠ I.sp → b ≠ I.sq → w'.heap[b]? = some o := fun {b o} hb h1 h2 h3 => by rw [t.block b (lt_of_heap hb) (by simp [h1, h2, h3])]; exact hb
  have hc := h.cold (T := [I.sa, I.sp, I.sq]) (by simp [SIds.hot]) t
  exact ⟨k h.head a3 a4 a5, h.gang.turned t (by simp [b2, b3, b4]) (by simp [c2, c3, c4]), g, hc.1, h.wlen,
    fun j b W hb hW => k (h.each j b W hb hW) (fun e => d7 (e ▸ mem_wk hb)) (fun e => e7 (e ▸ mem_wk hb)) (fun e => f7 (e ▸ mem_wk hb)), hc.2, h.vnew, k h.bl (Ne.symm d5) (Ne.symm e5) (Ne.symm f5), h.bll, k h.ah (Ne.symm d6) (Ne.symm e6) (Ne.symm f6), h.ahl, h.nd, h.wrn⟩

/-- A worker's own cells anew. -/
theorem Sm.worked (h : Sm w I P S) {k b : Nat} (hb : I.wk[k]? = some b) (t : Turned [b] w w') {V : SW} (hv : w'.heap[b]? = some (.cells (wkCells k V) 78)) : Sm w' I P { S with wk := S.wk.set k V } := by
  obtain ⟨⟨a1, a2, a3, a4, a5, a6, a7, a8⟩, ⟨b2, b3, b4, b5, b6, b7⟩, ⟨c2, c3, c4, c5, c6, c7⟩, ⟨d5, d6, d7⟩, ⟨e5, e6, e7⟩, ⟨f5, f6, f7⟩, ⟨g6, g7⟩, h7, n⟩ := h.apart
  have hm := mem_wk hb
  have no : ∀ {x : Nat}, x ∉ I.wk → x ≠ b := fun hx e => hx (e ▸ hm)
  have q : ∀ {c : Nat} {o : Obj}, w.heap[c]? = some o → c ≠ b → w'.heap[c]? = some o := fun {c o} hc h1 => by rw [t.block c (lt_of_heap hc) (by simp [h1])]; exact hc
  have hc := h.cold (T := [b]) (by simp [SIds.hot, hm]) t
  refine ⟨q h.head (no a8), h.gang.turned t (by simp [no b7]) (by simp [no c7]), h.share.turned t (by simp [no d7]) (by simp [no e7]) (by simp [no f7]), hc.1, ⟨h.wlen.1, by simpa using h.wlen.2⟩, fun j c V2 hc2 hV2 => ?_, hc.2, h.vnew, q h.bl (no g7), h.bll, q h.ah (no h7), h.ahl, h.nd, h.wrn⟩
  rcases get_set hV2 with ⟨rfl, rfl⟩ | ⟨hjk, hV2⟩
  · rw [hb] at hc2
    cases hc2
    exact hv
  · refine q (h.each j c V2 hc2 hV2) (fun e => hjk ?_)
    subst e
    exact (List.getElem?_inj (List.getElem?_eq_some_iff.1 hc2).1 n).1 (hc2.trans hb.symm)
theorem Sm.wput (h : Sm w I P S) {k b : Nat} {W V : SW} (hb : I.wk[k]? = some b) (hW : S.wk[k]? = some W) (i : Nat) (x : Value) (hV : (wkCells k W).setIfInBounds i x = wkCells k V) : Sm (w.setCell ⟨b, i, none⟩ x) I P { S with wk := S.wk.set k V } :=
  h.worked hb ((Turned.refl _ _).setCell (.inl (by simp)) _) (by rw [heap_setCell_at _ _ _ _ _ _ (h.each k b W hb hW), hV])
theorem Sm.put (h : Sm w I P S) (i : Nat) (x : Value) {added : Nat} {tot : Int} (hV : (smCells I P S.added S.tot).setIfInBounds i x = smCells I P added tot) : Sm (w.setCell ⟨I.s, i, none⟩ x) I P { S with added := added, tot := tot } := by
  obtain ⟨⟨a1, a2, a3, a4, a5, a6, a7, a8⟩, -⟩ := h.apart
  have t : Turned [I.s] w (w.setCell ⟨I.s, i, none⟩ x) := (Turned.refl _ _).setCell (.inl (by simp)) _
  have q : ∀ {c : Nat} {o : Obj}, w.heap[c]? = some o → c ≠ I.s → (w.setCell ⟨I.s, i, none⟩ x).heap[c]? = some o := fun {c o} hc h1 => by rw [t.block c (lt_of_heap hc) (by simp [h1])]; exact hc
  have hc := h.cold (T := [I.s]) (by simp [SIds.hot]) t
  exact ⟨by rw [heap_setCell_at _ _ _ _ _ _ h.head, hV], h.gang.turned t (by simp [Ne.symm a1]) (by simp [Ne.symm a2]), h.share.turned t (by simp [Ne.symm a3]) (by simp [Ne.symm a4]) (by simp [Ne.symm a5]), hc.1, h.wlen, fun j c V2 hc2 hV2 => q (h.each j c V2 hc2 hV2) (fun e => a8 (e ▸ mem_wk hc2)), hc.2, h.vnew, q h.bl (Ne.symm a6), h.bll, q h.ah (Ne.symm a7), h.ahl, h.nd, h.wrn⟩
theorem Sm.bput (h : Sm w I P S) (i : Nat) (x : Int) : Sm (w.setCell ⟨I.bb, i, none⟩ (.int .i64 x)) I P { S with bl := S.bl.set i x } := by
  obtain ⟨⟨a1, a2, a3, a4, a5, a6, a7, a8⟩, ⟨b2, b3, b4, b5, b6, b7⟩, ⟨c2, c3, c4, c5, c6, c7⟩, ⟨d5, d6, d7⟩, ⟨e5, e6, e7⟩, ⟨f5, f6, f7⟩, ⟨g6, g7⟩, h7, n⟩ := h.apart
  have t : Turned [I.bb] w (w.setCell ⟨I.bb, i, none⟩ (.int .i64 x)) := (Turned.refl _ _).setCell (.inl (by simp)) _
  have q : ∀ {c : Nat} {o : Obj}, w.heap[c]? = some o → c ≠ I.bb → (w.setCell ⟨I.bb, i, none⟩ (.int .i64 x)).heap[c]? = some o := fun {c o} hc h1 => by rw [t.block c (lt_of_heap hc) (by simp [h1])]; exact hc
  have hc := h.cold (T := [I.bb]) (by simp [SIds.hot]) t
  exact ⟨q h.head a6, h.gang.turned t (by simp [b5]) (by simp [c5]), h.share.turned t (by simp [d5]) (by simp [e5]) (by simp [f5]), hc.1, h.wlen, fun j c V2 hc2 hV2 => q (h.each j c V2 hc2 hV2) (fun e => g7 (e ▸ mem_wk hc2)), hc.2, h.vnew, by rw [heap_setCell_at _ _ _ _ _ _ h.bl]; simp [ints, List.map_set], by simpa using h.bll, q h.ah (Ne.symm g6), h.ahl, h.nd, h.wrn⟩
theorem Sm.aput (h : Sm w I P S) (i : Nat) (x : Int) : Sm (w.setCell ⟨I.ab, i, none⟩ (.int .i64 x)) I P { S with ah := S.ah.set i x } := by
  obtain ⟨⟨a1, a2, a3, a4, a5, a6, a7, a8⟩, ⟨b2, b3, b4, b5, b6, b7⟩, ⟨c2, c3, c4, c5, c6, c7⟩, ⟨d5, d6, d7⟩, ⟨e5, e6, e7⟩, ⟨f5, f6, f7⟩, ⟨g6, g7⟩, h7, n⟩ := h.apart
  have t : Turned [I.ab] w (w.setCell ⟨I.ab, i, none⟩ (.int .i64 x)) := (Turned.refl _ _).setCell (.inl (by simp)) _
  have q : ∀ {c : Nat} {o : Obj}, w.heap[c]? = some o → c ≠ I.ab → (w.setCell ⟨I.ab, i, none⟩ (.int .i64 x)).heap[c]? = some o := fun {c o} hc h1 => by rw [t.block c (lt_of_heap hc) (by simp [h1])]; exact hc
  have hc := h.cold (T := [I.ab]) (by simp [SIds.hot]) t
  exact ⟨q h.head a7, h.gang.turned t (by simp [b6]) (by simp [c6]), h.share.turned t (by simp [d6]) (by simp [e6]) (by simp [f6]), hc.1, h.wlen, fun j c V2 hc2 hV2 => q (h.each j c V2 hc2 hV2) (fun e => h7 (e ▸ mem_wk hc2)), hc.2, h.vnew, q h.bl g6, h.bll, by rw [heap_setCell_at _ _ _ _ _ _ h.ah]; simp [ints, List.map_set], by simpa using h.ahl, h.nd, h.wrn⟩
end

/-- Not too much. -/
structure SP.ok (P : SP) : Prop where
  len : P.len ≤ 65536
  sz : 0 < P.size
  sz2 : P.size ≤ 65536
  n0 : 0 < P.n
  n : P.n ≤ 64
theorem SP.ok.nb {P : SP} (h : P.ok) : P.nb ≤ 65536 := Nat.le_trans (SP.nb_le h.sz) h.len
end Go.Proofs.Ytdjeilombaclmaa

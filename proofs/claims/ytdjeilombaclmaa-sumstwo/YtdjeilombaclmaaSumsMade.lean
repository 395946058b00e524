/-
  New: what it refuses, and what it makes.
-/
import Derived.Test.YtdjeilombaclmaaSumsNew
import Derived.Deep.RegionWith
import Derived.Deep.Cut
import Derived.Deep.CutBlock
import Derived.Deep.CutRange
import Derived.Deep.DeepCutAuto
import Derived.Deep.LoopGhost
namespace Go.Proofs.Ytdjeilombaclmaa
open Go.RowKit
set_option linter.unusedVariables false

set_option maxRecDepth 100000 in
/-- Too few or too many workers. -/
theorem snew_bad1 (w : World) (cv : Value) (ao : Option Addr) (n c : Nat) (k bk : Int) (hk : k < 1 ∨ 64 < k) :
    Calls Try.prog 13 #[cv, .slice ao n c, .int .i64 k, .int .i64 bk] w fun e w' => e = .returned (.tuple #[.pointer none, .int .i64 1]) ∧ Turned [] w w' := by
  have HG := hide (gnew_bad k hk w)
  go_enter Try.func13, Try.ntmps13
  go_wp2_with fail
  refine HG.out.mono ?_
  rintro e w1 ⟨rfl, rfl⟩
  go_wp2_with fail
  go_ret2
  exact ⟨rfl, Turned.refl _ _⟩

set_option maxRecDepth 100000 in
/-- A block of none. -/
theorem snew_bad2 (w : World) (cv : Value) (ao : Option Addr) (n c : Nat) (k : Nat) (bk : Int) (h0 : 0 < k) (hk : k ≤ 64) (hb : bk < 1) :
    Calls Try.prog 13 #[cv, .slice ao n c, .int .i64 (k : Int), .int .i64 bk] w fun e w' => e = .returned (.tuple #[.pointer none, .int .i64 1]) ∧ Turned [] w w' := by
  have HG := hide (gnew_ok k h0 hk w)
  unfold ptr at HG
  go_enter Try.func13, Try.ntmps13
  go_wp2_with fail
  refine HG.out.mono ?_
  rintro e w1 ⟨rfl, -, t1⟩
  have T1 := hide t1
  clear HG t1
  go_wp2_with fail
  go_ret2
  exact ⟨rfl, T1.out⟩

/-- How many values a block has. -/
def szOf (n : Nat) (bk : Int) : Nat := (min bk (max (n : Int) 1)).toNat
theorem szOf_pos (n : Nat) {bk : Int} (h : 1 ≤ bk) : 0 < szOf n bk := by unfold szOf; omega
theorem szOf_le (n : Nat) {bk : Int} (h : 1 ≤ bk) (hn : n ≤ 65536) : szOf n bk ≤ 65536 := by unfold szOf; omega

/-- The parts of new sums, as far as they are made. -/
structure NB (w1 w : World) (n nb len : Nat) (vals : List Int) (x3 : Option Nat) (x5 : Option (Option Addr)) (x8 x11 : Option Nat) : Prop where
  turn : Turned [] w1 w
  p3 : ∀ q, x3 = some q → w.heap[q]? = some (.cells ((wks q n).map ptr).toArray 68) ∧ (∀ k, k < n → w.heap[q + 1 + k]? = some (.cells (wkCells k ⟨0, 0, 0⟩) 78)) ∧ w1.heap.size ≤ q ∧ q + 1 + n ≤ w.heap.size
  p5 : ∀ v, x5 = some v → IRd w v len vals ∧ ∀ a, v = some a → w1.heap.size ≤ a.block ∧ a.block < w.heap.size
  p8 : ∀ q, x8 = some q → w.heap[q]? = some (.cells (ints (List.replicate nb 0)) 2) ∧ w1.heap.size ≤ q ∧ q < w.heap.size
  p11 : ∀ q, x11 = some q → w.heap[q]? = some (.cells (ints (List.replicate len 0)) 2) ∧ w1.heap.size ≤ q ∧ q < w.heap.size
  d35 : ∀ q a, x3 = some q → x5 = some (some a) → a.block < q ∨ q + 1 + n ≤ a.block
  d38 : ∀ q b, x3 = some q → x8 = some b → b < q ∨ q + 1 + n ≤ b
  d311 : ∀ q b, x3 = some q → x11 = some b → b < q ∨ q + 1 + n ≤ b
  d58 : ∀ a b, x5 = some (some a) → x8 = some b → a.block ≠ b
  d511 : ∀ a b, x5 = some (some a) → x11 = some b → a.block ≠ b
  d811 : ∀ a b, x8 = some a → x11 = some b → a ≠ b
section
variable {w1 w w' : World} {n nb len : Nat} {vals : List Int} {x3 : Option Nat} {x5 : Option (Option Addr)} {x8 x11 : Option Nat}
theorem NB.start (w : World) (n nb len : Nat) (vals : List Int) : NB w w n nb len vals none none none none :=
  ⟨Turned.refl _ _, by simp, by simp, by simp, by simp, by simp, by simp, by simp, by simp, by simp, by simp⟩
theorem NB.next (h : NB w1 w n nb len vals x3 x5 x8 x11) (t : Turned [] w w') : NB w1 w' n nb len vals x3 x5 x8 x11 := by
  have k : ∀ {b : Nat} {o : Obj}, w.heap[b]? = some o → w'.heap[b]? = some o := fun {b o} hb => by rw [t.block b (lt_of_heap hb) (by simp)]; exact hb
  have hs := t.size
  exact ⟨h.turn.trans t, fun q hq => ⟨k (h.p3 q hq).1, fun j hj => k ((h.p3 q hq).2.1 j hj), (h.p3 q hq).2.2.1, Nat.le_trans (h.p3 q hq).2.2.2 hs⟩,
    fun v hv => ⟨(h.p5 v hv).1.turned0 t, fun a ha => ⟨((h.p5 v hv).2 a ha).1, Nat.lt_of_lt_of_le ((h.p5 v hv).2 a ha).2 hs⟩⟩,
    fun q hq => ⟨k (h.p8 q hq).1, (h.p8 q hq).2.1, Nat.lt_of_lt_of_le (h.p8 q hq).2.2 hs⟩, fun q hq => ⟨k (h.p11 q hq).1, (h.p11 q hq).2.1, Nat.lt_of_lt_of_le (h.p11 q hq).2.2 hs⟩,
    h.d35, h.d38, h.d311, h.d58, h.d511, h.d811⟩
theorem NB.eight (h : NB w1 w n nb len vals x3 x5 none x11) : NB w1 (w.alloc (.cells (madeCells #[Value.int .i64 0] nb) 2)) n nb len vals x3 x5 (some w.heap.size) x11 := by
  have h2 := h.next ((Turned.refl [] w).alloc (.cells (madeCells #[Value.int .i64 0] nb) 2))
  refine ⟨h2.turn, h2.p3, h2.p5, fun q hq => ?_, h2.p11, h2.d35, fun q b hq hb => ?_, h2.d311, fun a b ha hb => ?_, h2.d511, fun a b ha hb => ?_⟩
  · cases hq
    refine ⟨by rw [heap_alloc_new, madeCells_zeros]; rfl, h.turn.size, by simp⟩
  · cases hb
    exact .inr (h.p3 q hq).2.2.2
  · cases hb
    have := ((h.p5 _ ha).2 a rfl).2
    omega
  · cases ha
    have := (h.p11 b hb).2.2
    omega
theorem NB.eleven (h : NB w1 w n nb len vals x3 x5 x8 none) : NB w1 (w.alloc (.cells (madeCells #[Value.int .i64 0] len) 2)) n nb len vals x3 x5 x8 (some w.heap.size) := by
  have h2 := h.next ((Turned.refl [] w).alloc (.cells (madeCells #[Value.int .i64 0] len) 2))
  refine ⟨h2.turn, h2.p3, h2.p5, h2.p8, fun q hq => ?_, h2.d35, h2.d38, fun q b hq hb => ?_, h2.d58, fun a b ha hb => ?_, fun a b ha hb => ?_⟩
  · cases hq
    refine ⟨by rw [heap_alloc_new, madeCells_zeros]; rfl, h.turn.size, by simp⟩
  · cases hb
    exact .inr (h.p3 q hq).2.2.2
  · cases hb
    have := ((h.p5 _ ha).2 a rfl).2
    omega
  · cases hb
    have := (h.p8 a ha).2.2
    omega
theorem NB.three (h : NB w1 w n nb len vals none x5 x8 x11) (t : Turned [] w w') (r1 : w'.heap[w.heap.size]? = some (.cells ((wks w.heap.size n).map ptr).toArray 68)) (r2 : ∀ k, k < n → w'.heap[w.heap.size + 1 + k]? = some (.cells (wkCells k ⟨0, 0, 0⟩) 78)) (r3 : w'.heap.size = w.heap.size + 1 + n) : NB w1 w' n nb len vals (some w.heap.size) x5 x8 x11 := by
  have h2 := h.next t
  refine ⟨h2.turn, fun q hq => ?_, h2.p5, h2.p8, h2.p11, fun q a hq ha => ?_, fun q b hq hb => ?_, fun q b hq hb => ?_, h2.d58, h2.d511, h2.d811⟩
  · cases hq
    exact ⟨r1, r2, h.turn.size, by omega⟩
  · cases hq
    exact .inl ((h.p5 _ ha).2 a rfl).2
  · cases hq
    exact .inl (h.p8 b hb).2.2
  · cases hq
    exact .inl (h.p11 b hb).2.2
theorem NB.five (h : NB w1 w n nb len vals x3 none x8 x11) (t : Turned [] w w') {ao : Option Addr} (r1 : IRd w' ao len vals) (r2 : New w' w.heap.size ao) : NB w1 w' n nb len vals x3 (some ao) x8 x11 := by
  have h2 := h.next t
  have hs := h.turn.size
  refine ⟨h2.turn, h2.p3, fun v hv => ?_, h2.p8, h2.p11, fun q a hq ha => ?_, h2.d38, h2.d311, fun a b ha hb => ?_, fun a b ha hb => ?_, h2.d811⟩
  · cases hv
    exact ⟨r1, fun a ha => ⟨Nat.le_trans hs (r2 a ha).1, (r2 a ha).2⟩⟩
  · cases ha
    have := (r2 a rfl).1
    have := (h.p3 q hq).2.2.2
    omega
  · cases ha
    have := (r2 a rfl).1
    have := (h.p8 b hb).2.2
    omega
  · cases ha
    have := (r2 a rfl).1
    have := (h.p11 b hb).2.2
    omega
end

theorem NB.sums {w1 w : World} {P : SP} {gp gq sa sp sq : Nat} {tl : List Int} {q b a : Nat} {va : Option Addr} {vc : Nat} (h : NB w1 w P.n P.nb P.len P.vals (some q) (some va) (some b) (some a)) (hg : Gg w1 gp gq (ids P.n) 0 0) (hs : Sh w1 sa sp sq (0 :: tl) 0 0 P.nb) (hgs : gp ≠ sa ∧ gp ≠ sp ∧ gp ≠ sq ∧ gq ≠ sa ∧ gq ≠ sp ∧ gq ≠ sq) :
    Sm (w.alloc (.cells #[ptr gp, ptr sa, .slice (some ⟨q, 0, none⟩) P.n P.n, .slice va P.len vc, .int .i64 (P.size : Int), .slice (some ⟨b, 0, none⟩) P.nb P.nb, .int .i64 0, .int .i64 0, .slice (some ⟨a, 0, none⟩) P.len P.len] 58)) ⟨w.heap.size, gp, gq, sa, sp, sq, b, a, q, wks q P.n, va, vc, tl⟩ P (SS.fresh P) := by
  have h2 := h.next ((Turned.refl [] w).alloc (.cells #[ptr gp, ptr sa, .slice (some ⟨q, 0, none⟩) P.n P.n, .slice va P.len vc, .int .i64 (P.size : Int), .slice (some ⟨b, 0, none⟩) P.nb P.nb, .int .i64 0, .int .i64 0, .slice (some ⟨a, 0, none⟩) P.len P.len] 58))
  have hz := h.turn.size
  obtain ⟨r1, r2, r3, r4⟩ := h.p3 q rfl
  obtain ⟨v1, v2⟩ := h.p5 va rfl
  obtain ⟨b1, b2, b3⟩ := h.p8 b rfl
  obtain ⟨a1, a2, a3⟩ := h.p11 a rfl
  have d38 := h.d38 q b rfl rfl
  have d311 := h.d311 q a rfl rfl
  have d811 := h.d811 b a rfl rfl
  have l1 := hg.ltp
  have l2 := hg.ltq
  have l3 := hs.lta
  have l4 := hs.mem.ltp
  have l5 := hs.mem.ltq
  have hne := hg.ne
  have hw : ∀ x, x ∈ wks q P.n → q + 1 ≤ x ∧ x < q + 1 + P.n := fun x hx => by
    simp [wks] at hx
    omega
  refine ⟨?_, hg.turned0 h2.turn, hs.turned0 h2.turn, (h2.p3 q rfl).1, ⟨wks_len _ _, by simp [SS.fresh]⟩, fun k c W hc hW => ?_, (h2.p5 va rfl).1, fun x hx => ?_, (h2.p8 b rfl).1, by simp [SS.fresh], (h2.p11 a rfl).1, by simp [SS.fresh], ?_, ?_⟩
  · rw [heap_alloc_new]; rfl
  · have hk : k < P.n := by have := (List.getElem?_eq_some_iff.1 hc).1; simpa [wks_len] using this
    simp only at hc
    rw [wks_get hk] at hc
    cases hc
    have hW0 : W = ⟨0, 0, 0⟩ := by
      simp [SS.fresh, List.getElem?_replicate] at hW
      exact hW.2.symm
    subst hW0
    exact (h2.p3 q rfl).2.1 k hk
  · simp only at hx
    have h35 := h.d35 q x rfl (by rw [hx])
    have h58 := h.d58 x b (by rw [hx]) rfl
    have h511 := h.d511 x a (by rw [hx]) rfl
    obtain ⟨v3, v4⟩ := v2 x hx
    simp only [SIds.hot, List.mem_cons, not_or]
    refine ⟨by omega, by omega, by omega, by omega, by omega, by omega, by omega, by omega, fun hm => ?_⟩
    have := hw _ hm
    omega
  · obtain ⟨g1, g2, g3, g4, g5, g6⟩ := hgs
    have n1 := hs.nep
    have n2 := hs.neq
    have n3 := hs.mem.ne
    have hnd : (wks q P.n).Nodup := by
      unfold wks
      exact List.Pairwise.map _ (fun x y h e => h (by omega)) List.nodup_range
    have nm : ∀ x, (x < q + 1 ∨ q + 1 + P.n ≤ x) → x ∉ wks q P.n := fun x hx hm => by have := hw x hm; omega
    simp only [SIds.hot, List.nodup_cons, List.mem_cons, not_or]
    refine ⟨⟨by omega, by omega, by omega, by omega, by omega, by omega, by omega, nm _ (by omega)⟩, ⟨by omega, by omega, by omega, by omega, by omega, by omega, nm _ (by omega)⟩, ⟨by omega, by omega, by omega, by omega, by omega, nm _ (by omega)⟩, ⟨by omega, by omega, by omega, by omega, nm _ (by omega)⟩, ⟨by omega, by omega, by omega, nm _ (by omega)⟩, ⟨by omega, by omega, nm _ (by omega)⟩, ⟨by omega, nm _ (by omega)⟩, nm _ (by omega), hnd⟩
  · simp only [SIds.hot, List.mem_cons, not_or]
    refine ⟨by omega, by omega, by omega, by omega, by omega, by omega, by omega, by omega, fun hm => ?_⟩
    have := hw _ hm
    omega


/-- All blocks. -/
def SIds.all (I : SIds) : List Nat := I.wr :: ((I.va.map (fun a => a.block)).toList ++ I.hot)
theorem Sm.far {w w' : World} {I : SIds} {P : SP} {S : SS} (h : Sm w I P S) {T : List Nat} (t : Turned T w w') (hT : ∀ i, i ∈ T → i ∉ I.all) : Sm w' I P S := by
  have no : ∀ {b : Nat}, b ∈ I.hot → b ∉ T := fun {b} hb hm => hT b hm (by simp [SIds.all, hb])
  have k : ∀ {b : Nat} {o : Obj}, w.heap[b]? = some o → b ∈ I.all → w'.heap[b]? = some o := fun {b o} hb hm => by rw [t.block b (lt_of_heap hb) (fun hx => hT b hx hm)]; exact hb
  have hh : ∀ {b : Nat}, b ∈ I.hot → b ∈ I.all := fun {b} hb => by simp [SIds.all, hb]
  exact ⟨k h.head (by simp [SIds.all, SIds.hot]), h.gang.turned t (no (by simp [SIds.hot])) (no (by simp [SIds.hot])), h.share.turned t (no (by simp [SIds.hot])) (no (by simp [SIds.hot])) (no (by simp [SIds.hot])), k h.wrow (by simp [SIds.all]), h.wlen,
    fun j b W hb hW => k (h.each j b W hb hW) (hh (by simp [SIds.hot, mem_wk hb])), h.vals.turned t (fun g off i x hg hc hm => hT g hm (by simp [SIds.all, hg])), h.vnew, k h.bl (by simp [SIds.all, SIds.hot]), h.bll, k h.ah (by simp [SIds.all, SIds.hot]), h.ahl, h.nd, h.wrn⟩

theorem hot12 {w2 w3 : World} {n nb len : Nat} {vals : List Int} {q b a : Nat} {va : Option Addr} (h : NB w2 w3 n nb len vals (some q) (some va) (some b) (some a)) {z gp gq sa cp cq vc : Nat} {tl : List Int} (hz : z ≤ w2.heap.size) (h1 : z ≤ gp) (h2 : z ≤ gq) (h3 : z ≤ sa) :
    ∀ i, i ∈ SIds.all ⟨w3.heap.size, gp, gq, sa, cp, cq, b, a, q, wks q n, va, vc, tl⟩ → i = cp ∨ i = cq ∨ z ≤ i := by
  intro i hi
  have hs := h.turn.size
  have r3 := (h.p3 q rfl).2.2.1
  have b2 := (h.p8 b rfl).2.1
  have a2 := (h.p11 a rfl).2.1
  have v2 := (h.p5 va rfl).2
  simp only [SIds.all, SIds.hot, List.mem_cons, List.mem_append] at hi
  rcases hi with rfl | hi | rfl | rfl | rfl | rfl | rfl | rfl | rfl | rfl | hi
  · right; right; omega
  · cases va with
    | none => simp at hi
    | some x =>
      simp at hi
      have := (v2 x rfl).1
      right; right; omega
  · right; right; omega
  · right; right; omega
  · right; right; omega
  · right; right; omega
  · exact .inl rfl
  · exact .inr (.inl rfl)
  · right; right; omega
  · right; right; omega
  · simp [wks] at hi
    right; right; omega

theorem lt12 {w2 w3 : World} {n nb len : Nat} {vals : List Int} {q b a : Nat} {va : Option Addr} (h : NB w2 w3 n nb len vals (some q) (some va) (some b) (some a)) {gp gq sa cp cq vc : Nat} {tl : List Int} (h1 : gp < w2.heap.size) (h2 : gq < w2.heap.size) (h3 : sa < w2.heap.size) (h4 : cp < w2.heap.size) (h5 : cq < w2.heap.size) (o : Obj) :
    ∀ i, i ∈ SIds.all ⟨w3.heap.size, gp, gq, sa, cp, cq, b, a, q, wks q n, va, vc, tl⟩ → i < (w3.alloc o).heap.size := by
  intro i hi
  have hz : (w3.alloc o).heap.size = w3.heap.size + 1 := by simp
  have hs := h.turn.size
  have r3 := (h.p3 q rfl).2.2.2
  have b2 := (h.p8 b rfl).2.2
  have a2 := (h.p11 a rfl).2.2
  have v2 := (h.p5 va rfl).2
  simp only [SIds.all, SIds.hot, List.mem_cons, List.mem_append] at hi
  rcases hi with rfl | hi | rfl | rfl | rfl | rfl | rfl | rfl | rfl | rfl | hi
  · omega
  · cases va with
    | none => simp at hi
    | some x =>
      simp at hi
      have := (v2 x rfl).2
      omega
  · omega
  · omega
  · omega
  · omega
  · omega
  · omega
  · omega
  · omega
  · simp [wks] at hi
    omega
end Go.Proofs.Ytdjeilombaclmaa

/-
  What follow's closure does with one reference.
-/
import Derived.Test.YthigmechfcndcaaBlocksAddr
namespace Go.Proofs.Ythigmechfcndcaa
open Go.RowKit Go.Maps
set_option linter.unusedVariables false

/-- What follow has: the objects f (variable c1, map mo), what was reached (c2, mr), what is ahead (c3, a row of its own from B on). -/
structure FlwInv (B c1 c2 c3 mo mr no : Nat) (f : Int → Option Blk) (D : List Int) (k : Nat) (s : List Int × List Blk) (O : List Nat) (w : World) : Prop where
  b1 : B ≤ mr ∧ B ≤ c3 ∧ mo ≠ mr
  v1 : w.heap[c1]? = some (.cells #[.map (some mo)] 84 (0, 0))
  v2 : w.heap[c2]? = some (.cells #[.map (some mr)] 81 (0, 0))
  om : OMap w mo no f
  sm : SMap w mr s.1.length s.1
  row : ∃ v, w.heap[c3]? = some (.cells #[v] 45 (0, 0)) ∧ w.ownsRow B 38 4 v s.2.length (flat s.2) ∧ O = mr :: c3 :: v.ownBlock.toList
  nodup : s.1.Nodup
  dom : ∀ x, x ∈ s.1 → f x ≠ none
  few : s.2.length ≤ s.1.length
  all : ∀ x, f x ≠ none → x ∈ D
  room : D.length ≤ 65536

section
variable {B c1 c2 c3 mo mr no : Nat} {f : Int → Option Blk} {D : List Int} {k : Nat} {s : List Int × List Blk} {O : List Nat} {w : World}
theorem FlwInv.low (h : FlwInv B c1 c2 c3 mo mr no f D k s O w) : ∀ x, x ∈ O → B ≤ x ∧ x < w.heap.size := by
  obtain ⟨v, hv, hown, rfl⟩ := h.row
  intro x hx
  rcases List.mem_cons.1 hx with rfl | hx
  · exact ⟨h.b1.1, h.sm.lt⟩
  · rcases List.mem_cons.1 hx with rfl | hx
    · exact ⟨h.b1.2.1, lt_of_heap hv⟩
    · exact hown.lt x (by simpa using hx)
theorem FlwInv.many (h : FlwInv B c1 c2 c3 mo mr no f D k s O w) : s.1.length ≤ 65536 :=
  Nat.le_trans (nodup_le _ _ h.nodup (fun x hx => h.all x (h.dom x hx))) h.room
theorem FlwInv.keep {w' : World} (h : FlwInv B c1 c2 c3 mo mr no f D k s O w) (ht : Turned [] w w') : FlwInv B c1 c2 c3 mo mr no f D k s O w' := by
  refine ⟨h.b1, by rw [ht.block _ (lt_of_heap h.v1) (by simp)]; exact h.v1, by rw [ht.block _ (lt_of_heap h.v2) (by simp)]; exact h.v2, h.om.block (ht.block _ h.om.lt (by simp)), h.sm.block (ht.block _ h.sm.lt (by simp)), ?_, h.nodup, h.dom, h.few, h.all, h.room⟩
  obtain ⟨v, hv, hown, hO⟩ := h.row
  exact ⟨v, by rw [ht.block _ (lt_of_heap hv) (by simp)]; exact hv, ownsRow_keep hown (fun k hk => ht.block k (hown.lt k hk).2 (by simp)), hO⟩
theorem FlwInv.to (h : FlwInv B c1 c2 c3 mo mr no f D k s O w) (j : Nat) : FlwInv B c1 c2 c3 mo mr no f D j s O w :=
  ⟨h.b1, h.v1, h.v2, h.om, h.sm, h.row, h.nodup, h.dom, h.few, h.all, h.room⟩
end
theorem flwTaker (B c1 c2 c3 mo mr no : Nat) (f : Int → Option Blk) (D : List Int) : Taker (List Int × List Blk) (FlwInv B c1 c2 c3 mo mr no f D) where
  lt := fun k s O w h x hx => (h.low x hx).2
  keep := fun k s O w w' h ht => h.keep ht
  up := fun k s O w h => h.to _

/-- What holds behind the store into the map of what was reached. -/
theorem FlwInv.after {B c1 c2 c3 mo mr no : Nat} {f : Int → Option Blk} {D : List Int} {k n : Nat} {s : List Int × List Blk} {O : List Nat} {w w' : World} {R : List Int} (h : FlwInv B c1 c2 c3 mo mr no f D k s O w) (ht : Turned [mr] w w') (hs : SMap w' mr n R) :
    w'.heap[c1]? = some (.cells #[.map (some mo)] 84 (0, 0)) ∧ w'.heap[c2]? = some (.cells #[.map (some mr)] 81 (0, 0)) ∧ OMap w' mo no f ∧ ∃ v, w'.heap[c3]? = some (.cells #[v] 45 (0, 0)) ∧ w'.ownsRow B 38 4 v s.2.length (flat s.2) ∧ O = mr :: c3 :: v.ownBlock.toList ∧ w.heap[c3]? = some (.cells #[v] 45 (0, 0)) := by
  obtain ⟨es, cl, hm⟩ := h.sm.isMap
  have hne : ∀ {i : Nat} {c : Array Value} {e : TypeId}, w.heap[i]? = some (.cells c e (0, 0)) → w'.heap[i]? = some (.cells c e (0, 0)) := fun {i c e} hi => by
    rw [ht.block i (lt_of_heap hi) (by simp; intro e; subst e; rw [hm] at hi; cases hi)]
    exact hi
  refine ⟨hne h.v1, hne h.v2, h.om.block (ht.block _ h.om.lt (by simp; exact h.b1.2.2)), ?_⟩
  obtain ⟨v, hv, hown, hO⟩ := h.row
  refine ⟨v, hne hv, ownsRow_keep hown (fun i hi => ?_), hO, hv⟩
  obtain ⟨_, _, c, hc⟩ := ownsRow_lt hown i hi
  rw [hne hc, hc]

/-- What holds behind the append and the store of the row. -/
theorem flw_pushed {B c1 c2 c3 mo mr no : Nat} {f : Int → Option Blk} {D : List Int} {k : Nat} {s s' : List Int × List Blk} {w w3 wa w4 : World} {v v' : Value} (h : FlwInv B c1 c2 c3 mo mr no f D k s (mr :: c3 :: v.ownBlock.toList) w)
    (hT : Turned [mr] w w3) (h1 : w3.heap[c1]? = some (.cells #[.map (some mo)] 84 (0, 0))) (h2 : w3.heap[c2]? = some (.cells #[.map (some mr)] 81 (0, 0))) (hm : OMap w3 mo no f) (hs : SMap w3 mr s'.1.length s'.1)
    (h3 : w3.heap[c3]? = some (.cells #[v] 45 (0, 0))) (hv : w3.ownsRow B 38 4 v s.2.length (flat s.2)) (hta : Turned [] w3 wa)
    (hown : w4.ownsRow B 38 4 v' s'.2.length (flat s'.2)) (hg : wa.grownBy w4 v.ownBlock) (hat : v'.ownBlock = v.ownBlock ∨ v'.ownBlock = some wa.heap.size)
    (hn : s'.1.Nodup) (hd : ∀ x, x ∈ s'.1 → f x ≠ none) (hf : s'.2.length ≤ s'.1.length) :
    FlwInv B c1 c2 c3 mo mr no f D (k + 1) s' (mr :: c3 :: v'.ownBlock.toList) (w4.setCell ⟨c3, 0, none⟩ v') ∧ Turned (mr :: c3 :: v.ownBlock.toList) w (w4.setCell ⟨c3, 0, none⟩ v') ∧ ∀ x, x ∈ mr :: c3 :: v'.ownBlock.toList → x ∈ mr :: c3 :: v.ownBlock.toList ∨ w.heap.size ≤ x := by
  have hk4 : ∀ {i : Nat} {o : Obj}, w3.heap[i]? = some o → v.ownBlock ≠ some i → w4.heap[i]? = some o := fun {i o} hi hne => by
    rw [hg.block i (Nat.lt_of_lt_of_le (lt_of_heap hi) hta.size) (fun e => hne e.symm), hta.block i (lt_of_heap hi) (by simp)]
    exact hi
  have hvb : ∀ {i : Nat} {c : Array Value} {e : TypeId}, w3.heap[i]? = some (.cells c e (0, 0)) → e ≠ 38 → v.ownBlock ≠ some i := fun {i c e} hi he hh => by
    obtain ⟨_, _, c2, hc2⟩ := ownsRow_lt hv i hh
    rw [hi] at hc2
    injection hc2 with hc2
    injection hc2 with _ h5
    exact he h5
  have hvm : ∀ {i : Nat} {es : Array MapEntry} {c : Nat}, w3.heap[i]? = some (.map es c) → v.ownBlock ≠ some i := fun {i es c} hi hh => by
    obtain ⟨_, _, c2, hc2⟩ := ownsRow_lt hv i hh
    rw [hi] at hc2
    cases hc2
  have hset : ∀ {i : Nat}, i ≠ c3 → (w4.setCell ⟨c3, 0, none⟩ v').heap[i]? = w4.heap[i]? := fun {i} hi => Below.heap_setCell _ _ _ _ hi
  have q3 := hk4 h3 (hvb h3 (by decide))
  have q1 := hk4 h1 (hvb h1 (by decide))
  have q2 := hk4 h2 (hvb h2 (by decide))
  obtain ⟨es, cl, hes⟩ := hs.isMap
  obtain ⟨fs, dl, hfs⟩ := hm.isMap
  have qs := hk4 hes (hvm hes)
  have qm := hk4 hfs (hvm hfs)
  have n1 : c1 ≠ c3 := fun e => by subst e; rw [q3] at q1; simp at q1
  have n2 : c2 ≠ c3 := fun e => by subst e; rw [q3] at q2; simp at q2
  have ns : mr ≠ c3 := fun e => by subst e; rw [q3] at qs; cases qs
  have nm : mo ≠ c3 := fun e => by subst e; rw [q3] at qm; cases qm
  refine ⟨⟨h.b1, ?_, ?_, ?_, ?_, ⟨v', one_setCell q3, ?_, rfl⟩, hn, hd, hf, h.all, h.room⟩, ?_, ?_⟩
  · rw [hset n1]; exact q1
  · rw [hset n2]; exact q2
  · exact hm.block (by rw [hset nm, qm, hfs])
  · exact hs.block (by rw [hset ns, qs, hes])
  · refine ownsRow_setCell_other hown (fun e => ?_) _
    obtain ⟨_, _, c, hc⟩ := ownsRow_lt hown c3 e
    rw [q3] at hc
    simp at hc
  · refine Turned.setCell ?_ (.inl (by simp)) _
    refine ((hT.mono (by simp)).trans (hta.mono (by simp))).grown hg (fun i hi => .inl ?_)
    simp [hi]
  · intro x hx
    rcases List.mem_cons.1 hx with rfl | hx
    · exact .inl (by simp)
    · rcases List.mem_cons.1 hx with rfl | hx
      · exact .inl (by simp)
      · have hx : v'.ownBlock = some x := by simpa using hx
        rcases hat with h5 | h5
        · rw [hx] at h5
          exact .inl (by simp [← h5])
        · rw [hx] at h5
          injection h5 with h5
          have := hT.size
          have := hta.size
          exact .inr (by omega)

set_option maxRecDepth 100000 in
theorem flw_takes (B c1 c2 c3 mo mr no : Nat) (f : Int → Option Blk) (D : List Int) (k : Nat) (s : List Int × List Blk) (O : List Nat) (w : World) (r : Int) (hr : In64 r) (h : FlwInv B c1 c2 c3 mo mr no f D k s O w) :
    Calls Try.prog 45 #[.int .i64 r, .pointer (some ⟨c1, 0, none⟩), .pointer (some ⟨c2, 0, none⟩), .pointer (some ⟨c3, 0, none⟩)] w fun e w' => e = .returned (.bool (flwStep f s r).2) ∧ ∃ O', FlwInv B c1 c2 c3 mo mr no f D (k + 1) (flwStep f s r).1 O' w' ∧ Turned O w w' ∧ ∀ x, x ∈ O' → x ∈ O ∨ w.heap.size ≤ x := by
  have HI := hide h
  have x1 := cell_of_one h.v1
  have x2 := cell_of_one h.v2
  by_cases h0 : r = 0
  · have e1 : flwStep f s r = (s, true) := by unfold flwStep; rw [if_pos h0]
    rw [e1]
    subst h0
    clear h hr e1
    go_enter Try.func45, Try.ntmps45
    go_wp2_with fail
    go_ret
    exact ⟨rfl, O, HI.out.to _, Turned.refl _ _, fun x hx => .inl hx⟩
  · cases hf : f r with
    | none =>
      have e1 : flwStep f s r = (s, false) := by unfold flwStep; rw [if_neg h0, hf]
      rw [e1]
      have y2 : (w.alloc (.cells #[.int .i64 0, .int .i64 0, .int .i64 0, .int .i64 0] 38)).cell? ⟨c2, 0, none⟩ = some (.map (some mr)) := by
        rw [((Turned.refl [] w).alloc _).cell (block_lt x2) (by simp)]; exact x2
      have HT := hide (fun a b => ((Turned.refl O w).alloc a).alloc b)
      have HO := hide h.om
      have HS := hide (fun o => h.sm.block (w' := w.alloc o) (Below.heap_alloc _ _ _ h.sm.lt))
      have HL := hide (fun a b => h.keep (((Turned.refl [] w).alloc a).alloc b))
      have HF := hide hf
      obtain ⟨q, hq⟩ : ∃ q, decide (r ∈ s.1) = q := ⟨_, rfl⟩
      have HQ := hide hq
      clear h e1 hf hq x2
      go_enter Try.func45, Try.ntmps45
      go_wp2_with (at_lookup; first | (refine wpList_omap_none _ rfl _ _ rfl mo no f rfl HO.out r rfl hr HF.out ?_) | (refine wpList_smap_is _ rfl _ _ rfl mr _ _ rfl (HS.out _) r rfl hr q HQ.out ?_))
      go_ret
      exact ⟨rfl, O, (HL.out _ _).to _, HT.out _ _, fun x hx => .inl hx⟩
    | some b =>
      obtain ⟨bt, bk, bn, bz⟩ := b
      have y2 : (w.alloc (.cells #[.int .i64 bt, .int .i64 bk, .int .i64 bn, .int .i64 bz] 38)).cell? ⟨c2, 0, none⟩ = some (.map (some mr)) := by
        rw [((Turned.refl [] w).alloc _).cell (block_lt x2) (by simp)]; exact x2
      have HT := hide (fun a b => ((Turned.refl O w).alloc a).alloc b)
      have HO := hide h.om
      have HS := hide (fun o => h.sm.block (w' := w.alloc o) (Below.heap_alloc _ _ _ h.sm.lt))
      have HL := hide (fun a b => h.keep (((Turned.refl [] w).alloc a).alloc b))
      have HF := hide hf
      by_cases hq : r ∈ s.1
      · have e1 : flwStep f s r = (s, true) := by unfold flwStep; rw [if_neg h0, hf]; simp only; rw [if_pos hq]
        rw [e1]
        have HQ := hide (decide_eq_true hq)
        clear h e1 hf hq x2
        go_enter Try.func45, Try.ntmps45
        go_wp2_with (at_lookup; first | (refine wpList_omap_some _ rfl _ _ rfl mo no f rfl HO.out r rfl hr bt bk bn bz HF.out ?_) | (refine wpList_smap_is _ rfl _ _ rfl mr _ _ rfl (HS.out _) r rfl hr true HQ.out ?_))
        go_ret
        exact ⟨rfl, O, (HL.out _ _).to _, HT.out _ _, fun x hx => .inl hx⟩
      · have e1 : flwStep f s r = ((s.1 ++ [r], s.2 ++ [⟨bt, bk, bn, bz⟩]), true) := by unfold flwStep; rw [if_neg h0, hf]; simp only; rw [if_neg hq]
        have HW := hide (flw_step f s r)
        rw [e1] at HW ⊢
        have HQ := hide (decide_eq_false hq)
        have hmany := h.many
        have hfew := h.few
        obtain ⟨v, hv, hown, rfl⟩ := h.row
        obtain ⟨ao, cap, rfl, -⟩ := ownsRow_blks hown
        obtain ⟨i0, hi, hz0, hz1, hz2⟩ := info_parts Try.infoBlock
        have hwb : ((w.alloc (.cells #[.int .i64 bt, .int .i64 bk, .int .i64 bn, .int .i64 bz] 38)).alloc (.cells #[] 61)).heap[w.heap.size]? = some (.cells #[.int .i64 bt, .int .i64 bk, .int .i64 bn, .int .i64 bz] 38) := by
          rw [Below.heap_alloc _ _ _ (by simp), heap_alloc_new]
        have HWB := hide hwb
        have y3 : ((w.alloc (.cells #[.int .i64 bt, .int .i64 bk, .int .i64 bn, .int .i64 bz] 38)).alloc (.cells #[] 61)).cell? ⟨c2, 0, none⟩ = some (.map (some mr)) := by
          rw [(((Turned.refl [] w).alloc _).alloc _).cell (block_lt x2) (by simp)]; exact x2
        have hmb : mr ≠ w.heap.size := by have := h.sm.lt; omega
        have HLw := hide (HL.out (.cells #[.int .i64 bt, .int .i64 bk, .int .i64 bn, .int .i64 bz] 38) (.cells #[] 61))
        have HTw := hide (HT.out (.cells #[.int .i64 bt, .int .i64 bk, .int .i64 bn, .int .i64 bz] 38) (.cells #[] 61))
        have hBw : B ≤ w.heap.size := by have := h.b1.1; have := h.sm.lt; omega
        have HC3 : Hid (((w.alloc (.cells #[.int .i64 bt, .int .i64 bk, .int .i64 bn, .int .i64 bz] 38)).alloc (.cells #[] 61)).heap[c3]? = some (.cells #[.slice ao s.2.length cap] 45 (0, 0))) := by
          show _ = _
          rw [(((Turned.refl [] w).alloc _).alloc _).block _ (lt_of_heap hv) (by simp)]; exact hv
        clear h e1 hf hq x2 hv hown hwb HL HT
        go_enter Try.func45, Try.ntmps45
        go_wp2_with (first | (at_lookup; first | (refine wpList_omap_some _ rfl _ _ rfl mo no f rfl HO.out r rfl hr bt bk bn bz HF.out ?_) | (refine wpList_smap_is _ rfl _ _ rfl mr _ _ rfl (HS.out _) r rfl hr false HQ.out ?_)) | (at_mapUpdate; refine wpList_smap_store _ rfl _ _ _ rfl mr _ _ rfl HLw.out.sm (by unfold maxLen; omega) r rfl hr rfl ?_; intro w3 hs3 ht3; obtain ⟨a1, a2, a3, v3, a4, a5, a6, a7⟩ := HLw.out.after ht3 hs3; have e3 : v3 = Value.slice ao s.2.length cap := (by rw [HC3.out] at a7; injection a7 with a7; injection a7 with a7; simpa using a7.symm); subst e3; have z3 := cell_of_one a4; have hb3 : w3.heap[w.heap.size]? = some (.cells #[.int .i64 bt, .int .i64 bk, .int .i64 bn, .int .i64 bz] 38) := (by rw [ht3.block _ (lt_of_heap HWB.out) (by simp; omega)]; exact HWB.out); have k0 := cell_of_heap hb3 0; have k1 := cell_of_heap hb3 1; have k2 := cell_of_heap hb3 2; have k3 := cell_of_heap hb3 3; have HA := hide (And.intro a1 (And.intro a2 (And.intro a3 (And.intro a4 (And.intro a5 (And.intro ht3 hs3)))))); clear a1 a2 a3 a4 a5 a6 a7 ht3 hs3 hb3) | (at_builtin; refine wpList_append_own_at _ rfl _ _ 45 rfl B 38 i0 _ 4 32 Try.underlying45 hi hz0 hz1 hz2 rfl (by decide) _ _ _ rfl (HA.out.2.2.2.2.1.alloc _) ⟨w3.heap.size, 0, none⟩ 1 1 (Blk.cells ⟨bt, bk, bn, bz⟩) rfl rfl (cells_new _ _ _ _ rfl) (Blk.cells_one _) (by unfold maxLen; omega) (by omega) (by have := HA.out.2.2.2.2.2.1.size; simp at this; simp; omega) ?_; intro v' w4 hown' hgrow4 hnil4 hat4; obtain ⟨ao2, cap2, rfl, -⟩ := ownsRow_blks (bs := s.2 ++ [⟨bt, bk, bn, bz⟩]) (by rw [flat_snoc]; exact hown'); have hq4 : w4.heap[c3]? = some (.cells #[.slice ao s.2.length cap] 45 (0, 0)) := (by rw [hgrow4.block c3 (by have := lt_of_heap HA.out.2.2.2.1; simp; omega) (fun e => by obtain ⟨_, _, c, hc⟩ := ownsRow_lt HA.out.2.2.2.2.1 c3 e.symm; rw [HA.out.2.2.2.1] at hc; simp at hc), Below.heap_alloc _ _ _ (lt_of_heap HA.out.2.2.2.1)]; exact HA.out.2.2.2.1); have p4 := cell_of_one hq4; have g4 := free_of_one hq4; have HO4 := hide hown'; have HG4 : Hid (World.grownBy _ w4 (Value.slice ao s.2.length cap).ownBlock) := hide hgrow4; have HA4 : Hid (_ = (Value.slice ao s.2.length cap).ownBlock ∨ _) := hide hat4; clear hown' hgrow4 hnil4 hat4 hq4))
        go_ret
        obtain ⟨r1, r2, r3⟩ := flw_pushed (v' := .slice ao2 (s.2.length + 1) cap2) (s' := (s.1 ++ [r], s.2 ++ [⟨bt, bk, bn, bz⟩])) (w4 := w4) HLw.out HA.out.2.2.2.2.2.1 HA.out.1 HA.out.2.1 HA.out.2.2.1 (by simpa using HA.out.2.2.2.2.2.2) HA.out.2.2.2.1 HA.out.2.2.2.2.1 ((Turned.refl [] w3).alloc (.cells #[.int .i64 bt, .int .i64 bk, .int .i64 bn, .int .i64 bz] 38)) (by rw [flat_snoc]; simpa using HO4.out) HG4.out HA4.out (HW.out.nodup HLw.out.nodup) (HW.out.dom HLw.out.dom) (by simp; omega)
        exact ⟨rfl, _, r1, HTw.out.trans r2, fun x hx => (r3 x hx).imp (fun h => by simpa using h) (fun h => by have := HTw.out.size; omega)⟩
end Go.Proofs.Ythigmechfcndcaa

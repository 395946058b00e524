/-
  Add and End: their closures, and the calls themselves.
-/
import Derived.Test.YtclfeafmlngpnaaSafeCount
import Derived.Deep.RegionHeld3
namespace Go.Proofs.Ytclfeafmlngpnaa
open Go.RowKit Go.Maps
set_option linter.unusedVariables false

def isNew (L : Th) (x : Int) : Bool := decide (st L x = 0)
def addL (ar : Bool) (L : Th) (x : Int) : Th := if st L x = 0 then ins x (come ar) L else L
def isOld (L : Th) (x : Int) : Bool := decide (st L x ≠ 0)
def addR (ar : Bool) (L : Th) (l : List Int) : Th × Nat := cntR isNew (addL ar) L l
def endR (L : Th) (l : List Int) : Th × Nat := cntR isOld (fun M x => del x M) L l

theorem addL_length (ar : Bool) (L : Th) (x : Int) : (addL ar L x).length ≤ L.length + 1 := by
  unfold addL
  split
  · rw [ins_length]; exact Nat.le_refl _
  · omega

theorem add_store {w : World} {a b : Nat} {L : Th} {ar : Bool} (h : Sf w a (some b) L ar) {x s : Int} (hx : In64 x) (hs : 1 ≤ s ∧ s ≤ 3) (h0 : st L x = 0) (hf : L.length + 1 < 17592186044416) (w1 : World) (hh : w1.heap = w.heap) (ht : Turned [] w w1) :
    ∃ w2, (Instr.mapUpdate 46 (.map (some b)) (.int .i64 x) (.int .i64 s)).run Try.prog w1 = .ok () w2 ∧ Sf w2 a (some b) (ins x s L) ar ∧ Turned [b] w w2 := by
  have h1 : Sf w1 a (some b) L ar := h.keep (by rw [hh]) (fun _ _ => by rw [hh])
  obtain ⟨w2, hrun, hm2, ht2⟩ := (h1.map b rfl).update (by have := h1.few; unfold maxLen; omega) hx hs (st_ins L x s) (h1.ok.ins h0 hs hx)
  exact ⟨w2, hrun, h1.store hm2 ht2 (h1.ok.ins h0 hs hx) (by rw [ins_length]; exact hf), (ht.mono (by simp)).trans ht2⟩

theorem add1_any (w : World) (a b v : Nat) (L : Th) (ar : Bool) (x : Int) (h : Sf w a (some b) L ar) (hv : w.cell? ⟨v, 0, none⟩ = some (ptr a)) (hx : In64 x) (hf : L.length + 1 < 17592186044416) :
    Calls Try.prog 33 #[.int .i64 x, ptr v] w fun e w' => e = .returned (.bool (isNew L x)) ∧ Sf w' a (some b) (addL ar L x) ar ∧ Turned [b] w w' := by
  have HS := hide h
  have HC := hide (state_any w a _ L ar x h hx)
  have HCo := hide (fun w' (hh : w'.heap = w.heap) => comes_any w' a _ L ar (h.keep (by rw [hh]) (fun _ _ => by rw [hh])))
  have hcd : w.drew.cell? ⟨a, 0, none⟩ = some (.map (some b)) := h.c0
  have hvd : w.drew.cell? ⟨v, 0, none⟩ = some (.pointer (some ⟨a, 0, none⟩)) := hv
  have HV := hide (show v ∉ [b] from fun hm => sf_not_ptr h hv (mem_own.2 (.inr (by simp at hm; rw [hm]))))
  have hc0 := h.c0
  have hx2 := hx
  clear h
  unfold ptr at HC HCo hv ⊢
  by_cases h1 : st L x = 0
  · rw [h1] at HC
    rw [show isNew L x = true by simp [isNew, h1], show addL ar L x = ins x (come ar) L by simp [addL, h1]]
    go_enter Try.func33, Try.ntmps33
    go_wp2_with fail
    refine HC.out.mono ?_
    rintro e w1 ⟨rfl, hw⟩
    rw [hw]
    clear hw w1
    go_wp2_with fail
    go_region_held3 (fun w' => w'.cell? ⟨v, 0, none⟩ = some (.pointer (some ⟨a, 0, none⟩)) ∧ w'.cell? ⟨a, 0, none⟩ = some (.map (some b))) (go_keep)
      (first
        | (go_at_call 34; refine (HCo.out w.drew rfl).mono ?_; rintro e w1 ⟨rfl, hw⟩; obtain ⟨w2, hrun, hs2, ht2⟩ := add_store HS.out hx2 (come_ok ar) h1 hf w1 (by rw [hw]; rfl) (by rw [hw]; exact (Turned.refl [] w).drew); have hcw := hw ▸ hcd; have hvw := hw ▸ hvd; have hc2 := hs2.c0; have hv2 := (ht2.cell (p := ⟨v, 0, none⟩) (block_lt hv) HV.out).trans hv; have HS2 := hide hs2; have HT2 := hide ht2; clear hw hs2 ht2))
    go_wp2_with fail
    go_ret
    exact ⟨rfl, HS2.out, HT2.out⟩
  · have b1 : (st L x == 0) = false := by simp [h1]
    rw [show isNew L x = false by simp [isNew, h1], show addL ar L x = L by simp [addL, h1]]
    generalize st L x = t at *
    go_enter Try.func33, Try.ntmps33
    go_wp2_with fail
    refine HC.out.mono ?_
    rintro e w1 ⟨rfl, hw⟩
    rw [hw]
    clear hw w1
    go_wp2_with fail
    go_ret
    exact ⟨rfl, HS.out, Turned.refl _ _⟩

theorem end1_any (w : World) (a v : Nat) (mo : Option Nat) (L : Th) (ar : Bool) (x : Int) (h : Sf w a mo L ar) (hv : w.cell? ⟨v, 0, none⟩ = some (ptr a)) (hx : In64 x) :
    Calls Try.prog 35 #[.int .i64 x, ptr v] w fun e w' => e = .returned (.bool (isOld L x)) ∧ Sf w' a mo (del x L) ar ∧ Turned mo.toList w w' := by
  have HS := hide h
  have HC := hide (state_any w a _ L ar x h hx)
  have hc0 := h.c0
  clear h
  unfold ptr at HC hv ⊢
  by_cases h1 : st L x = 0
  · rw [h1] at HC
    rw [show isOld L x = false by simp [isOld, h1], show del x L = L from List.filter_eq_self.2 (fun p hp => by have := st_zero HS.out.ok h1 p hp; simp [this])]
    go_enter Try.func35, Try.ntmps35
    go_wp2_with fail
    refine HC.out.mono ?_
    rintro e w1 ⟨rfl, hw⟩
    rw [hw]
    clear hw w1
    go_wp2_with fail
    go_ret
    exact ⟨rfl, HS.out, Turned.refl _ _⟩
  · obtain ⟨b, rfl⟩ := sf_some HS.out h1
    have b1 : (st L x == 0) = false := by simp [h1]
    have HM := hide (HS.out.map b rfl)
    rw [show isOld L x = true by simp [isOld, h1]]
    generalize st L x = t at *
    go_enter Try.func35, Try.ntmps35
    go_wp2_with fail
    refine HC.out.mono ?_
    rintro e w1 ⟨rfl, hw⟩
    rw [hw]
    clear hw w1
    go_wp2_with (at_delete; refine wpList_tm_delete _ rfl _ _ rfl b L rfl HM.out HS.out.ok x rfl hx ?_; intro w2 hm2 ht2; have HM2 := hide hm2; have HT2 := hide ht2; clear hm2 ht2)
    go_ret
    exact ⟨rfl, HS.out.store HM2.out HT2.out (HS.out.ok.del x) (Nat.lt_of_le_of_lt (del_length L x) HS.out.few), HT2.out⟩
theorem end1_nil (w : World) (v : Nat) (x : Int) (hv : w.cell? ⟨v, 0, none⟩ = some (.pointer none)) :
    Calls Try.prog 35 #[.int .i64 x, ptr v] w fun e w' => e = .returned (.bool false) ∧ w' = w := by
  have HC := hide (state_nil w x)
  unfold ptr
  go_enter Try.func35, Try.ntmps35
  go_wp2_with fail
  refine HC.out.mono ?_
  rintro e w1 ⟨rfl, hw⟩
  rw [hw]
  clear hw w1
  go_wp2_with fail
  go_ret
  exact ⟨rfl, rfl⟩

/-- count with Add's closure, from an object that has a map. -/
theorem cadd_any (w : World) (a b v : Nat) (L : Th) (ar : Bool) (ao : Option Addr) (len cap : Nat) (l : List Int) (h : Sf w a (some b) L ar) (hv : w.cell? ⟨v, 0, none⟩ = some (ptr a)) (hl : IRd w ao len l) (hf : L.length + len < 17592186044416) :
    Calls Try.prog 32 #[.slice ao len cap, .func (.func 33) #[] #[ptr v]] w fun e w' => e = .returned (.int .i64 ((addR ar L l).2 : Int)) ∧ Sf w' a (some b) (addR ar L l).1 ar ∧ Turned [b] w w' := by
  refine (count_add v ao len cap l isNew (addL ar) (fun k w' M => Sf w' a (some b) M ar ∧ w'.cell? ⟨v, 0, none⟩ = some (ptr a) ∧ IRd w' ao len l ∧ k ≤ len ∧ M.length + (len - k) < 17592186044416 ∧ Turned [b] w w') L w (by omega) ⟨h, hv, hl, Nat.zero_le _, by omega, Turned.refl _ _⟩ (fun k w' M _ hI => hI.2.2.1) ?_).mono ?_
  · rintro k w' M x hk hx ⟨h1, h2, h3, h4, h5, h6⟩
    refine (add1_any w' a b v M ar x h1 h2 (h3.in64 x (List.mem_of_getElem? hx)) (by omega)).mono ?_
    rintro e w2 ⟨rfl, g1, g2⟩
    have hnb : ∀ {g k : Nat}, g ∉ blks a (some b) → g ∉ [b] := fun hg hm => hg (mem_own.2 (.inr (by simp at hm; rw [hm])))
    refine ⟨rfl, g1, ?_, h3.turned g2 (fun g off i y _ hc => hnb (k := 0) (sf_not_int h1 hc)), by omega, ?_, h6.trans g2⟩
    · rw [g2.cell (block_lt h2) (hnb (k := 0) (sf_not_ptr h1 h2))]
      exact h2
    · have := addL_length ar M x
      omega
  · rintro e w' ⟨rfl, h1, _, _, _, _, h6⟩
    exact ⟨rfl, h1, h6⟩

theorem cend_any (w : World) (a v : Nat) (mo : Option Nat) (L : Th) (ar : Bool) (ao : Option Addr) (len cap : Nat) (l : List Int) (h : Sf w a mo L ar) (hv : w.cell? ⟨v, 0, none⟩ = some (ptr a)) (hl : IRd w ao len l) (hf : len < 17592186044416) :
    Calls Try.prog 32 #[.slice ao len cap, .func (.func 35) #[] #[ptr v]] w fun e w' => e = .returned (.int .i64 ((endR L l).2 : Int)) ∧ Sf w' a mo (endR L l).1 ar ∧ Turned mo.toList w w' := by
  refine (count_end v ao len cap l isOld (fun M x => del x M) (fun k w' M => Sf w' a mo M ar ∧ w'.cell? ⟨v, 0, none⟩ = some (ptr a) ∧ IRd w' ao len l ∧ Turned mo.toList w w') L w (by omega) ⟨h, hv, hl, Turned.refl _ _⟩ (fun k w' M _ hI => hI.2.2.1) ?_).mono ?_
  · rintro k w' M x hk hx ⟨h1, h2, h3, h6⟩
    refine (end1_any w' a v mo M ar x h1 h2 (h3.in64 x (List.mem_of_getElem? hx))).mono ?_
    rintro e w2 ⟨rfl, g1, g2⟩
    have hnb : ∀ {g k : Nat}, g ∉ blks a mo → g ∉ mo.toList := fun hg hm => hg (List.mem_cons_of_mem _ hm)
    refine ⟨rfl, g1, ?_, h3.turned g2 (fun g off i y _ hc => hnb (k := 0) (sf_not_int h1 hc)), h6.trans g2⟩
    rw [g2.cell (block_lt h2) (hnb (k := 0) (sf_not_ptr h1 h2))]
    exact h2
  · rintro e w' ⟨rfl, h1, _, _, h6⟩
    exact ⟨rfl, h1, h6⟩

theorem end_any (w : World) (a : Nat) (mo : Option Nat) (L : Th) (ar : Bool) (ao : Option Addr) (len cap : Nat) (l : List Int) (h : Sf w a mo L ar) (hl : IRd w ao len l) (hf : len < 17592186044416) :
    Calls Try.prog 13 #[ptr a, .slice ao len cap] w fun e w' => e = .returned (.int .i64 ((endR L l).2 : Int)) ∧ Sf w' a mo (endR L l).1 ar ∧ Turned (blks a mo) w w' := by
  have ht0 := (Turned.refl [] w).alloc (.cells #[ptr a] 24)
  have HC := hide (cend_any (w.alloc (.cells #[ptr a] 24)) a w.heap.size mo L ar ao len cap l (h.turned ht0 (by simp) (by simp)) (by rw [cell_of_heap (heap_alloc_new _ _)]; rfl) (hl.turned ht0 (by simp)) hf)
  have HT := hide ht0
  clear h hl ht0
  unfold ptr at HC HT ⊢
  go_enter Try.func13, Try.ntmps13
  go_wp2_with fail
  refine HC.out.mono ?_
  rintro e w1 ⟨rfl, h1, t1⟩
  have HS1 := hide h1
  have HT1 := hide t1
  clear h1 t1
  go_wp2_with fail
  go_ret
  exact ⟨rfl, HS1.out, (HT.out.mono (by simp)).trans (HT1.out.mono (fun k hk => List.mem_cons_of_mem _ hk))⟩

theorem add_some (w : World) (a b : Nat) (L : Th) (ar : Bool) (ao : Option Addr) (len cap : Nat) (l : List Int) (h : Sf w a (some b) L ar) (hl : IRd w ao len l) (hf : L.length + len < 17592186044416) :
    Calls Try.prog 11 #[ptr a, .slice ao len cap] w fun e w' => e = .returned (.int .i64 ((addR ar L l).2 : Int)) ∧ Sf w' a (some b) (addR ar L l).1 ar ∧ Turned (blks a (some b)) w w' := by
  have ht0 := (Turned.refl [] w).alloc (.cells #[ptr a] 24)
  have h0 := h.turned ht0 (by simp) (by simp)
  have HC := hide (cadd_any (w.alloc (.cells #[ptr a] 24)) a b w.heap.size L ar ao len cap l h0 (by rw [cell_of_heap (heap_alloc_new _ _)]; rfl) (hl.turned ht0 (by simp)) hf)
  have HT := hide ht0
  have hc0 := h0.c0
  have qm : ∀ (w : World) (r : Option Nat), (binOp .eql 46 (.map r) (.map none)).run Try.prog w = .ok (.bool r.isNone) w := fun w r => run_eql_map_nil w _ _ _ r Try.underlying46
  clear h hl ht0 h0
  unfold ptr at HC HT hc0 ⊢
  go_enter Try.func11, Try.ntmps11
  go_wp2_with fail
  refine HC.out.mono ?_
  rintro e w1 ⟨rfl, h1, t1⟩
  have HS1 := hide h1
  have HT1 := hide t1
  clear h1 t1
  go_wp2_with fail
  go_ret
  exact ⟨rfl, HS1.out, (HT.out.mono (by simp)).trans (HT1.out.mono (fun k hk => by simp at hk; exact mem_own.2 (.inr (by rw [hk]))))⟩
theorem add_none (w : World) (a : Nat) (L : Th) (ar : Bool) (ao : Option Addr) (len cap : Nat) (l : List Int) (h : Sf w a none L ar) (hl : IRd w ao len l) (hf : L.length + len < 17592186044416) :
    Calls Try.prog 11 #[ptr a, .slice ao len cap] w fun e w' => e = .returned (.int .i64 ((addR ar L l).2 : Int)) ∧ Sf w' a (some (w.heap.size + 1)) (addR ar L l).1 ar ∧ Turned [a] w w' := by
  have hmm := @run_makeMap Try.prog
  have qm : ∀ (w : World) (r : Option Nat), (binOp .eql 46 (.map r) (.map none)).run Try.prog w = .ok (.bool r.isNone) w := fun w r => run_eql_map_nil w _ _ _ r Try.underlying46
  have hL := h.emp rfl
  have hla := h.lt
  have ht0 := (Turned.refl [] w).alloc (.cells #[ptr a] 24)
  have h0 := h.turned ht0 (by simp) (by simp)
  have hc0 := h0.c0
  have ht1 := ht0.alloc (.map #[] 0)
  have h1 := h.turned ht1 (by simp) (by simp)
  have hf1 := h1.fr 0
  have hc1 := h1.c0
  have hxs : (w.setCell ⟨a, 0, none⟩ (.map (some (w.heap.size + 1)))).heap.size = w.heap.size := by simp [World.setCell]
  have ht2 : Turned [a] w (((w.setCell ⟨a, 0, none⟩ (.map (some (w.heap.size + 1)))).alloc (.cells #[ptr a] 24)).alloc (.map #[] 0)) := (((Turned.refl [a] w).setCell (p := ⟨a, 0, none⟩) (by simp) _).alloc _).alloc _
  have hb2 : ((w.setCell ⟨a, 0, none⟩ (.map (some (w.heap.size + 1)))).alloc (.cells #[ptr a] 24)).heap[w.heap.size]? = some (.cells #[ptr a] 24) := by
    have e := heap_alloc_new (w.setCell ⟨a, 0, none⟩ (.map (some (w.heap.size + 1)))) (.cells #[ptr a] 24)
    rwa [hxs] at e
  have hv2 : (((w.setCell ⟨a, 0, none⟩ (.map (some (w.heap.size + 1)))).alloc (.cells #[ptr a] 24)).alloc (.map #[] 0)).cell? ⟨w.heap.size, 0, none⟩ = some (ptr a) := by
    have e : (((w.setCell ⟨a, 0, none⟩ (.map (some (w.heap.size + 1)))).alloc (.cells #[ptr a] 24)).alloc (.map #[] 0)).heap[w.heap.size]? = some (.cells #[ptr a] 24) := by
      rw [Below.heap_alloc _ _ _ (lt_of_heap hb2)]
      exact hb2
    rw [cell_of_heap e]
    rfl
  have h2 : Sf (((w.setCell ⟨a, 0, none⟩ (.map (some (w.heap.size + 1)))).alloc (.cells #[ptr a] 24)).alloc (.map #[] 0)) a (some (w.heap.size + 1)) L ar := by
    refine ⟨?_, h.ok, h.few, fun b hb => ?_, fun e => by cases e⟩
    · rw [Below.heap_alloc _ _ _ (by simp [hxs]; omega), Below.heap_alloc _ _ _ (by rw [hxs]; exact hla), heap_setCell_at w a 0 _ _ _ h.obj]
      rfl
    · cases hb
      rw [hL]
      have hm := tm_made ((w.setCell ⟨a, 0, none⟩ (.map (some (w.heap.size + 1)))).alloc (.cells #[ptr a] 24))
      rw [show ((w.setCell ⟨a, 0, none⟩ (.map (some (w.heap.size + 1)))).alloc (.cells #[ptr a] 24)).heap.size = w.heap.size + 1 by simp [hxs]] at hm
      exact hm
  have HC := hide (cadd_any _ a (w.heap.size + 1) w.heap.size L ar ao len cap l h2 hv2 (hl.turned ht2 (fun g off i x _ hc hm => sf_not_int h hc (by simp at hm; exact mem_own.2 (.inl hm)))) hf)
  have HT := hide ht2
  clear h hl ht0 h0 ht1 h1 ht2 h2 hL hv2 hb2 hxs
  unfold ptr at HC HT hc0 hf1 hc1 ⊢
  go_enter Try.func11, Try.ntmps11
  go_wp2_with fail
  refine HC.out.mono ?_
  rintro e w1 ⟨rfl, h1, t1⟩
  have HS1 := hide h1
  have HT1 := hide t1
  clear h1 t1
  go_wp2_with fail
  go_ret
  exact ⟨rfl, HS1.out, HT.out.trans_new HT1.out (fun k hk => by simp at hk; right; omega)⟩
theorem add_nil (w : World) (s : Value) : Calls Try.prog 11 #[.pointer none, s] w fun e w' => e = .returned (.int .i64 0) ∧ Turned [] w w' := by
  have HT := hide ((Turned.refl [] w).alloc (.cells #[.pointer none] 24))
  go_enter Try.func11, Try.ntmps11
  go_wp2_with fail
  go_ret
  exact ⟨rfl, HT.out⟩
end Go.Proofs.Ytclfeafmlngpnaa

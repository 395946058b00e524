/-
  those: the threads in states of which a closure holds, rising: whatever the order in which the map tells them. (Text by SafeThose.gen.py.)
-/
import Derived.Test.YtclfeafmlngpnaaSafeAdd
import Derived.Test.YtclfeafmlngpnaaSafeSort
import Derived.Sort.OwnSortedInts
import Derived.Laws.IdiomRangeMap
namespace Go.Proofs.Ytclfeafmlngpnaa
open Go.RowKit Go.Maps
set_option linter.unusedVariables false

/-- A row of numbers of the call's own. -/
def Row (w : World) (B : Nat) (v : Value) (l : List Int) : Prop := w.ownsRow B 3 1 v l.length (l.map (Value.int .i64))
theorem Row.keep {w w' : World} {B : Nat} {v : Value} {l : List Int} (h : Row w B v l) {S : List Nat} (ht : Turned S w w') (hS : ∀ k, v.ownBlock = some k → k ∉ S) : Row w' B v l :=
  ownsRow_keep h (fun k hk => ht.block k (ownsRow_lt h k hk).2.1 (hS k hk))
theorem Row.mono {w : World} {B B' : Nat} {v : Value} {l : List Int} (h : Row w B v l) (hB : B' ≤ B) : Row w B' v l := ownsRow_mono h hB

/-- Sorted. -/
theorem sort_any (w : World) (B : Nat) (v : Value) (ss : List Int) (h : Row w B v ss) (hl : ss.length < 17592186044416) :
    Calls Try.prog 40 #[v] w fun e w' => e = .returned (.tuple #[]) ∧ Row w' B v (ss.mergeSort fun x y => decide (x ≤ y)) ∧ w.grownBy w' v.ownBlock := by
  rcases h.2 with ⟨hv, hn⟩ | ⟨g, cap, cur, hv, hg, hb, h1, h2, h3, h4⟩
  · subst hv
    obtain rfl : ss = [] := List.eq_nil_of_length_eq_zero hn
    refine (Try.slices_Sort_int_none none 0 w).mono ?_
    rintro e w' ⟨rfl, rfl⟩
    exact ⟨rfl, (by simpa using h), ⟨rfl, rfl, rfl, Nat.le_refl _, fun _ _ _ => rfl⟩⟩
  · subst hv
    refine (Try.slices_Sort_int g 0 cap ss w (holds_of_blockI hb (by simpa using h4)) (lt_of_heap hb) (by omega)).mono ?_
    rintro e w' ⟨rfl, n, os, rfl⟩
    refine ⟨rfl, ?_, grownBy_sortedI _⟩
    have h5 := ownsRow_sortedI (n := n) (os := os) (ss := ss) (ts := ss.mergeSort fun x y => decide (x ≤ y)) (by simp) hg hb h1 h2 h3
    unfold Row
    rw [show (ss.mergeSort fun x y => decide (x ≤ y)).length = ss.length by simp]
    exact h5

/-- What was gathered so far: no thread twice; each is one of those, and no longer to come. -/
structure Gat (L : Th) (q : Int → Bool) (left : Lit → Bool) (ss : List Int) : Prop where
  nd : ss.Nodup
  mem : ∀ x, x ∈ ss ↔ (x ∈ those q L ∧ left (.int .i64 x) = false)
theorem Gat.start {L : Th} (hL : Ok L) {D : DataW Unit} (hD : DL D L) (q : Int → Bool) : Gat L q (has D) [] := by
  refine ⟨List.nodup_nil, fun x => ⟨fun h => (by cases h), fun h => ?_⟩⟩
  have h1 := (hD x).1
  rw [h.2] at h1
  exact absurd ((mem_those hL).1 h.1).1 (by simpa using h1)
theorem DL.at {D : DataW Unit} {L : Th} (hD : DL D L) {x c : Int} (hat : ∀ zd, D.atKey (.int .i64 x) zd = .lit (.int .i64 c)) : st L x ≠ 0 ∧ c = st L x := by
  have h1 := has_true_of_atKey hat
  rw [(hD x).1] at h1
  have h2 : st L x ≠ 0 := of_decide_eq_true h1
  have h3 := hat (.lit (.int .i64 0))
  rw [(hD x).2 h2] at h3
  injection h3 with h3
  injection h3 with _ h3
  exact ⟨h2, h3.symm⟩
theorem Gat.yes {L : Th} (hL : Ok L) {q : Int → Bool} {left : Lit → Bool} {ss : List Int} (h : Gat L q left ss) {x : Int} (hl : left (.int .i64 x) = true) (hx : st L x ≠ 0) (hq : q (st L x) = true) : Gat L q (fun z => left z && !z.sameKey (.int .i64 x)) (ss ++ [x]) := by
  have hnew : x ∉ ss := fun hm => by have := ((h.mem x).1 hm).2; rw [hl] at this; cases this
  refine ⟨List.nodup_append.2 ⟨h.nd, by simp, fun a ha b hb => by simp at hb; subst hb; exact fun e => hnew (e ▸ ha)⟩, fun y => ?_⟩
  by_cases hy : y = x
  · subst hy
    simp [Lit.sameKey]
    exact (mem_those hL).2 ⟨hx, hq⟩
  · simp [h.mem y, hy, Lit.sameKey]
theorem Gat.no {L : Th} (hL : Ok L) {q : Int → Bool} {left : Lit → Bool} {ss : List Int} (h : Gat L q left ss) {x : Int} (hq : q (st L x) = false) : Gat L q (fun z => left z && !z.sameKey (.int .i64 x)) ss := by
  refine ⟨h.nd, fun y => ?_⟩
  by_cases hy : y = x
  · subst hy
    constructor
    · intro hm
      have h1 := ((mem_those hL).1 ((h.mem y).1 hm).1).2
      rw [hq] at h1
      cases h1
    · intro hm
      have h1 := ((mem_those hL).1 hm.1).2
      rw [hq] at h1
      cases h1
  · simp [h.mem y, hy, Lit.sameKey]
theorem Gat.all {L : Th} (hL : Ok L) {q : Int → Bool} {left : Lit → Bool} {ss : List Int} (h : Gat L q left ss) (hl : ∀ kl, left kl = false) : (ss.mergeSort fun x y => decide (x ≤ y)) = those q L :=
  sort_those hL h.nd (fun x => by rw [h.mem x]; simp [hl])
theorem cell_one_new (w : World) (x : Value) (t : TypeId) : ∀ j u, [x][j]? = some u → (w.alloc (.cells #[x] t)).cell? ((⟨w.heap.size, 0, none⟩ : Addr).add j) = some u := by
  intro j u hu
  have hj : j = 0 := by
    rcases Nat.eq_zero_or_pos j with h | h
    · exact h
    · rw [List.getElem?_eq_none (by simp; omega)] at hu
      cases hu
  subst hj
  simp at hu
  subst hu
  rw [show (⟨w.heap.size, 0, none⟩ : Addr).add 0 = ⟨w.heap.size, 0, none⟩ from rfl, cell_of_heap (heap_alloc_new _ _)]
  rfl

theorem those_all_none (w : World) (a : Nat) (L : Th) (ar : Bool) (h : Sf w a none L ar) :
    Calls Try.prog 37 #[ptr a, .func (.func 38) #[] #[]] w fun e w' => e = .returned (.slice none 0 0) ∧ Turned [] w w' := by
  have hc0 := h.c0
  have HT := hide ((Turned.refl [] w).alloc (.mapIter none 0 #[] 0))
  have hrg := run_range_nilMap (P := Try.prog) w 46 3 3 Try.underlying46
  have hnx : ∀ ty, (Instr.next (.pointer (some ⟨w.heap.size, 0, none⟩)) false ty).run Try.prog (w.alloc (.mapIter none 0 #[] 0)) = _ := fun ty => run_next_nilMap w ty 0 0 #[]
  have HSo := hide (Try.slices_Sort_int_none none 0 (w.alloc (.mapIter none 0 #[] 0)))
  clear h
  unfold ptr
  go_enter Try.func37, Try.ntmps37
  go_wp2_with fail
  refine wp_loop_rounds 1 ?_
  rw [rounds_succ]
  go_wp2_with fail
  refine HSo.out.mono ?_
  rintro e w1 ⟨rfl, hw⟩
  rw [hw]
  clear hw w1
  go_wp2_with fail
  go_ret
  exact ⟨rfl, HT.out⟩

set_option maxRecDepth 100000 in
theorem those_all_some (w : World) (a b : Nat) (L : Th) (ar : Bool) (q : Int → Bool) (h : Sf w a (some b) L ar)
    (hq : ∀ w' s, Turned [] w w' → 1 ≤ s ∧ s ≤ 3 → Calls Try.prog 38 #[.int .i64 s] w' fun e w2 => e = .returned (.bool (q s)) ∧ w2 = w') :
    Calls Try.prog 37 #[ptr a, .func (.func 38) #[] #[]] w fun e w' => ∃ v, e = .returned v ∧ Row w' w.heap.size v (those q L) ∧ Turned [] w w' := by
  have hc0 := h.c0
  have HS := hide h
  have HQ := hide hq
  obtain ⟨D, hown, hD⟩ := h.map b rfl
  have HD := hide hD
  have HSz := hide (DL.size hown hD h.ok)
  have hfew := h.few
  obtain ⟨i0, hi, hi0⟩ := Option.map_eq_some_iff.1 (show (Try.prog.info? 3).map (fun i => (i.zero, i.size, i.bytes)) = some (some (.int .i64 0), 1, 8) by kernel_rfl)
  simp only [Prod.mk.injEq] at hi0
  obtain ⟨hz0, hz1, hz2⟩ := hi0
  have HO := hide hown
  obtain ⟨n, hn⟩ : ∃ n, n = L.length := ⟨_, rfl⟩
  rw [← hn] at HO HSz hfew hown
  clear h hq hD hn
  unfold ptr
  go_enter Try.func37, Try.ntmps37
  go_wp2_with (at_range; refine wpList_range_own _ rfl _ 46 rfl 3 3 law3 Try.underlying46 _ b n D rfl hown ?_; intro w0 hrg0 hg0 hs0)
  go_frame
  clear hown
  have HT0 := hide ((Turned.refl [] w).grown hg0 (by simp))
  have HG0 := hide (Gat.start HS.out.ok HD.out q)
  have HR0 := hide hrg0
  have hlo : w.heap.size ≤ w.heap.size := Nat.le_refl _
  have HSiz : Hid (Maps.size D = n) := HSz
  clear hg0 hs0
  obtain ⟨r, hr⟩ : ∃ r, r = w.heap.size := ⟨_, rfl⟩
  rw [← hr] at HR0 hrg0 ⊢
  have hrlo : w.heap.size ≤ r := by omega
  clear hrg0 hlo hr
  go_loopw [5] (fun s5 wr => ∃ (left : Lit → Bool) (cnt : Nat) (ss : List Int), Hid (wr.ranges Try.prog 3 (plainElem Try.prog 3) b r n D left cnt) ∧ Hid (Row wr w.heap.size s5 ss) ∧ Hid (Gat L q left ss) ∧ Hid (Turned [] w wr) ∧ Hid (ss.length + cnt ≤ n)) (fun _ wr => wr.rangeLeft b r)
  case atStart => exact ⟨_, _, [], HR0, World.ownsRow_nil _ _ _ _, HG0, HT0, by show _ ≤ _; rw [HSiz.out]; simp⟩
  case round =>
    obtain ⟨left, cnt, ss, HR, HRow, HG, HTr, HC⟩ := hrel
    go_wp2_with (at_next; refine wpList_next_ranges_ii _ rfl _ rfl 3 3 .i64 .i64 law3 Try.underlying3 Try.underlying3 b r n _ _ _ rfl HR.out ?_ ?_)
    · intro _ hl0
      have HSo := hide (sort_any wr _ _ ss HRow.out (by have := HC.out; omega))
      have HE := hide (HG.out.all HS.out.ok hl0)
      clear hl0
      go_wp2_with fail
      refine HSo.out.mono ?_
      rintro e w1 ⟨rfl, hr1, hg1⟩
      have HR1 := hide hr1
      have HT1 := hide (HTr.out.grown hg1 (fun k hk => .inr (ownsRow_lt HRow.out k hk).1))
      clear hr1 hg1
      go_wp2_with fail
      go_ret
      exact ⟨_, rfl, by rw [← HE.out]; exact HR1.out, HT1.out⟩
    · intro x c w1 cnt1 hwx hwc hlx hat hrg1 hlt hg1 hs1 hen
      obtain ⟨hx0, rfl⟩ := HD.out.at hat
      have h3 := st_range HS.out.ok x
      have HT1 := hide (HTr.out.grown hg1 (fun k hk => by cases hk; right; omega))
      have HRow1 := hide (ownsRow_keep HRow.out (fun k hk => hg1.block k (ownsRow_lt HRow.out k hk).2.1 (fun e => by have := row_ne_iter HRow.out HR.out; rw [hk] at this; exact this e.symm)))
      have HR1 := hide hrg1
      have HQ1 := hide (HQ.out w1 (st L x) HT1.out (by omega))
      have HLt := hide hlt
      have HMs := hide (show cnt1 < wr.rangeLeft b r by rw [HR.out.left_eq]; exact hlt)
      have HN := hide hx0
      cases hqx : q (st L x)
      · rw [hqx] at HQ1
        have HG1 := hide (HG.out.no HS.out.ok hqx)
        clear hat hrg1 hg1 hs1 hlt hx0 hqx HR HTr HRow
        generalize st L x = s at *
        go_wp2_with fail
        refine HQ1.out.mono ?_
        rintro e w2 ⟨rfl, hw⟩
        rw [hw]
        clear hw w2
        go_wp2_with fail
        go_roundw
        case rel => exact ⟨_, cnt1, ss, HR1, HRow1, HG1, HT1, by show _ ≤ _; have := HC.out; have := HLt.out; omega⟩
        case measure => rw [HR1.out.left_eq]; exact HMs.out
      · rw [hqx] at HQ1
        have HG1 := hide (HG.out.yes HS.out.ok hlx hx0 hqx)
        clear hat hrg1 hg1 hs1 hlt hx0 hqx HR HTr HRow
        generalize st L x = s at *
        go_wp2_with fail
        refine HQ1.out.mono ?_
        rintro e w2 ⟨rfl, hw⟩
        rw [hw]
        clear hw w2
        have HB := hide (show ss.length + 1 ≤ n by have := HC.out; have := HLt.out; omega)
        have hsz := HT1.out.size
        have HRa := hide (HRow1.out.alloc (.cells #[.int .i64 x] 3))
        go_wp2_with (at_builtin; refine wpList_append_own _ rfl _ _ 27 rfl w.heap.size 3 i0 (.int .i64 0) 1 8 Try.underlying27 hi hz0 hz1 hz2 rfl (by decide) _ _ _ rfl HRa.out ⟨w1.heap.size, 0, none⟩ 1 1 [.int .i64 x] rfl rfl (cell_one_new _ _ _) (fun u hu => by simp at hu; subst hu; rfl) (by have := HB.out; unfold maxLen; omega) (by have := HB.out; omega) (by simp; omega) ?_; intro v' w3 hown3 hg3 hnil3)
        have HT3 := hide ((HT1.out.alloc (.cells #[.int .i64 x] 3)).grown hg3 (fun k hk => .inr (ownsRow_lt HRow1.out k hk).1))
        have HR3 := hide ((HR1.out.alloc (.cells #[.int .i64 x] 3)).kept hg3 (fun e => by obtain ⟨c, hc⟩ := (ownsRow_lt HRow1.out b e.symm).2.2; obtain ⟨es, clock, hm⟩ := HR1.out.owns; rw [hm.1] at hc; cases hc) (row_ne_iter HRow1.out HR1.out))
        have HRow3 : Hid (Row w3 w.heap.size v' (ss ++ [x])) := by
          show Row _ _ _ _
          unfold Row
          rw [List.length_append, List.map_append]
          exact hown3
        clear hown3 hg3 hnil3
        go_roundw
        case rel => exact ⟨_, cnt1, ss ++ [x], HR3, HRow3, HG1, HT3, by show _ ≤ _; have := HC.out; have := HLt.out; simp; omega⟩
        case measure => rw [HR3.out.left_eq]; exact HMs.out

theorem those_asked_none (w : World) (a : Nat) (L : Th) (ar : Bool) (h : Sf w a none L ar) (B : Nat) :
    Calls Try.prog 37 #[ptr a, .func (.func 39) #[] #[ptr B]] w fun e w' => e = .returned (.slice none 0 0) ∧ Turned [] w w' := by
  have hc0 := h.c0
  have HT := hide ((Turned.refl [] w).alloc (.mapIter none 0 #[] 0))
  have hrg := run_range_nilMap (P := Try.prog) w 46 3 3 Try.underlying46
  have hnx : ∀ ty, (Instr.next (.pointer (some ⟨w.heap.size, 0, none⟩)) false ty).run Try.prog (w.alloc (.mapIter none 0 #[] 0)) = _ := fun ty => run_next_nilMap w ty 0 0 #[]
  have HSo := hide (Try.slices_Sort_int_none none 0 (w.alloc (.mapIter none 0 #[] 0)))
  clear h
  unfold ptr
  go_enter Try.func37, Try.ntmps37
  go_wp2_with fail
  refine wp_loop_rounds 1 ?_
  rw [rounds_succ]
  go_wp2_with fail
  refine HSo.out.mono ?_
  rintro e w1 ⟨rfl, hw⟩
  rw [hw]
  clear hw w1
  go_wp2_with fail
  go_ret
  exact ⟨rfl, HT.out⟩

set_option maxRecDepth 100000 in
theorem those_asked_some (w : World) (a b : Nat) (L : Th) (ar : Bool) (q : Int → Bool) (B : Nat) (h : Sf w a (some b) L ar)
    (hq : ∀ w' s, Turned [] w w' → 1 ≤ s ∧ s ≤ 3 → Calls Try.prog 39 #[.int .i64 s, ptr B] w' fun e w2 => e = .returned (.bool (q s)) ∧ w2 = w') :
    Calls Try.prog 37 #[ptr a, .func (.func 39) #[] #[ptr B]] w fun e w' => ∃ v, e = .returned v ∧ Row w' w.heap.size v (those q L) ∧ Turned [] w w' := by
  have hc0 := h.c0
  have HS := hide h
  have HQ := hide hq
  obtain ⟨D, hown, hD⟩ := h.map b rfl
  have HD := hide hD
  have HSz := hide (DL.size hown hD h.ok)
  have hfew := h.few
  obtain ⟨i0, hi, hi0⟩ := Option.map_eq_some_iff.1 (show (Try.prog.info? 3).map (fun i => (i.zero, i.size, i.bytes)) = some (some (.int .i64 0), 1, 8) by kernel_rfl)
  simp only [Prod.mk.injEq] at hi0
  obtain ⟨hz0, hz1, hz2⟩ := hi0
  have HO := hide hown
  obtain ⟨n, hn⟩ : ∃ n, n = L.length := ⟨_, rfl⟩
  rw [← hn] at HO HSz hfew hown
  clear h hq hD hn
  unfold ptr
  go_enter Try.func37, Try.ntmps37
  go_wp2_with (at_range; refine wpList_range_own _ rfl _ 46 rfl 3 3 law3 Try.underlying46 _ b n D rfl hown ?_; intro w0 hrg0 hg0 hs0)
  go_frame
  clear hown
  have HT0 := hide ((Turned.refl [] w).grown hg0 (by simp))
  have HG0 := hide (Gat.start HS.out.ok HD.out q)
  have HR0 := hide hrg0
  have hlo : w.heap.size ≤ w.heap.size := Nat.le_refl _
  have HSiz : Hid (Maps.size D = n) := HSz
  clear hg0 hs0
  obtain ⟨r, hr⟩ : ∃ r, r = w.heap.size := ⟨_, rfl⟩
  rw [← hr] at HR0 hrg0 ⊢
  have hrlo : w.heap.size ≤ r := by omega
  clear hrg0 hlo hr
  go_loopw [5] (fun s5 wr => ∃ (left : Lit → Bool) (cnt : Nat) (ss : List Int), Hid (wr.ranges Try.prog 3 (plainElem Try.prog 3) b r n D left cnt) ∧ Hid (Row wr w.heap.size s5 ss) ∧ Hid (Gat L q left ss) ∧ Hid (Turned [] w wr) ∧ Hid (ss.length + cnt ≤ n)) (fun _ wr => wr.rangeLeft b r)
  case atStart => exact ⟨_, _, [], HR0, World.ownsRow_nil _ _ _ _, HG0, HT0, by show _ ≤ _; rw [HSiz.out]; simp⟩
  case round =>
    obtain ⟨left, cnt, ss, HR, HRow, HG, HTr, HC⟩ := hrel
    go_wp2_with (at_next; refine wpList_next_ranges_ii _ rfl _ rfl 3 3 .i64 .i64 law3 Try.underlying3 Try.underlying3 b r n _ _ _ rfl HR.out ?_ ?_)
    · intro _ hl0
      have HSo := hide (sort_any wr _ _ ss HRow.out (by have := HC.out; omega))
      have HE := hide (HG.out.all HS.out.ok hl0)
      clear hl0
      go_wp2_with fail
      refine HSo.out.mono ?_
      rintro e w1 ⟨rfl, hr1, hg1⟩
      have HR1 := hide hr1
      have HT1 := hide (HTr.out.grown hg1 (fun k hk => .inr (ownsRow_lt HRow.out k hk).1))
      clear hr1 hg1
      go_wp2_with fail
      go_ret
      exact ⟨_, rfl, by rw [← HE.out]; exact HR1.out, HT1.out⟩
    · intro x c w1 cnt1 hwx hwc hlx hat hrg1 hlt hg1 hs1 hen
      obtain ⟨hx0, rfl⟩ := HD.out.at hat
      have h3 := st_range HS.out.ok x
      have HT1 := hide (HTr.out.grown hg1 (fun k hk => by cases hk; right; omega))
      have HRow1 := hide (ownsRow_keep HRow.out (fun k hk => hg1.block k (ownsRow_lt HRow.out k hk).2.1 (fun e => by have := row_ne_iter HRow.out HR.out; rw [hk] at this; exact this e.symm)))
      have HR1 := hide hrg1
      have HQ1 := hide (HQ.out w1 (st L x) HT1.out (by omega))
      have HLt := hide hlt
      have HMs := hide (show cnt1 < wr.rangeLeft b r by rw [HR.out.left_eq]; exact hlt)
      have HN := hide hx0
      cases hqx : q (st L x)
      · rw [hqx] at HQ1
        have HG1 := hide (HG.out.no HS.out.ok hqx)
        clear hat hrg1 hg1 hs1 hlt hx0 hqx HR HTr HRow
        generalize st L x = s at *
        go_wp2_with fail
        refine HQ1.out.mono ?_
        rintro e w2 ⟨rfl, hw⟩
        rw [hw]
        clear hw w2
        go_wp2_with fail
        go_roundw
        case rel => exact ⟨_, cnt1, ss, HR1, HRow1, HG1, HT1, by show _ ≤ _; have := HC.out; have := HLt.out; omega⟩
        case measure => rw [HR1.out.left_eq]; exact HMs.out
      · rw [hqx] at HQ1
        have HG1 := hide (HG.out.yes HS.out.ok hlx hx0 hqx)
        clear hat hrg1 hg1 hs1 hlt hx0 hqx HR HTr HRow
        generalize st L x = s at *
        go_wp2_with fail
        refine HQ1.out.mono ?_
        rintro e w2 ⟨rfl, hw⟩
        rw [hw]
        clear hw w2
        have HB := hide (show ss.length + 1 ≤ n by have := HC.out; have := HLt.out; omega)
        have hsz := HT1.out.size
        have HRa := hide (HRow1.out.alloc (.cells #[.int .i64 x] 3))
        go_wp2_with (at_builtin; refine wpList_append_own _ rfl _ _ 27 rfl w.heap.size 3 i0 (.int .i64 0) 1 8 Try.underlying27 hi hz0 hz1 hz2 rfl (by decide) _ _ _ rfl HRa.out ⟨w1.heap.size, 0, none⟩ 1 1 [.int .i64 x] rfl rfl (cell_one_new _ _ _) (fun u hu => by simp at hu; subst hu; rfl) (by have := HB.out; unfold maxLen; omega) (by have := HB.out; omega) (by simp; omega) ?_; intro v' w3 hown3 hg3 hnil3)
        have HT3 := hide ((HT1.out.alloc (.cells #[.int .i64 x] 3)).grown hg3 (fun k hk => .inr (ownsRow_lt HRow1.out k hk).1))
        have HR3 := hide ((HR1.out.alloc (.cells #[.int .i64 x] 3)).kept hg3 (fun e => by obtain ⟨c, hc⟩ := (ownsRow_lt HRow1.out b e.symm).2.2; obtain ⟨es, clock, hm⟩ := HR1.out.owns; rw [hm.1] at hc; cases hc) (row_ne_iter HRow1.out HR1.out))
        have HRow3 : Hid (Row w3 w.heap.size v' (ss ++ [x])) := by
          show Row _ _ _ _
          unfold Row
          rw [List.length_append, List.map_append]
          exact hown3
        clear hown3 hg3 hnil3
        go_roundw
        case rel => exact ⟨_, cnt1, ss ++ [x], HR3, HRow3, HG1, HT3, by show _ ≤ _; have := HC.out; have := HLt.out; simp; omega⟩
        case measure => rw [HR3.out.left_eq]; exact HMs.out
end Go.Proofs.Ytclfeafmlngpnaa

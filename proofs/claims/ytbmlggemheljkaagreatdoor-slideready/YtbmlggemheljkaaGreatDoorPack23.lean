/-
  Texts of the proof, several in one: SlideSort, SlideReadyP, SlideRs.
-/
import Derived.Test.YtbmlggemheljkaaGreatDoorPack22
import Derived.Test.YtbmlggemheljkaaGreatDoorPack1
import Derived.Sort.OwnSortedInts
import Derived.RangeFuncNested
import Derived.RangeFuncBox
import Derived.RangeFuncLeaves
import Derived.Shelf.Abstract
import Derived.OwnWalkIn
import Derived.TacticsInMore
import Derived.LoopNIn
import Derived.LoopIn
import Derived.Maps.AppendAt
/-
  slices.Values, slices.AppendSeq, slices.Collect, slices.Sorted of the line's numbers; rising, Ready.
-/
namespace Go.Proofs.YtbmlggemheljkaaGreatDoor
open Go.RowKit Go.Shelf Go.Maps
set_option linter.unusedVariables false
attribute [local go_sem] Oper.semAt_some

/-- A slice of numbers that can be read. -/
structure NRd (w : World) (ao : Option Addr) (len : Nat) (l : List Int) : Prop where
  size : l.length = len
  cell : ∀ i x, l[i]? = some x → ∃ g off, ao = some ⟨g, off, none⟩ ∧ w.cell? ⟨g, off + i, none⟩ = some (.int .i64 x)
theorem NRd.turned0 {w w' : World} {ao : Option Addr} {len : Nat} {l : List Int} (h : NRd w ao len l) (ht : Turned [] w w') : NRd w' ao len l :=
  ⟨h.size, fun i x hx => by
    obtain ⟨g, off, h1, h2⟩ := h.cell i x hx
    exact ⟨g, off, h1, by rw [ht.cell (block_lt h2) (by simp)]; exact h2⟩⟩
theorem take_snocR {α : Type} {l : List α} {k : Nat} {x : α} (h : l[k]? = some x) : l.take (k + 1) = l.take k ++ [x] := by
  obtain ⟨h1, h2⟩ := List.getElem?_eq_some_iff.1 h
  rw [List.take_succ_eq_append_getElem h1, h2]
theorem info_partsR {i0 : Option TypeInfo} {z : Option Value} {s b : Nat} (h : i0.map (fun i => (i.zero, i.size, i.bytes)) = some (z, s, b)) : ∃ i, i0 = some i ∧ i.zero = z ∧ i.size = s ∧ i.bytes = b := by
  obtain ⟨i, h1, h2⟩ := Option.map_eq_some_iff.1 h
  simp only [Prod.mk.injEq] at h2
  exact ⟨i, h1, h2.1, h2.2.1, h2.2.2⟩
theorem cell_one_newR (w : World) (x : Value) (t : TypeId) : ∀ j u, [x][j]? = some u → (w.alloc (.cells #[x] t)).cell? ((⟨w.heap.size, 0, none⟩ : Addr).add j) = some u := by
  intro j u hu
  have hj : j = 0 := by
    rcases Nat.eq_zero_or_pos j with h | h
    · exact h
    · rw [List.getElem?_eq_none (by simp; omega)] at hu
      cases hu
  subst hj
  simp at hu
  subst hu
  rw [show (⟨w.heap.size, 0, none⟩ : Addr).add 0 = ⟨w.heap.size, 0, none⟩ from rfl, cell_of_heap (heap_alloc_new _ _)]
  rfl
theorem NRd.below {w w' : World} {ao : Option Addr} {len : Nat} {l : List Int} (h : NRd w ao len l) (hb : Below w.heap.size w w') : NRd w' ao len l := h.turned0 (Turned.of_below hb)

set_option maxRecDepth 100000 in
set_option maxHeartbeats 2000000 in
theorem values1_in (F : Fence) (n : Nat) (hf : F.fn 152) (hro : F.round = none) (hn : 1 ≤ n) (l Bs : Nat) (w0 : World) (ao : Option Addr) (len cap : Nat) (zs : List Int) (hrd : NRd w0 ao len zs) (hlen : len ≤ 1000000) (J Jx : List Int → World → Prop)
    (hY : ∀ pre x W, J pre W → pre.length < len → YieldAt F (n - 1) Tryz.prog l #[.int .i64 x] W fun e W' =>
      (e = .returned (.bool true) ∧ J (pre ++ [x]) W' ∧ Below w0.heap.size W W') ∨ (e = .returned (.bool false) ∧ Jx (pre ++ [x]) W'))
    (W : World) (hW : Below w0.heap.size w0 W) (hBs : W.cell? ⟨Bs, 0, none⟩ = some (.slice ao len cap)) (h0 : J [] W) :
    CallsIn F n Tryz.prog 152 #[.func (.yield l) #[] #[], .pointer (some ⟨Bs, 0, none⟩)] W fun e W' => (∃ v, e = .returned v) ∧
      ((∃ ys, ys = zs ∧ J ys W') ∨ (∃ pre, pre <+: zs ∧ Jx pre W')) := by
  refine callsIn_of_wp Tryz.func152 rfl hf ?_ hro
  simp only [Tryz.ntmps152, List.size_toArray, List.length_cons, List.length_nil, Nat.reduceAdd, Nat.reduceSub, Array.replicate_succ, Array.replicate_zero, List.push_toArray, List.append_toArray, List.nil_append, List.cons_append]
  gi_wp2
  gi_loopw [7] (fun i wr => ∃ k : Nat, k ≤ len ∧ i = .int .i64 k ∧ J (zs.take k) wr ∧ Below w0.heap.size w0 wr)
    (fun i _ => len - (intOf i).toNat)
  case atStart => exact ⟨0, Nat.zero_le _, rfl, h0, hW⟩
  case round =>
    obtain ⟨k, hk, rfl, hJs, hnx⟩ := hrel
    by_cases hlt : k < len
    · obtain ⟨z, hz⟩ : ∃ z, zs[k]? = some z := ⟨_, List.getElem?_eq_getElem (by have := hrd.size; omega)⟩
      obtain ⟨g, off, rfl, hcx⟩ := (hrd.below hnx).cell k z hz
      obtain ⟨fn, tmps, assign, body, hy, hR⟩ := hY _ z wr hJs (by rw [List.length_take]; omega)
      have hs := take_snocR hz
      have hS := hide hs
      clear hs hz
      gi_wp2
      refine hR.mono ?_
      rintro e W3 (⟨rfl, hJ3, hk3⟩ | ⟨rfl, hJx3⟩)
      · gi_wp2
        go_roundw
        case rel => exact ⟨k + 1, by omega, by simp, by rw [hS.out]; exact hJ3, hnx.trans hk3⟩
        case measure => simp [intOf]; omega
      · gi_wp2
        refine bodyPost_ret (results_none rfl _ _ _) rfl ?_
        exact ⟨⟨_, rfl⟩, .inr ⟨_, by rw [← hS.out]; exact List.take_prefix _ _, hJx3⟩⟩
    · have hkl : k = len := by omega
      gi_wp2
      go_end0
      exact ⟨⟨_, rfl⟩, .inl ⟨_, rfl, by have h1 := hrd.size; rw [List.take_of_length_le (by omega)] at hJs; exact hJs⟩⟩

set_option maxHeartbeats 1000000 in
theorem values_in (F : Fence) (n : Nat) (hf : F.fn 149) (hro : F.round = none) (a : Option Addr) (len cap : Nat) (w : World) :
    CallsIn F n Tryz.prog 149 #[.slice a len cap] w fun e w' => e = .returned (.func (.func 152) #[] #[.pointer (some ⟨w.heap.size, 0, none⟩)]) ∧ w' = w.alloc (.cells #[.slice a len cap] 74) := by
  refine callsIn_of_wp Tryz.func149 rfl hf ?_ hro
  simp only [Tryz.ntmps149, List.size_toArray, List.length_cons, List.length_nil, Nat.reduceAdd, Nat.reduceSub, Array.replicate_succ, Array.replicate_zero, List.push_toArray, List.append_toArray, List.nil_append, List.cons_append]
  gi_wp2
  go_ret
  exact ⟨rfl, rfl⟩

theorem values_stops (F : Fence) (n : Nat) (hf : F.fn 152) (hro : F.round = none) (hn : 1 ≤ n) (Bs : Nat) (w0 : World) (ao : Option Addr) (len cap : Nat) (zs : List Int) (hrd : NRd w0 ao len zs) (hlen : len ≤ 1000000) (w : World) (hW : Below w0.heap.size w0 w) (hBs : Bs < w.heap.size)
    (hc : w.cell? ⟨Bs, 0, none⟩ = some (.slice ao len cap)) :
    SeqStopsK F n Tryz.prog 152 #[.pointer (some ⟨Bs, 0, none⟩)] (fun x : Int => #[Value.int .i64 x]) (Below w0.heap.size) (fun ys => ys = zs) (fun pre => pre <+: zs) zs.length w := fun l J Jx W hw _ _ hY h0 => by
  rw [hrd.size] at hY
  exact values1_in F n hf hro hn l Bs w0 ao len cap zs hrd hlen J Jx hY W (hW.trans (hw.mono hW.size)) ((hw.cell (p := ⟨Bs, 0, none⟩) hBs).trans hc) h0

set_option maxRecDepth 100000 in
set_option maxHeartbeats 2000000 in
theorem appendSeq_in (F : Fence) (n : Nat) (hf : F.fn 153) (hf1 : F.fn 152) (hro : F.round = none) (hn : 3 ≤ n) (Bs : Nat) (w0 : World) (ao : Option Addr) (len cap : Nat) (zs : List Int) (hrd : NRd w0 ao len zs) (hlen : len ≤ 1000000) (w : World) (hW : Below w0.heap.size w0 w) (hBs : Bs < w.heap.size)
    (hc : w.cell? ⟨Bs, 0, none⟩ = some (.slice ao len cap)) :
    CallsIn F n Tryz.prog 153 #[.slice none 0 0, .func (.func 152) #[] #[.pointer (some ⟨Bs, 0, none⟩)]] w fun e W' => ∃ v, e = .returned v ∧ W'.ownsRow w.heap.size 3 1 v zs.length (zs.map (Value.int .i64)) ∧ Below w.heap.size w W' := by
  have h1 : 1 ≤ n := by omega
  have hz := hrd.size
  obtain ⟨i0, hi, hz0, hz1, hz2⟩ := info_partsR Tryz.infoInt
  refine callsIn_of_wp_marks Tryz.func153 rfl hf ?_ hro
  simp only [Tryz.ntmps153, List.size_toArray, List.length_cons, List.length_nil, Nat.reduceAdd, Nat.reduceSub, Array.replicate_succ, Array.replicate_zero, List.push_toArray, List.append_toArray, List.nil_append, List.cons_append]
  gi_wp2
  have bO := Boxed.new w 23 (.slice none 0 0)
  have hB0 : Below w.heap.size w (w.alloc (.cells #[.slice none 0 0] 23)) := (Below.refl _ w).alloc (Nat.le_refl _) _
  have hle := hW.size
  refine wpIn_rangeFunc_ownG hro h1 (gf := 152) (lb := #[.pointer (some ⟨Bs, 0, none⟩)]) rfl hf1 (enters_of Tryz.func152 (by kernel_rfl) rfl)
    (values_stops F (n - 1) hf1 hro (by omega) Bs w0 ao len cap zs hrd hlen _ (hW.trans (hB0.mono hW.size)) (by simp; omega) ((hB0.cell (p := ⟨Bs, 0, none⟩) hBs).trans hc)) belowK_t (belowK_b (by simp; omega)) (Below.refl _ _) (fun _ => rfl)
    (fun (pre : List Int) W => (∃ v, Boxed W w.heap.size 23 v ∧ W.ownsRow w.heap.size 3 1 v pre.length (pre.map (Value.int .i64)) ∧ True) ∧ Below w.heap.size w W)
    (fun _ _ _ => False)
    (OwnFrom.and (Own.from (holdsRow_own w.heap.size w.heap.size 23 3 1 (fun pre : List Int => pre.length) (fun pre : List Int => pre.map (Value.int .i64)) (fun pre v => True)) _) (ownFrom_below (Nat.le_refl _) (by simp)))
    (fun _ _ _ _ _ hs _ _ => hs)
    ⟨⟨_, bO, World.ownsRow_nil _ _ _ _, trivial⟩, hB0⟩
    (fun x => { tmps := #[.slice none 0 0, .func (.func 152) #[] #[.pointer (some ⟨Bs, 0, none⟩)], .pointer (some ⟨w.heap.size, 0, none⟩), undef, .slice none 0 0, .int .i64 x, .func (.func 152) #[] #[.pointer (some ⟨Bs, 0, none⟩)], .int .i64 x, undef, undef, undef, undef, undef], defers := [] }) ?assign ?body ?done ?stop
  case assign =>
    intro l x W K hK
    gi_wp2
    exact hK
  case body =>
    rintro l pre x W ⟨⟨v, hv, hrow, _⟩, hB⟩ hlt
    have hc := hv.cell
    gi_wp2_with (gi_at_builtin; refine wpListIn_append_own _ rfl _ _ 23 rfl w.heap.size 3 i0 (.int .i64 0) 1 8 Tryz.underlying23 hi hz0 hz1 hz2 rfl (by decide) _ _ _ rfl (hrow.alloc _) ⟨W.heap.size, 0, none⟩ 1 1 [.int .i64 x] rfl rfl (cell_one_newR _ _ _) (by simp [Value.oneCell']) (by unfold maxLen; omega) (by omega) (by have := hB.size; simp; omega) ?_; intro v' w1 hown' hgrow _; obtain ⟨g', cap', rfl⟩ := ownsRow_succ hown'; obtain ⟨hv1, hv2, hr2, hk2, hb2⟩ := hv.appended (by decide) hrow hB.size (Nat.le_refl _) hown' hgrow; have hc1 := hv1.cell; have hf1 := hv1.frozen)
    exact ⟨hk2.from _, hb2.mono hle, ⟨_, hv2, by simpa using hr2, trivial⟩, hB.trans hb2⟩
  case done =>
    rintro D ys W hD rfl ⟨⟨v, hv, hrow, _⟩, hB⟩ hK
    have hc := hv.cell
    gi_wp2
    refine ⟨by simp, .inl ⟨_, _, rfl, run_takeDeferred hK, ?_⟩⟩
    exact ⟨_, results_tmp rfl _ _ _, v, rfl, ownsRow_putObj hrow _ hK rfl, hB.trans (belowK_b (w := w) (Nat.le_refl _) W D _ _ (by simp at hD; omega) hK rfl rfl)⟩
  case stop =>
    rintro D c pre W _ _ h _
    exact h.elim

/-- A row of numbers of the call's own. -/
def Row (w : World) (B : Nat) (v : Value) (l : List Int) : Prop := w.ownsRow B 3 1 v l.length (l.map (Value.int .i64))
theorem Row.keep {w w' : World} {B : Nat} {v : Value} {l : List Int} (h : Row w B v l) {S : List Nat} (ht : Turned S w w') (hS : ∀ k, v.ownBlock = some k → k ∉ S) : Row w' B v l :=
  ownsRow_keep h (fun k hk => ht.block k (ownsRow_lt h k hk).2.1 (hS k hk))
theorem Row.mono {w : World} {B B' : Nat} {v : Value} {l : List Int} (h : Row w B v l) (hB : B' ≤ B) : Row w B' v l := ownsRow_mono h hB
theorem Row.rd {w : World} {B : Nat} {v : Value} {l : List Int} (h : Row w B v l) : ∃ ao cap, v = .slice ao l.length cap ∧ NRd w ao l.length l := by
  obtain ⟨_, ao, cap, h1, h2⟩ := ownsRow_any h
  refine ⟨ao, cap, h1, rfl, fun i x hx => ?_⟩
  obtain ⟨g, e, _, _, hc, _⟩ := h2 i (.int .i64 x) (by simp [hx])
  exact ⟨g, 0, e, by rw [Nat.zero_add]; exact hc⟩

def srt (l : List Int) : List Int := l.mergeSort fun x y => decide (x ≤ y)
theorem sort_any (w : World) (B : Nat) (v : Value) (ss : List Int) (h : Row w B v ss) (hl : ss.length < 17592186044416) :
    Calls Tryz.prog 151 #[v] w fun e w' => e = .returned (.tuple #[]) ∧ Row w' B v (srt ss) ∧ w.grownBy w' v.ownBlock := by
  rcases h.2 with ⟨hv, hn⟩ | ⟨g, cap, cur, hv, hg, hb, h1, h2, h3, h4⟩
  · subst hv
    obtain rfl : ss = [] := List.eq_nil_of_length_eq_zero hn
    refine (Tryz.slices_Sort_int_none none 0 w).mono ?_
    rintro e w' ⟨rfl, rfl⟩
    exact ⟨rfl, (by simpa [srt] using h), ⟨rfl, rfl, rfl, Nat.le_refl _, fun _ _ _ => rfl⟩⟩
  · subst hv
    refine (Tryz.slices_Sort_int g 0 cap ss w (holds_of_blockI hb (by simpa using h4)) (lt_of_heap hb) (by omega)).mono ?_
    rintro e w' ⟨rfl, n, os, rfl⟩
    refine ⟨rfl, ?_, grownBy_sortedI _⟩
    have h5 := ownsRow_sortedI (n := n) (os := os) (ss := ss) (ts := ss.mergeSort fun x y => decide (x ≤ y)) (by simp) hg hb h1 h2 h3
    unfold Row srt
    rw [show (ss.mergeSort fun x y => decide (x ≤ y)).length = ss.length by simp]
    exact h5

theorem collect_any (Bs : Nat) (w0 : World) (ao : Option Addr) (len cap : Nat) (zs : List Int) (hrd : NRd w0 ao len zs) (hlen : len ≤ 1000000) (w : World) (hW : Below w0.heap.size w0 w) (hBs : Bs < w.heap.size)
    (hc : w.cell? ⟨Bs, 0, none⟩ = some (.slice ao len cap)) :
    Calls Tryz.prog 150 #[.func (.func 152) #[] #[.pointer (some ⟨Bs, 0, none⟩)]] w fun e W' => ∃ v, e = .returned v ∧ Row W' w.heap.size v zs ∧ Turned [] w W' := by
  have HA := hide ((callsIn_wide (n := 3)).1 (appendSeq_in Fence.wide 3 trivial trivial rfl (by omega) Bs w0 ao len cap zs hrd hlen w hW hBs hc))
  clear hrd hW hBs hc
  go_enter Tryz.func150, Tryz.ntmps150
  go_wp2_with fail
  refine HA.out.mono ?_
  rintro e w' ⟨v, rfl, hr, hb⟩
  have HR := hide hr
  have HB := hide hb
  clear hr hb
  go_wp2_with fail
  go_ret
  exact ⟨v, rfl, HR.out, Turned.of_below HB.out⟩

theorem sorted_any (Bs : Nat) (w0 : World) (ao : Option Addr) (len cap : Nat) (zs : List Int) (hrd : NRd w0 ao len zs) (hlen : len ≤ 1000000) (w : World) (hW : Below w0.heap.size w0 w) (hBs : Bs < w.heap.size)
    (hc : w.cell? ⟨Bs, 0, none⟩ = some (.slice ao len cap)) :
    Calls Tryz.prog 148 #[.func (.func 152) #[] #[.pointer (some ⟨Bs, 0, none⟩)]] w fun e W' => ∃ v, e = .returned v ∧ Row W' w.heap.size v (srt zs) ∧ Turned [] w W' := by
  have hz := hrd.size
  have HA := hide (collect_any Bs w0 ao len cap zs hrd hlen w hW hBs hc)
  clear hrd hW hBs hc
  go_enter Tryz.func148, Tryz.ntmps148
  go_wp2_with fail
  refine HA.out.mono ?_
  rintro e w' ⟨v, rfl, hr, hb⟩
  have HS := hide (sort_any w' _ v zs hr (by omega))
  have HO := hide (fun k hk => (ownsRow_lt hr k hk).1)
  have HB := hide hb
  clear hr hb HA
  go_wp2_with fail
  refine HS.out.mono ?_
  rintro e w2 ⟨rfl, hr2, hg2⟩
  have HR := hide hr2
  have HT := hide (HB.out.grown hg2 (fun k hk => .inr (HO.out k hk)))
  clear hr2 hg2
  go_wp2_with fail
  go_ret
  exact ⟨v, rfl, HR.out, HT.out⟩
/-- The line's numbers. -/
def hI (H : List Nat) : List Int := (List.range H.length).map fun i => ((gt0 H i : Nat) : Int)
theorem hI_len (H : List Nat) : (hI H).length = H.length := by simp [hI]
theorem Ln.rd {w : World} {lb B : Nat} {v : Value} {H : List Nat} (h : Ln w lb v B H) : ∃ ao cap, v = .slice ao H.length cap ∧ NRd w ao H.length (hI H) := by
  obtain ⟨ao, cap, hv⟩ := own_opens h.row
  refine ⟨ao, cap, hv, hI_len H, fun i x hx => ?_⟩
  have hi : i < H.length := by have := (List.getElem?_eq_some_iff.1 hx).1; rwa [hI_len] at this
  obtain ⟨q, cap2, hv2, hq⟩ := h.lq (by omega)
  rw [hv] at hv2
  cases hv2
  refine ⟨q, 0, rfl, ?_⟩
  have hx2 : x = ((gt0 H i : Nat) : Int) := by
    unfold hI at hx
    rw [List.getElem?_map, List.getElem?_range hi] at hx
    exact (Option.some.inj hx).symm
  rcases h.row.2 with ⟨_, h0⟩ | ⟨g, cap3, cur, hv3, hg, hh, hc, _, _, ht⟩
  · omega
  · rw [hv] at hv3
    cases hv3
    rw [Nat.zero_add, cell_of_heap hh, hx2]
    have h1 : (rowOf (gt0 H) H.length)[i]? = some (.int .i64 ((gt0 H i : Nat) : Int)) := by unfold rowOf; rw [List.getElem?_map, List.getElem?_range hi]; rfl
    rw [← ht, List.getElem?_take] at h1
    split at h1
    · simpa using h1
    · cases h1
theorem method_rising (lb : Nat) (w : World) : (method 302 73 (.pointer (some ⟨lb, 0, none⟩)) "ballast/slide.rising").run Tryz.prog w = .ok (147, .pointer (some ⟨lb, 0, none⟩)) w := by kernel_rfl
set_option maxRecDepth 100000 in
theorem rising_any (w : World) (lb B : Nat) (v : Value) (H : List Nat) (h : Ln w lb v B H) :
    Calls Tryz.prog 147 #[.pointer (some ⟨lb, 0, none⟩)] w fun e w' => ∃ v', e = .returned v' ∧ Row w' w.heap.size v' (srt (hI H)) ∧ Turned [] w w' := by
  obtain ⟨ao, cap, rfl, hrd⟩ := h.rd
  have hf := h.few
  have c0 : w.cell? ⟨lb, 0, none⟩ = some (.slice ao H.length cap) := by rw [cell_of_heap h.head]; rfl
  have HV := hide ((callsIn_wide (n := 3)).1 (values_in Fence.wide 3 trivial rfl ao H.length cap w))
  have HW := hide (sorted_any w.heap.size w ao H.length cap (hI H) hrd (by omega) (w.alloc (.cells #[.slice ao H.length cap] 74)) ((Below.refl _ w).alloc (Nat.le_refl _) _) (by simp) (Boxed.new w 74 (.slice ao H.length cap)).cell)
  clear h hrd hf
  go_enter Tryz.func147, Tryz.ntmps147
  go_wp2_with fail
  refine HV.out.mono ?_
  rintro e w' ⟨rfl, rfl⟩
  go_wp2_with fail
  refine HW.out.mono ?_
  rintro e w2 ⟨v, rfl, hr, ht⟩
  have HR := hide (hr.mono (B' := w.heap.size) (by simp))
  have HT := hide ((((Turned.refl [] w).alloc (.cells #[.slice ao H.length cap] 74))).trans ht)
  clear hr ht
  go_wp2_with fail
  go_ret
  exact ⟨v, rfl, HR.out, HT.out⟩
/-- Ready. -/
theorem lx_ready {J : LI} {w : World} {u : Nat → Nat} {s : SlS} {v m : Value} {sb xb cp rp N n wq tq : Nat} {P : PN} {S : Nat → Nat} {wv l a : Value} (h : Ls J w u s v m) (e : J.Is sb xb cp rp N n P S wv l a wq tq) (hl : s.left ≠ 0) :
    Calls Tryz.prog 22 #[.pointer (some ⟨sb, 0, none⟩)] w fun e w' => ∃ v', e = .returned v' ∧ Row w' w.heap.size v' (srt (hI s.H)) ∧ Turned [] w w' := by
  have HD := hide (lx_done h e)
  rw [decide_eq_false hl] at HD
  obtain ⟨rfl, rfl, rfl, rfl, rfl, rfl, rfl, rfl, rfl, rfl, rfl, rfl, rfl⟩ := e
  have HR := hide (rising_any w J.I.lb J.I.B v s.H h.sl.ln)
  have c14 := h.sl.cs.2.2.2.2.2.1
  have hm := method_rising J.I.lb w
  clear h hl
  go_enter Tryz.func22, Tryz.ntmps22
  go_wp2_with fail
  refine (HD.out).mono ?_
  rintro e w1 ⟨rfl, hw1⟩
  subst hw1
  clear HD
  go_wp2_with fail
  refine (HR.out).mono ?_
  rintro e w2 ⟨v', rfl, hr, ht⟩
  have HF := hide (And.intro hr ht)
  clear hr ht HR
  go_wp2_with fail
  go_ret
  exact ⟨v', rfl, HF.out⟩
end Go.Proofs.YtbmlggemheljkaaGreatDoor

/-
  Which regions are ready, and who has which, by what was moved. No Go is walked here.
-/
namespace Go.Proofs.YtbmlggemheljkaaGreatDoor
open Go.RowKit Bt
set_option linter.unusedVariables false
set_option linter.unusedSimpArgs false

section
variable {P : PN} {S : Nat → Nat} {n : Nat} {hw0 : List Int} {u : Nat → Nat} {s : SlS} {f : Nat → Nat}
/-- A region is ready. -/
def wantP (P : PN) (u wt : Nat → Nat) (r : Nat) : Bool := decide (u r = 0 ∧ gF P r < gT P r ∧ wt r = 0)
def wantL (P : PN) (u wt : Nat → Nat) (m : Nat) : List Int := ((List.range m).filter (wantP P u wt)).map fun (r : Nat) => (r : Int)
theorem wantL_succ (P : PN) (u wt : Nat → Nat) (m : Nat) : wantL P u wt (m + 1) = wantL P u wt m ++ (if wantP P u wt m = true then [(m : Int)] else []) := by
  unfold wantL
  rw [List.range_succ, List.filter_append, List.map_append]
  by_cases h : wantP P u wt m = true
  · rw [if_pos h]; simp [h]
  · rw [if_neg h]; simp [h]
theorem wantL_mem (P : PN) (u wt : Nat → Nat) (m : Nat) (x : Int) : x ∈ wantL P u wt m ↔ ∃ r, r < m ∧ wantP P u wt r = true ∧ x = (r : Int) := by
  unfold wantL
  simp only [List.mem_map, List.mem_filter, List.mem_range]
  exact ⟨fun ⟨r, ⟨a, b⟩, c⟩ => ⟨r, a, b, c.symm⟩, fun ⟨r, a, b, c⟩ => ⟨r, ⟨a, b⟩, c.symm⟩⟩
theorem wantL_rising (P : PN) (u wt : Nat → Nat) (m : Nat) : (wantL P u wt m).Pairwise (· < ·) := by
  unfold wantL
  refine List.Pairwise.map _ (fun a b h => by show (a : Int) < (b : Int); omega) (List.Pairwise.filter _ List.pairwise_lt_range)
theorem wantL_len (P : PN) (u wt : Nat → Nat) (m : Nat) : (wantL P u wt m).length ≤ m := by
  unfold wantL
  rw [List.length_map]
  have := List.length_filter_le (wantP P u wt) (List.range m)
  rwa [List.length_range] at this
theorem rising_nodup {l : List Int} (h : l.Pairwise (· < ·)) : l.Nodup := h.imp fun {a b} hab e => by omega
theorem hI_mem (H : List Nat) (x : Int) : x ∈ hI H ↔ ∃ r, Has H H.length r ∧ x = (r : Int) := by
  unfold hI
  rw [List.mem_map]
  constructor
  · rintro ⟨i, hi, e⟩
    exact ⟨gt0 H i, ⟨i, List.mem_range.1 hi, rfl⟩, e.symm⟩
  · rintro ⟨r, ⟨i, hi, e⟩, rfl⟩
    exact ⟨i, List.mem_range.2 hi, by rw [e]⟩
theorem hI_nodup {H : List Nat} (h : Inj H) : (hI H).Nodup := by
  unfold hI
  rw [List.nodup_iff_pairwise_ne, List.pairwise_map, List.pairwise_iff_getElem]
  intro i j hi hj hij
  simp only [List.getElem_range]
  intro e
  rw [List.length_range] at hi hj
  have := h i j hi hj (by omega)
  omega
/-- What Ready tells. -/
theorem ready_want (h : SI P S n hw0 u s) : srt (hI s.H) = wantL P u s.wt P.R := by
  have hm : ∀ x, x ∈ hI s.H ↔ x ∈ wantL P u s.wt P.R := fun x => by
    rw [hI_mem, wantL_mem]
    constructor
    · rintro ⟨r, hr, rfl⟩
      obtain ⟨a, b, c, d⟩ := (h.hm r).1 hr
      exact ⟨r, a, by unfold wantP; exact decide_eq_true ⟨b, c, d⟩, rfl⟩
    · rintro ⟨r, a, b, rfl⟩
      unfold wantP at b
      rw [decide_eq_true_eq] at b
      exact ⟨r, (h.hm r).2 ⟨a, b⟩, rfl⟩
  have hp := (List.perm_ext_iff_of_nodup (hI_nodup h.ij) (rising_nodup (wantL_rising P u s.wt P.R))).2 hm
  refine List.Perm.eq_of_pairwise (le := fun a b : Int => a ≤ b) (fun a b _ _ h1 h2 => by omega) ?_ ((wantL_rising P u s.wt P.R).imp fun h => by omega) ((List.mergeSort_perm _ _).trans hp)
  have h := List.pairwise_mergeSort (le := fun x y : Int => decide (x ≤ y)) (fun a b c h1 h2 => by simp at *; omega) (fun a b => by simp; omega) (hI s.H)
  exact h.imp fun h => by simpa using h
/-- The least one stands first. -/
theorem least_want (h : SI P S n hw0 u s) (hH : s.H.length ≠ 0) : (wantL P u s.wt P.R)[0]? = some ((leastV s.H : Nat) : Int) := by
  obtain ⟨p1, p2, -, -, -, -⟩ := pop_heap h.hp h.ij hH
  have e1 : leastV s.H = gt0 (popL s.H) (s.H.length - 1) := by unfold leastV; rw [if_neg hH]
  rw [← e1] at p1 p2
  obtain ⟨a, b, c, d⟩ := (h.hm _).1 p1
  have hmem := (wantL_mem P u s.wt P.R ((leastV s.H : Nat) : Int)).2 ⟨leastV s.H, a, by unfold wantP; exact decide_eq_true ⟨b, c, d⟩, rfl⟩
  have hr := wantL_rising P u s.wt P.R
  generalize hw : wantL P u s.wt P.R = W at *
  cases W with
  | nil => cases hmem
  | cons y l =>
    rcases List.mem_cons.1 hmem with e | e
    · rw [e]; rfl
    · have h1 : y < ((leastV s.H : Nat) : Int) := (List.pairwise_cons.1 hr).1 _ e
      have hy : y ∈ wantL P u s.wt P.R := by rw [hw]; simp
      obtain ⟨r, r1, r2, rfl⟩ := (wantL_mem P u s.wt P.R y).1 hy
      unfold wantP at r2
      rw [decide_eq_true_eq] at r2
      have := p2 r ((h.hm r).2 ⟨r1, r2⟩)
      omega
theorem none_want (h : SI P S n hw0 u s) (hH : s.H.length = 0) : wantL P u s.wt P.R = [] := by
  rw [← ready_want h]
  have : hI s.H = [] := List.eq_nil_of_length_eq_zero (by rw [hI_len]; exact hH)
  rw [this]; simp [srt]
/-- A region is filled, if all words of its goal are stored. -/
theorem filled_iff (h : SI P S n hw0 u s) (hf : Fit P (live S)) {r : Nat} (hr : r < P.R) : (∀ y, gF P r ≤ y → y < gT P r → stored P u y = true) ↔ flU P u r = true := by
  have hub := h.ub r
  unfold flU
  rw [decide_eq_true_eq]
  by_cases hg : gF P r < gT P r
  · have hfu := full_eq hg
    constructor
    · intro hh
      have := hh (gT P r - 1) (by omega) (by omega)
      obtain ⟨g1, g2, g3⟩ := hf.goal_reg (y := gT P r - 1) hr (by omega) (by omega)
      unfold stored at this
      rw [decide_eq_true_eq, g3] at this
      have h3 := this.2.2
      unfold prU at h3
      omega
    · intro hu y h1 h2
      obtain ⟨g1, g2, g3⟩ := hf.goal_reg hr h1 h2
      unfold stored
      rw [decide_eq_true_eq, g3]
      refine ⟨g1, g2, ?_⟩
      unfold prU
      omega
  · rw [full_none hg] at hub ⊢
    exact ⟨fun _ => by omega, fun _ y h1 h2 => by omega⟩

/-- Who has which region, as the law keeps it: f k is the region and one more. -/
structure HasI (P : PN) (n : Nat) (u : Nat → Nat) (s : SlS) (f : Nat → Nat) : Prop where
  on : ∀ (k : Nat) (x : SlW), s.ws[k]? = some x → x.ph ≠ 0 → f k = x.rg + 1
  off : ∀ (k : Nat) (x : SlW), s.ws[k]? = some x → x.ph = 0 → f k = 0 ∨ (f k - 1 < P.R ∧ flU P u (f k - 1) = true)
  out : ∀ k, n ≤ k → f k = 0
/-- What is filled is had no more. -/
def clr15 (P : PN) (u : Nat → Nat) (f : Nat → Nat) (k : Nat) : Nat := if 0 < f k ∧ flU P u (f k - 1) = true then 0 else f k
theorem HasI.clr (hh : HasI P n u s f) (h : SI P S n hw0 u s) (k : Nat) : (∀ x, s.ws[k]? = some x → x.ph ≠ 0 → clr15 P u f k = x.rg + 1) ∧ ((∀ x, s.ws[k]? = some x → x.ph = 0) → clr15 P u f k = 0) := by
  unfold clr15
  constructor
  · intro x hx hp
    have e := hh.on k x hx hp
    have hl := (h.lt_full hx hp).1
    rw [if_neg (fun hc => by
      have h2 := hc.2
      rw [e, Nat.add_sub_cancel] at h2
      unfold flU at h2
      rw [decide_eq_true_eq] at h2
      omega)]
    exact e
  · intro hall
    by_cases hk : k < n
    · obtain ⟨x, hx⟩ : ∃ x, s.ws[k]? = some x := ⟨_, List.getElem?_eq_getElem (by rw [h.wl]; exact hk)⟩
      rcases hh.off k x hx (hall x hx) with e | e
      · rw [e, if_neg (by omega)]
      · by_cases h0 : 0 < f k
        · rw [if_pos ⟨h0, e.2⟩]
        · rw [if_neg (fun hc => h0 hc.1)]; omega
    · rw [hh.out k (by omega), if_neg (by omega)]
/-- Which regions the law wants. -/
theorem want_iff (hh : HasI P n u s f) (h : SI P S n hw0 u s) (hf : Fit P (live S)) (hn : n ≤ 2) {r : Nat} (hr : r < P.R) : (gF P r < gT P r ∧ s.wt r = 0 ∧ flU P u r = false ∧ clr15 P u f 0 ≠ r + 1 ∧ clr15 P u f 1 ≠ r + 1) ↔ wantP P u s.wt r = true := by
  unfold wantP
  rw [decide_eq_true_eq]
  have hub := h.ub r
  constructor
  · rintro ⟨g, w0, fl, c0, c1⟩
    refine ⟨Classical.byContradiction fun hu => ?_, g, w0⟩
    unfold flU at fl
    rw [decide_eq_false_iff_not] at fl
    obtain ⟨k, x, hx, hp, hrg⟩ := h.hd r (by omega) (by omega)
    have hk := (List.getElem?_eq_some_iff.1 hx).1
    rw [h.wl] at hk
    have e := (hh.clr h k).1 x hx hp
    rw [hrg] at e
    rcases (show k = 0 ∨ k = 1 by omega) with rfl | rfl
    · exact c0 e
    · exact c1 e
  · rintro ⟨hu, g, w0⟩
    have hfu := full_eq g
    have key : ∀ k, clr15 P u f k ≠ r + 1 := fun k e => by
      by_cases hall : ∀ x, s.ws[k]? = some x → x.ph = 0
      · have := (hh.clr h k).2 hall
        omega
      · obtain ⟨x, hx⟩ := Classical.not_forall.1 hall
        obtain ⟨hx1, hx2⟩ := Classical.not_imp.1 hx
        have e2 := (hh.clr h k).1 x hx1 hx2
        have h3 := (h.lt_full hx1 hx2).2
        have e4 : x.rg = r := by omega
        rw [e4] at h3
        omega
    exact ⟨g, w0, by unfold flU; rw [decide_eq_false_iff_not]; omega, key 0, key 1⟩
/-- The number of each region's steps follows from the state. -/
theorem SI.uniq {u' : Nat → Nat} (h : SI P S n hw0 u s) (h' : SI P S n hw0 u' s) (hf : Fit P (live S)) : u = u' := by
  funext r
  have a1 := h.ub r
  have a2 := h'.ub r
  by_cases hg : gF P r < gT P r
  · have hfu := full_eq hg
    by_cases hw : ∃ (k : Nat) (x : SlW), s.ws[k]? = some x ∧ x.ph ≠ 0 ∧ x.rg = r
    · obtain ⟨k, x, hx, hp, rfl⟩ := hw
      have e1 := (h.wk k x hx hp).2.2.2.2.2
      have e2 := (h'.wk k x hx hp).2.2.2.2.2
      omega
    · have b1 : u r = 0 ∨ u r = fullR P r := by
        by_cases h0 : u r = 0
        · exact .inl h0
        · by_cases h1 : u r = fullR P r
          · exact .inr h1
          · exact absurd (h.hd r (by omega) (by omega)) hw
      have b2 : u' r = 0 ∨ u' r = fullR P r := by
        by_cases h0 : u' r = 0
        · exact .inl h0
        · by_cases h1 : u' r = fullR P r
          · exact .inr h1
          · exact absurd (h'.hd r (by omega) (by omega)) hw
      have hr := goal_lt hf hg
      have c1 := filled_iff h hf hr
      have c2 := filled_iff h' hf hr
      have hst : ∀ y, stored P u y = true ↔ stored P u' y = true := fun y => by
        have d1 := h.m1 (srcN P S y) y
        have d2 := h'.m1 (srcN P S y) y
        simp only [and_true] at d1 d2
        exact d1.symm.trans d2
      have c3 : flU P u r = true ↔ flU P u' r = true := by
        rw [← c1, ← c2]
        exact ⟨fun hh y p q => (hst y).1 (hh y p q), fun hh y p q => (hst y).2 (hh y p q)⟩
      unfold flU at c3
      rw [decide_eq_true_eq, decide_eq_true_eq] at c3
      rcases b1 with b1 | b1 <;> rcases b2 with b2 | b2
      · omega
      · have := c3.2 b2; omega
      · have := c3.1 b1; omega
      · omega
  · rw [full_none hg] at a1 a2
    omega
theorem HasI.start (hf : Fit P (live S)) (hw : List Int) (ac : Int) (n : Nat) : HasI P n zeroU (startS P S hw ac n) (fun _ => 0) := by
  have a8 := (startR_spec (P := P) (start0 P S hw ac n) rfl P.R).2.2.2.2.2.2.2
  refine ⟨fun k x hx hp => ?_, fun k x hx _ => .inl rfl, fun k _ => rfl⟩
  unfold startS at hx
  rw [a8] at hx
  have hx2 : (List.replicate n w0S)[k]? = some x := hx
  have hk : k < n := by have := (List.getElem?_eq_some_iff.1 hx2).1; simpa using this
  rw [List.getElem?_replicate, if_pos hk] at hx2
  cases hx2
  exact absurd rfl hp
/-- Behind a step of the worker k0. -/
theorem HasI.next {k0 : Nat} (hh : HasI P n u s f) (h : SI P S n hw0 u s) (hf : Fit P (live S)) (hN : P.t ≤ hw0.length) (hR : P.R ≤ 30000) (hl : s.left ≠ 0) (hk : k0 < n) {u' : Nat → Nat} (h' : SI P S n hw0 u' (stepSl P S s k0)) : HasI P n u' (stepSl P S s k0) (fun k => if k = k0 ∧ clr15 P u f k0 = 0 ∧ s.H.length ≠ 0 then leastV s.H + 1 else clr15 P u f k) := by
  obtain ⟨x0, hx0⟩ : ∃ x, s.ws[k0]? = some x := ⟨_, List.getElem?_eq_getElem (by rw [h.wl]; exact hk)⟩
  have hst : stepSl P S s k0 = workS P S s k0 x0 := by unfold stepSl; rw [if_neg hl, hx0]
  rw [hst] at h' ⊢
  have hcl := hh.clr h
  have hidle : x0.ph = 0 → clr15 P u f k0 = 0 := fun h0 => (hcl k0).2 (fun x hx => by rw [hx0] at hx; cases hx; exact h0)
  -- the other workers
  have hoth : ∀ (ws' : List SlW) (y : SlW), (workS P S s k0 x0).ws = s.ws.set k0 y → (∀ k, k ≠ k0 → ∀ x, (workS P S s k0 x0).ws[k]? = some x → s.ws[k]? = some x) := fun ws' y e k hne x hx => by
    rw [e, List.getElem?_set_ne (fun e' => hne e'.symm)] at hx; exact hx
  have main : ∀ (y : SlW) (v : Nat), (workS P S s k0 x0).ws = s.ws.set k0 y → (if clr15 P u f k0 = 0 ∧ s.H.length ≠ 0 then leastV s.H + 1 else clr15 P u f k0) = v → (y.ph ≠ 0 → v = y.rg + 1) → (y.ph = 0 → v = 0 ∨ (v - 1 < P.R ∧ flU P u' (v - 1) = true)) → HasI P n u' (workS P S s k0 x0) (fun k => if k = k0 ∧ clr15 P u f k0 = 0 ∧ s.H.length ≠ 0 then leastV s.H + 1 else clr15 P u f k) := by
    intro y v e1 e2 e3 e4
    have hv : (if k0 = k0 ∧ clr15 P u f k0 = 0 ∧ s.H.length ≠ 0 then leastV s.H + 1 else clr15 P u f k0) = v := by
      rw [← e2]
      by_cases e : clr15 P u f k0 = 0 ∧ s.H.length ≠ 0
      · rw [if_pos e, if_pos ⟨rfl, e⟩]
      · rw [if_neg e, if_neg (fun hc => e hc.2)]
    have hlen : k0 < s.ws.length := (List.getElem?_eq_some_iff.1 hx0).1
    refine ⟨fun k x hx hp => ?_, fun k x hx hp => ?_, fun k hk' => ?_⟩
    · by_cases e : k = k0
      · subst e
        rw [e1, List.getElem?_set_self hlen] at hx
        cases hx
        exact hv.trans (e3 hp)
      · have := hoth [] y e1 k e x hx
        show (if k = k0 ∧ _ then _ else _) = _
        rw [if_neg (fun hc => e hc.1)]
        exact (hcl k).1 x this hp
    · by_cases e : k = k0
      · subst e
        rw [e1, List.getElem?_set_self hlen] at hx
        cases hx
        rcases e4 hp with e0 | e0
        · exact .inl (hv.trans e0)
        · refine .inr ?_
          show (if k = k ∧ clr15 P u f k = 0 ∧ s.H.length ≠ 0 then leastV s.H + 1 else clr15 P u f k) - 1 < P.R ∧ flU P u' ((if k = k ∧ clr15 P u f k = 0 ∧ s.H.length ≠ 0 then leastV s.H + 1 else clr15 P u f k) - 1) = true
          rw [hv]; exact e0
      · have := hoth [] y e1 k e x hx
        left
        show (if k = k0 ∧ _ then _ else _) = _
        rw [if_neg (fun hc => e hc.1)]
        exact (hcl k).2 (fun z hz => by rw [this] at hz; cases hz; exact hp)
    · show (if k = k0 ∧ _ then _ else _) = _
      rw [if_neg (fun hc => by omega)]
      exact (hcl k).2 (fun z hz => by have := (List.getElem?_eq_some_iff.1 hz).1; rw [h.wl] at this; omega)
  have hph := h.ph k0 x0 hx0
  by_cases h0 : x0.ph = 0
  · have hc0 := hidle h0
    by_cases hH : s.H.length = 0
    · have hw : workS P S s k0 x0 = s := by unfold workS takeS; rw [if_pos h0, if_pos hH]
      refine main x0 0 ?_ (by rw [if_neg (fun hc => hc.2 hH)]; exact hc0) (fun hp => absurd h0 hp) (fun _ => .inl rfl)
      rw [hw]
      refine List.ext_getElem? fun i => ?_
      by_cases e : k0 = i
      · subst e
        rw [List.getElem?_set_self (List.getElem?_eq_some_iff.1 hx0).1, hx0]
      · rw [List.getElem?_set_ne e]
    · have hw : (workS P S s k0 x0).ws = s.ws.set k0 ⟨1, leastV s.H, gF P (leastV s.H), gT P (leastV s.H), srcN P S (gF P (leastV s.H)), x0.wd⟩ := by unfold workS takeS; rw [if_pos h0, if_neg hH]
      exact main _ (leastV s.H + 1) hw (by rw [if_pos ⟨hc0, hH⟩]) (fun _ => rfl) (fun hp => absurd hp (by show ¬ 1 = 0; omega))
  · have hc1 := (hcl k0).1 x0 hx0 h0
    have hne : ¬ (clr15 P u f k0 = 0 ∧ s.H.length ≠ 0) := fun hc => by omega
    by_cases h1 : x0.ph = 1
    · have hw : (workS P S s k0 x0).ws = s.ws.set k0 ⟨2, x0.rg, x0.x, x0.y, x0.src, s.hw.getD x0.src 0⟩ := by unfold workS readS; rw [if_neg h0, if_pos h1]
      exact main _ (x0.rg + 1) hw (by rw [if_neg hne]; exact hc1) (fun _ => rfl) (fun hp => absurd hp (by show ¬ 2 = 0; omega))
    · have h2 : x0.ph = 2 := by omega
      by_cases hend : x0.x + 1 = x0.y
      · have hw : (workS P S s k0 x0).ws = s.ws.set k0 ⟨0, x0.rg, x0.x + 1, x0.y, x0.src, x0.wd⟩ := by unfold workS storeS; rw [if_neg h0, if_neg h1, if_pos hend]
        have hse := (h.store_end hf hN hR hx0 h2 hend).2
        have hw2 : workS P S s k0 x0 = { fillS P (live S) (storeA s k0 x0) x0.rg with ws := s.ws.set k0 ⟨0, x0.rg, x0.x + 1, x0.y, x0.src, x0.wd⟩ } := by unfold workS storeS; rw [if_neg h0, if_neg h1, if_pos hend]
        rw [← hw2] at hse
        have hu := h'.uniq hse hf
        obtain ⟨a, b, c, d, e, g⟩ := h.wk k0 x0 hx0 h0
        refine main _ (x0.rg + 1) hw (by rw [if_neg hne]; exact hc1) (fun hp => absurd rfl hp) (fun _ => .inr ⟨by have := goal_lt hf a; omega, ?_⟩)
        rw [hu, Nat.add_sub_cancel]
        unfold flU
        rw [upd_at, decide_eq_true_eq, full_eq a]
        omega
      · have hw : (workS P S s k0 x0).ws = s.ws.set k0 ⟨1, x0.rg, x0.x + 1, x0.y, srcN P S (x0.x + 1), x0.wd⟩ := by unfold workS storeS; rw [if_neg h0, if_neg h1, if_neg hend]
        exact main _ (x0.rg + 1) hw (by rw [if_neg hne]; exact hc1) (fun _ => rfl) (fun hp => absurd hp (by show ¬ 1 = 0; omega))
end
end Go.Proofs.YtbmlggemheljkaaGreatDoor

/-
  What lies in memory through SlideReady: the slider, the table, who has which.
-/
namespace Go.Proofs.YtbmlggemheljkaaGreatDoor
open Go.RowKit Bt
set_option linter.unusedVariables false
set_option linter.unusedSimpArgs false

section
variable {wb w w' w1 w2 : World} {I : SlI} {P : PN} {S : Nat → Nat} {s : SlS} {v m v' m' : Value}
/-- A pair of numbers that is not the slider's own is stored to. -/
theorem Sl.pair (h : Sl wb w I P S s v m) {x : Nat} {c0 : Array Value} (hx : w.heap[x]? = some (.cells c0 46)) (hn : x ∉ OwnS I v m) (hb : wb.heap.size ≤ x) (t : Turned [x] w w') : Sl wb w' I P S s v m := by
  have hT : ∀ e : TypeId, e ≠ 46 → ∀ i, i ∈ [x] → ∃ c' e' fr, w.heap[i]? = some (.cells c' e' fr) ∧ e' ≠ e := by
    intro e h1 i hi
    simp at hi
    subst hi
    exact ⟨_, _, _, hx, fun e => h1 e.symm⟩
  have hm : ∀ i, m.ownBlock = some i → i ≠ x := fun i hi e => hn (by
    unfold OwnS
    simp only [List.mem_cons, List.mem_append, Option.mem_toList]
    subst e
    simp [hi])
  refine ⟨h.c, h.t.trans_new t (by simp; exact .inr hb), ⟨h.mem.ne, keep_ty t h.mem.head (hT _ (by decide)), keep_ty t h.mem.row (hT _ (by decide))⟩, keep_ty t h.head (hT _ (by decide)), ⟨keep_ty t h.ln.head (hT _ (by decide)), own_ty h.ln.row t (hT _ (by decide)), h.ln.few, Nat.le_trans h.ln.base t.size⟩, h.zw.ty t (hT _ (by decide)), h.zB, keep_ty t h.row (hT _ (by decide)), h.len, fun i y hy => ?_, h.nd, ownsRow_keep h.mv (fun i hi => t.block i (ownsRow_lt h.mv i hi).2.1 (by have := hm i hi; simpa using this)), h.nsb, h.nlb, h.nzq, h.nws, h.nB⟩
  obtain ⟨b, h1, h2⟩ := h.wk i y hy
  exact ⟨b, h1, keep_ty t h2 (hT _ (by decide))⟩
/-- The slider has no bools. -/
theorem SOut.bools (o : SOut I v m v' m' w w') (h : Sl wb w I P S s v m) {x : Nat} {c : Array Value} {e : TypeId} (he : e = 55 ∨ e = 4) (hx : w.heap[x]? = some (.cells c e)) : w'.heap[x]? = some (.cells c e) := by
  refine keep_ty o.t hx (fun i hi => ?_)
  have hne : ∀ T : TypeId, T ≠ 55 → T ≠ 4 → T ≠ e := fun T h1 h2 e2 => by
    rcases he with he | he
    · exact h1 (e2.trans he)
    · exact h2 (e2.trans he)
  unfold OwnS at hi
  simp only [List.mem_cons, List.mem_append, Option.mem_toList] at hi
  rcases hi with rfl | rfl | rfl | rfl | rfl | (hi | hi) | hi
  · exact ⟨_, _, _, h.head, hne _ (by decide) (by decide)⟩
  · exact ⟨_, _, _, h.ln.head, hne _ (by decide) (by decide)⟩
  · obtain ⟨cz, hcz, _⟩ := h.zw
    exact ⟨_, _, _, hcz, hne _ (by decide) (by decide)⟩
  · exact ⟨_, _, _, h.mem.head, hne _ (by decide) (by decide)⟩
  · exact ⟨_, _, _, h.mem.row, hne _ (by decide) (by decide)⟩
  · obtain ⟨k, hk⟩ := List.getElem?_of_mem hi
    have hlt : k < s.ws.length := by rw [h.len]; exact (List.getElem?_eq_some_iff.1 hk).1
    exact ⟨_, _, _, h.wblk hk (List.getElem?_eq_getElem hlt), hne _ (by decide) (by decide)⟩
  · obtain ⟨_, _, c2, hc2⟩ := ownsRow_lt h.ln.row i hi
    exact ⟨_, _, _, hc2, hne _ (by decide) (by decide)⟩
  · obtain ⟨_, _, c2, hc2⟩ := ownsRow_lt h.mv i hi
    exact ⟨_, _, _, hc2, hne _ (by decide) (by decide)⟩
/-- What is not the slider's own stays so. -/
theorem SOut.far (o : SOut I v m v' m' w w') {x : Nat} (hx : x < w.heap.size) (hn : x ∉ OwnS I v m) : x ∉ OwnS I v' m' := by
  intro hm
  apply hn
  unfold OwnS at hm ⊢
  simp only [List.mem_cons, List.mem_append, Option.mem_toList] at hm ⊢
  rcases hm with hi | hi | hi | hi | hi | (hi | hi) | hi
  · exact .inl hi
  · exact .inr (.inl hi)
  · exact .inr (.inr (.inl hi))
  · exact .inr (.inr (.inr (.inl hi)))
  · exact .inr (.inr (.inr (.inr (.inl hi))))
  · exact .inr (.inr (.inr (.inr (.inr (.inl (.inl hi))))))
  · rcases o.v_ x hi with h | h
    · exact .inr (.inr (.inr (.inr (.inr (.inl (.inr h))))))
    · omega
  · rcases o.m_ x hi with h | h
    · exact .inr (.inr (.inr (.inr (.inr (.inr h)))))
    · omega
end

/-- What lies in memory through the law: the slider, the table, who has which. -/
structure RdS (J : LI) (w : World) (u : Nat → Nat) (s : SlS) (v m : Value) (ao : Option Addr) (R : Nat) (T : Nat → Nat → Bool) (hb : Nat) (f : Nat → Nat) : Prop where
  l : Ls J w u s v m
  tb : Tbl w ao R T
  hs : ∃ c : Array Value, w.heap[hb]? = some (.cells c 46) ∧ ∀ k, k < 2 → c[k]? = some (.int .i64 (f k : Int))
  hn : hb ∉ OwnS J.I v m
  hw : J.wb.heap.size ≤ hb
section
variable {J : LI} {w w' : World} {u u' : Nat → Nat} {s s' : SlS} {v m v' m' : Value} {ao : Option Addr} {R : Nat} {T : Nat → Nat → Bool} {hb : Nat} {f : Nat → Nat}
theorem RdS.quiet (h : RdS J w u s v m ao R T hb f) (t : Turned [] w w') : RdS J w' u s v m ao R T hb f := by
  obtain ⟨c, h1, h2⟩ := h.hs
  exact ⟨h.l.quiet t, h.tb.turned0 t, ⟨c, keep_ty t h1 (by simp), h2⟩, h.hn, h.hw⟩
theorem RdS.cell (h : RdS J w u s v m ao R T hb f) {k : Nat} (hk : k < 2) : w.cell? ⟨hb, k, none⟩ = some (.int .i64 (f k : Int)) := by
  obtain ⟨c, h1, h2⟩ := h.hs
  rw [cell_of_heap h1, h2 k hk]
theorem RdS.fz (h : RdS J w u s v m ao R T hb f) (k : Nat) : w.frozen? ⟨hb, k, none⟩ = false := by
  obtain ⟨c, h1, _⟩ := h.hs
  simp [World.frozen?, h1]
theorem RdS.congr {f' : Nat → Nat} (h : RdS J w u s v m ao R T hb f) (e : ∀ k, k < 2 → f k = f' k) : RdS J w u s v m ao R T hb f' := by
  obtain ⟨c, h1, h2⟩ := h.hs
  exact ⟨h.l, h.tb, ⟨c, h1, fun k hk => by rw [h2 k hk, e k hk]⟩, h.hn, h.hw⟩
/-- A worker has another region, or none. -/
theorem RdS.set (h : RdS J w u s v m ao R T hb f) (k x : Nat) (hk : k < 2) : RdS J (w.setCell ⟨hb, k, none⟩ (.int .i64 (x : Int))) u s v m ao R T hb (fun i => if i = k then x else f i) := by
  obtain ⟨c, h1, h2⟩ := h.hs
  have t : Turned [hb] w (w.setCell ⟨hb, k, none⟩ (.int .i64 (x : Int))) := (Turned.refl [hb] w).setCell (p := ⟨hb, k, none⟩) (.inl (by simp)) _
  refine ⟨⟨h.l.wd, h.l.mem, h.l.lt, h.l.vb, h.l.sl.pair h1 h.hn h.hw t, h.l.ic, h.l.si, h.l.n0, h.l.t0, h.l.lo, h.l.pt⟩, h.tb.keep fun y c' e he hy => keep_ty t hy (fun i hi => ?_), ⟨_, heap_setCell_at _ _ _ _ _ _ h1 _, fun j hj => ?_⟩, h.hn, h.hw⟩
  · simp at hi
    subst hi
    refine ⟨_, _, _, h1, fun e2 => ?_⟩
    rcases he with he | he <;> rw [he] at e2 <;> revert e2 <;> decide
  · rw [Array.getElem?_setIfInBounds]
    by_cases hji : k = j
    · subst hji
      have h4 : k < c.size := by
        rcases Array.getElem?_eq_some_iff.1 (h2 k hj) with ⟨h5, _⟩
        exact h5
      rw [if_pos rfl, if_pos h4]
      simp
    · rw [if_neg hji, h2 j hj]
      show _ = some (Value.int .i64 ((if j = k then x else f j : Nat) : Int))
      rw [if_neg (fun e : j = k => hji e.symm)]
/-- Behind a step. -/
theorem RdS.step (h : RdS J w u s v m ao R T hb f) (hl : Ls J w' u' s' v' m') (o : SOut J.I v m v' m' w w') : RdS J w' u' s' v' m' ao R T hb f := by
  obtain ⟨c, h1, h2⟩ := h.hs
  exact ⟨hl, h.tb.keep fun y c' e he hy => o.bools h.l.sl he hy, ⟨c, by rw [o.t.block hb (lt_of_heap h1) h.hn]; exact h1, h2⟩, o.far (lt_of_heap h1) h.hn, h.hw⟩
/-- At the start. -/
theorem RdS.start (hl : Ls J w u s v m) (hb : Tbl w ao R T) : RdS J (w.alloc (.cells #[.int .i64 0, .int .i64 0] 46)) u s v m ao R T w.heap.size (fun _ => 0) := by
  have t : Turned [] w (w.alloc (.cells #[.int .i64 0, .int .i64 0] 46)) := (Turned.refl [] w).alloc _
  refine ⟨hl.quiet t, hb.turned0 t, ⟨_, heap_alloc_new _ _, fun k hk => ?_⟩, fun hm => Nat.lt_irrefl _ (hl.sl.own_lt _ hm), hl.sl.t.size⟩
  match k, hk with
  | 0, _ => rfl
  | 1, _ => rfl
end

/-- An array of 150 bools in a block of its own. -/
def Db (w : World) (q : Nat) (g : Nat → Bool) : Prop := ∃ c : Array Value, w.heap[q]? = some (.cells c 54) ∧ ∀ i, i < 150 → c[i]? = some (.bool (g i))
section
variable {w w' : World} {q : Nat} {g : Nat → Bool}
theorem Db.lt (h : Db w q g) : q < w.heap.size := by obtain ⟨c, h1, _⟩ := h; exact lt_of_heap h1
theorem Db.turned (h : Db w q g) {S : List Nat} (t : Turned S w w') (hq : q ∉ S) : Db w' q g := by
  obtain ⟨c, h1, h2⟩ := h
  exact ⟨c, by rw [t.block q (lt_of_heap h1) hq]; exact h1, h2⟩
theorem Db.turned0 (h : Db w q g) (t : Turned [] w w') : Db w' q g := h.turned t (by simp)
theorem Db.cell (h : Db w q g) {i : Nat} (hi : i < 150) : w.cell? ⟨q, i, none⟩ = some (.bool (g i)) := by
  obtain ⟨c, h1, h2⟩ := h
  rw [cell_of_heap h1, h2 i hi]
theorem Db.fz (h : Db w q g) (i : Nat) : w.frozen? ⟨q, i, none⟩ = false := by
  obtain ⟨c, h1, _⟩ := h
  simp [World.frozen?, h1]
theorem Db.congr {g' : Nat → Bool} (h : Db w q g) (e : ∀ i, i < 150 → g i = g' i) : Db w q g' := by
  obtain ⟨c, h1, h2⟩ := h
  exact ⟨c, h1, fun i hi => by rw [h2 i hi, e i hi]⟩
theorem Db.set (h : Db w q g) (i : Nat) (v : Bool) : Db (w.setCell ⟨q, i, none⟩ (.bool v)) q (fun j => if j = i then v else g j) := by
  obtain ⟨c, h1, h2⟩ := h
  refine ⟨_, heap_setCell_at _ _ _ _ _ _ h1 _, fun j hj => ?_⟩
  rw [Array.getElem?_setIfInBounds]
  by_cases hji : i = j
  · subst hji
    have h4 : i < c.size := by
      rcases Array.getElem?_eq_some_iff.1 (h2 i hj) with ⟨h5, _⟩
      exact h5
    rw [if_pos rfl, if_pos h4]
    simp
  · rw [if_neg hji, h2 j hj]
    show _ = some (Value.bool (if j = i then v else g j))
    rw [if_neg (fun e : j = i => hji e.symm)]
end
theorem Db.start (w : World) : Db (w.alloc (.cells Tryz.zeroCells54 54)) w.heap.size (fun _ => false) := by
  have e : Tryz.zeroCells54 = Array.replicate 150 (.bool false) := by kernel_rfl
  refine ⟨_, heap_alloc_new _ _, fun i hi => ?_⟩
  rw [e, Array.getElem?_replicate, if_pos hi]
/-- Which words the first moves stored. -/
def dnF (mv : List (Nat × Nat)) (k y : Nat) : Bool := (mv.take k).any fun p => p.2 == y
theorem dnF_zero (mv : List (Nat × Nat)) (y : Nat) : dnF mv 0 y = false := by simp [dnF]
theorem dnF_next {mv : List (Nat × Nat)} {k : Nat} {p : Nat × Nat} (h : mv[k]? = some p) (y : Nat) : dnF mv (k + 1) y = if y = p.2 then true else dnF mv k y := by
  unfold dnF
  rw [take_snocR h, List.any_append]
  by_cases e : y = p.2
  · rw [if_pos e]; simp [e]
  · rw [if_neg e]
    have : (p.2 == y) = false := by simpa using fun e2 : p.2 = y => e e2.symm
    simp [this]
theorem dnF_end {P : PN} {S : Nat → Nat} {n : Nat} {hw0 : List Int} {u : Nat → Nat} {s : SlS} (h : SI P S n hw0 u s) (y : Nat) : dnF s.mv s.mv.length y = stored P u y := by
  unfold dnF
  rw [List.take_length]
  cases hst : stored P u y
  · rw [List.any_eq_false]
    intro p hp he
    have he2 : p.2 = y := by simpa using he
    have := ((h.m1 p.1 p.2).1 hp).1
    rw [he2, hst] at this
    cases this
  · rw [List.any_eq_true]
    exact ⟨(srcN P S y, y), (h.m1 _ _).2 ⟨hst, rfl⟩, by simp⟩
/-- As far as y, all words of a goal are stored. -/
noncomputable def alF (P : PN) (u : Nat → Nat) (r y : Nat) : Bool := bo (∀ z, gF P r ≤ z → z < y → stored P u z = true)
theorem alF_start (P : PN) (u : Nat → Nat) (r : Nat) : alF P u r (gF P r) = true := by unfold alF; rw [bo_true]; intro z h1 h2; omega
theorem alF_next (P : PN) (u : Nat → Nat) {r y : Nat} (h : gF P r ≤ y) : alF P u r (y + 1) = (alF P u r y && stored P u y) := by
  unfold alF
  cases hs : stored P u y
  · rw [Bool.and_false, bo_false]
    intro hh
    have := hh y h (by omega)
    rw [hs] at this; cases this
  · rw [Bool.and_true]
    congr 1
    apply propext
    constructor
    · intro hh z h1 h2; exact hh z h1 (by omega)
    · intro hh z h1 h2
      by_cases e : z = y
      · rw [e]; exact hs
      · exact hh z h1 (by omega)
theorem alF_end {P : PN} {S : Nat → Nat} {n : Nat} {hw0 : List Int} {u : Nat → Nat} {s : SlS} (h : SI P S n hw0 u s) (hf : Fit P (live S)) {r y : Nat} (hr : r < P.R) (h1 : y = gT P r ∨ (y = gF P r ∧ gT P r ≤ gF P r)) : alF P u r y = flU P u r := by
  have hi := filled_iff h hf hr
  cases hfl : flU P u r
  · unfold alF
    rw [bo_false]
    intro hh
    have := hi.1 (fun z a b => hh z a (by omega))
    rw [hfl] at this; cases this
  · unfold alF
    rw [bo_true]
    intro z a b
    rcases h1 with e | ⟨e, e2⟩
    · exact hi.2 hfl z a (by omega)
    · omega
/-- Who has one has a region that is there. -/
theorem HasI.lt {P : PN} {S : Nat → Nat} {n : Nat} {hw0 : List Int} {u : Nat → Nat} {s : SlS} {f : Nat → Nat} (hh : HasI P n u s f) (h : SI P S n hw0 u s) (hf : Fit P (live S)) {k : Nat} (h0 : 0 < f k) : f k - 1 < P.R := by
  by_cases hk : k < n
  · obtain ⟨x, hx⟩ : ∃ x, s.ws[k]? = some x := ⟨_, List.getElem?_eq_getElem (by rw [h.wl]; exact hk)⟩
    by_cases hp : x.ph = 0
    · rcases hh.off k x hx hp with e | e
      · omega
      · exact e.1
    · have e := hh.on k x hx hp
      obtain ⟨a, _⟩ := h.wk k x hx hp
      have := goal_lt hf a
      omega
  · have := hh.out k (by omega)
    omega
end Go.Proofs.YtbmlggemheljkaaGreatDoor

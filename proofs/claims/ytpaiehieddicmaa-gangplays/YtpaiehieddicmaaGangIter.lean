/-
  slices.Values, slices.AppendSeq, slices.Collect, slices.Sorted of a slice of numbers that can be read; Waits.
-/
import Derived.Test.YtpaiehieddicmaaGangArrive
import Derived.Test.YtpaiehieddicmaaSafeSort
import Derived.Sort.OwnSortedInts
import Derived.RangeFuncNested
import Derived.RangeFuncBox
import Derived.RangeFuncLeaves
import Derived.Shelf.Abstract
import Derived.OwnWalkIn
import Derived.TacticsInMore
import Derived.LoopNIn
import Derived.LoopIn
import Derived.Maps.AppendAt
namespace Go.Proofs.Ytpaiehieddicmaa
open Go.RowKit Go.Shelf Go.Maps
set_option linter.unusedVariables false
attribute [local go_sem] Oper.semAt_some

theorem IRd.below {w w' : World} {ao : Option Addr} {len : Nat} {l : List Int} (h : IRd w ao len l) (hb : Below w.heap.size w w') : IRd w' ao len l := h.turned0 (Turned.of_below hb)

set_option maxRecDepth 100000 in
set_option maxHeartbeats 2000000 in
theorem values1_in (F : Fence) (n : Nat) (hf : F.fn 38) (hro : F.round = none) (hn : 1 ≤ n) (l Bs : Nat) (w0 : World) (ao : Option Addr) (len cap : Nat) (zs : List Int) (hrd : IRd w0 ao len zs) (hlen : len ≤ 1000000) (J Jx : List Int → World → Prop)
    (hY : ∀ pre x W, J pre W → pre.length < len → YieldAt F (n - 1) Try.prog l #[.int .i64 x] W fun e W' =>
      (e = .returned (.bool true) ∧ J (pre ++ [x]) W' ∧ Below w0.heap.size W W') ∨ (e = .returned (.bool false) ∧ Jx (pre ++ [x]) W'))
    (W : World) (hW : Below w0.heap.size w0 W) (hBs : W.cell? ⟨Bs, 0, none⟩ = some (.slice ao len cap)) (h0 : J [] W) :
    CallsIn F n Try.prog 38 #[.func (.yield l) #[] #[], .pointer (some ⟨Bs, 0, none⟩)] W fun e W' => (∃ v, e = .returned v) ∧
      ((∃ ys, ys = zs ∧ J ys W') ∨ (∃ pre, pre <+: zs ∧ Jx pre W')) := by
  refine callsIn_of_wp Try.func38 rfl hf ?_ hro
  simp only [Try.ntmps38, List.size_toArray, List.length_cons, List.length_nil, Nat.reduceAdd, Nat.reduceSub, Array.replicate_succ, Array.replicate_zero, List.push_toArray, List.append_toArray, List.nil_append, List.cons_append]
  gi_wp2
  gi_loopw [7] (fun i wr => ∃ k : Nat, k ≤ len ∧ i = .int .i64 k ∧ J (zs.take k) wr ∧ Below w0.heap.size w0 wr)
    (fun i _ => len - (intOf i).toNat)
  case atStart => exact ⟨0, Nat.zero_le _, rfl, h0, hW⟩
  case round =>
    obtain ⟨k, hk, rfl, hJs, hnx⟩ := hrel
    by_cases hlt : k < len
    · obtain ⟨z, hz⟩ : ∃ z, zs[k]? = some z := ⟨_, List.getElem?_eq_getElem (by have := hrd.size; omega)⟩
      obtain ⟨g, off, rfl, hcx⟩ := (hrd.below hnx).cell k z hz
      obtain ⟨fn, tmps, assign, body, hy, hR⟩ := hY _ z wr hJs (by rw [List.length_take]; omega)
      have hs := take_snoc hz
      have hS := hide hs
      clear hs hz
      gi_wp2
      refine hR.mono ?_
      rintro e W3 (⟨rfl, hJ3, hk3⟩ | ⟨rfl, hJx3⟩)
      · gi_wp2
        go_roundw
        case rel => exact ⟨k + 1, by omega, by simp, by rw [hS.out]; exact hJ3, hnx.trans hk3⟩
        case measure => simp [intOf]; omega
      · gi_wp2
        refine bodyPost_ret (results_none rfl _ _ _) rfl ?_
        exact ⟨⟨_, rfl⟩, .inr ⟨_, by rw [← hS.out]; exact List.take_prefix _ _, hJx3⟩⟩
    · have hkl : k = len := by omega
      gi_wp2
      go_end0
      exact ⟨⟨_, rfl⟩, .inl ⟨_, rfl, by have h1 := hrd.size; rw [List.take_of_length_le (by omega)] at hJs; exact hJs⟩⟩

set_option maxHeartbeats 1000000 in
theorem values_in (F : Fence) (n : Nat) (hf : F.fn 25) (hro : F.round = none) (a : Option Addr) (len cap : Nat) (w : World) :
    CallsIn F n Try.prog 25 #[.slice a len cap] w fun e w' => e = .returned (.func (.func 38) #[] #[.pointer (some ⟨w.heap.size, 0, none⟩)]) ∧ w' = w.alloc (.cells #[.slice a len cap] 22) := by
  refine callsIn_of_wp Try.func25 rfl hf ?_ hro
  simp only [Try.ntmps25, List.size_toArray, List.length_cons, List.length_nil, Nat.reduceAdd, Nat.reduceSub, Array.replicate_succ, Array.replicate_zero, List.push_toArray, List.append_toArray, List.nil_append, List.cons_append]
  gi_wp2
  go_ret
  exact ⟨rfl, rfl⟩

theorem values_stops (F : Fence) (n : Nat) (hf : F.fn 38) (hro : F.round = none) (hn : 1 ≤ n) (Bs : Nat) (w0 : World) (ao : Option Addr) (len cap : Nat) (zs : List Int) (hrd : IRd w0 ao len zs) (hlen : len ≤ 1000000) (w : World) (hW : Below w0.heap.size w0 w) (hBs : Bs < w.heap.size)
    (hc : w.cell? ⟨Bs, 0, none⟩ = some (.slice ao len cap)) :
    SeqStopsK F n Try.prog 38 #[.pointer (some ⟨Bs, 0, none⟩)] (fun x : Int => #[Value.int .i64 x]) (Below w0.heap.size) (fun ys => ys = zs) (fun pre => pre <+: zs) zs.length w := fun l J Jx W hw _ _ hY h0 => by
  rw [hrd.size] at hY
  exact values1_in F n hf hro hn l Bs w0 ao len cap zs hrd hlen J Jx hY W (hW.trans (hw.mono hW.size)) ((hw.cell (p := ⟨Bs, 0, none⟩) hBs).trans hc) h0

set_option maxRecDepth 100000 in
set_option maxHeartbeats 2000000 in
theorem appendSeq_in (F : Fence) (n : Nat) (hf : F.fn 44) (hf1 : F.fn 38) (hro : F.round = none) (hn : 3 ≤ n) (Bs : Nat) (w0 : World) (ao : Option Addr) (len cap : Nat) (zs : List Int) (hrd : IRd w0 ao len zs) (hlen : len ≤ 1000000) (w : World) (hW : Below w0.heap.size w0 w) (hBs : Bs < w.heap.size)
    (hc : w.cell? ⟨Bs, 0, none⟩ = some (.slice ao len cap)) :
    CallsIn F n Try.prog 44 #[.slice none 0 0, .func (.func 38) #[] #[.pointer (some ⟨Bs, 0, none⟩)]] w fun e W' => ∃ v, e = .returned v ∧ W'.ownsRow w.heap.size 3 1 v zs.length (zs.map (Value.int .i64)) ∧ Below w.heap.size w W' := by
  have h1 : 1 ≤ n := by omega
  have hz := hrd.size
  obtain ⟨i0, hi, hz0, hz1, hz2⟩ := info_parts Try.infoI
  refine callsIn_of_wp_marks Try.func44 rfl hf ?_ hro
  simp only [Try.ntmps44, List.size_toArray, List.length_cons, List.length_nil, Nat.reduceAdd, Nat.reduceSub, Array.replicate_succ, Array.replicate_zero, List.push_toArray, List.append_toArray, List.nil_append, List.cons_append]
  gi_wp2
  have bO := Boxed.new w 22 (.slice none 0 0)
  have hB0 : Below w.heap.size w (w.alloc (.cells #[.slice none 0 0] 22)) := (Below.refl _ w).alloc (Nat.le_refl _) _
  have hle := hW.size
  refine wpIn_rangeFunc_ownG hro h1 (gf := 38) (lb := #[.pointer (some ⟨Bs, 0, none⟩)]) rfl hf1 (enters_of Try.func38 (by kernel_rfl) rfl)
    (values_stops F (n - 1) hf1 hro (by omega) Bs w0 ao len cap zs hrd hlen _ (hW.trans (hB0.mono hW.size)) (by simp; omega) ((hB0.cell (p := ⟨Bs, 0, none⟩) hBs).trans hc)) belowK_t (belowK_b (by simp; omega)) (Below.refl _ _) (fun _ => rfl)
    (fun (pre : List Int) W => (∃ v, Boxed W w.heap.size 22 v ∧ W.ownsRow w.heap.size 3 1 v pre.length (pre.map (Value.int .i64)) ∧ True) ∧ Below w.heap.size w W)
    (fun _ _ _ => False)
    (OwnFrom.and (Own.from (holdsRow_own w.heap.size w.heap.size 22 3 1 (fun pre : List Int => pre.length) (fun pre : List Int => pre.map (Value.int .i64)) (fun pre v => True)) _) (ownFrom_below (Nat.le_refl _) (by simp)))
    (fun _ _ _ _ _ hs _ _ => hs)
    ⟨⟨_, bO, World.ownsRow_nil _ _ _ _, trivial⟩, hB0⟩
    (fun x => { tmps := #[.slice none 0 0, .func (.func 38) #[] #[.pointer (some ⟨Bs, 0, none⟩)], .pointer (some ⟨w.heap.size, 0, none⟩), undef, .slice none 0 0, .int .i64 x, .func (.func 38) #[] #[.pointer (some ⟨Bs, 0, none⟩)], .int .i64 x, undef, undef, undef, undef, undef], defers := [] }) ?assign ?body ?done ?stop
  case assign =>
    intro l x W K hK
    gi_wp2
    exact hK
  case body =>
    rintro l pre x W ⟨⟨v, hv, hrow, _⟩, hB⟩ hlt
    have hc := hv.cell
    gi_wp2_with (gi_at_builtin; refine wpListIn_append_own _ rfl _ _ 22 rfl w.heap.size 3 i0 (.int .i64 0) 1 8 Try.underlying22 hi hz0 hz1 hz2 rfl (by decide) _ _ _ rfl (hrow.alloc _) ⟨W.heap.size, 0, none⟩ 1 1 [.int .i64 x] rfl rfl (cell_one_new _ _ _) (by simp [Value.oneCell']) (by unfold maxLen; omega) (by omega) (by have := hB.size; simp; omega) ?_; intro v' w1 hown' hgrow _; obtain ⟨g', cap', rfl⟩ := ownsRow_succ hown'; obtain ⟨hv1, hv2, hr2, hk2, hb2⟩ := hv.appended (by decide) hrow hB.size (Nat.le_refl _) hown' hgrow; have hc1 := hv1.cell; have hf1 := hv1.frozen)
    exact ⟨hk2.from _, hb2.mono hle, ⟨_, hv2, by simpa using hr2, trivial⟩, hB.trans hb2⟩
  case done =>
    rintro D ys W hD rfl ⟨⟨v, hv, hrow, _⟩, hB⟩ hK
    have hc := hv.cell
    gi_wp2
    refine ⟨by simp, .inl ⟨_, _, rfl, run_takeDeferred hK, ?_⟩⟩
    exact ⟨_, results_tmp rfl _ _ _, v, rfl, ownsRow_putObj hrow _ hK rfl, hB.trans (belowK_b (w := w) (Nat.le_refl _) W D _ _ (by simp at hD; omega) hK rfl rfl)⟩
  case stop =>
    rintro D c pre W _ _ h _
    exact h.elim

/-- A row of numbers of the call's own. -/
def Row (w : World) (B : Nat) (v : Value) (l : List Int) : Prop := w.ownsRow B 3 1 v l.length (l.map (Value.int .i64))
theorem Row.keep {w w' : World} {B : Nat} {v : Value} {l : List Int} (h : Row w B v l) {S : List Nat} (ht : Turned S w w') (hS : ∀ k, v.ownBlock = some k → k ∉ S) : Row w' B v l :=
  ownsRow_keep h (fun k hk => ht.block k (ownsRow_lt h k hk).2.1 (hS k hk))
theorem Row.mono {w : World} {B B' : Nat} {v : Value} {l : List Int} (h : Row w B v l) (hB : B' ≤ B) : Row w B' v l := ownsRow_mono h hB
theorem Row.rd {w : World} {B : Nat} {v : Value} {l : List Int} (h : Row w B v l) : ∃ ao cap, v = .slice ao l.length cap ∧ IRd w ao l.length l := by
  obtain ⟨_, ao, cap, h1, h2⟩ := ownsRow_any h
  refine ⟨ao, cap, h1, rfl, fun i x hx => ?_⟩
  obtain ⟨g, e, _, _, hc, _⟩ := h2 i (.int .i64 x) (by simp [hx])
  exact ⟨g, 0, e, by rw [Nat.zero_add]; exact hc⟩

def srt (l : List Int) : List Int := l.mergeSort fun x y => decide (x ≤ y)
theorem sort_any (w : World) (B : Nat) (v : Value) (ss : List Int) (h : Row w B v ss) (hl : ss.length < 17592186044416) :
    Calls Try.prog 37 #[v] w fun e w' => e = .returned (.tuple #[]) ∧ Row w' B v (srt ss) ∧ w.grownBy w' v.ownBlock := by
  rcases h.2 with ⟨hv, hn⟩ | ⟨g, cap, cur, hv, hg, hb, h1, h2, h3, h4⟩
  · subst hv
    obtain rfl : ss = [] := List.eq_nil_of_length_eq_zero hn
    refine (Try.slices_Sort_int_none none 0 w).mono ?_
    rintro e w' ⟨rfl, rfl⟩
    exact ⟨rfl, (by simpa [srt] using h), ⟨rfl, rfl, rfl, Nat.le_refl _, fun _ _ _ => rfl⟩⟩
  · subst hv
    refine (Try.slices_Sort_int g 0 cap ss w (holds_of_blockI hb (by simpa using h4)) (lt_of_heap hb) (by omega)).mono ?_
    rintro e w' ⟨rfl, n, os, rfl⟩
    refine ⟨rfl, ?_, grownBy_sortedI _⟩
    have h5 := ownsRow_sortedI (n := n) (os := os) (ss := ss) (ts := ss.mergeSort fun x y => decide (x ≤ y)) (by simp) hg hb h1 h2 h3
    unfold Row srt
    rw [show (ss.mergeSort fun x y => decide (x ≤ y)).length = ss.length by simp]
    exact h5

theorem collect_any (Bs : Nat) (w0 : World) (ao : Option Addr) (len cap : Nat) (zs : List Int) (hrd : IRd w0 ao len zs) (hlen : len ≤ 1000000) (w : World) (hW : Below w0.heap.size w0 w) (hBs : Bs < w.heap.size)
    (hc : w.cell? ⟨Bs, 0, none⟩ = some (.slice ao len cap)) :
    Calls Try.prog 36 #[.func (.func 38) #[] #[.pointer (some ⟨Bs, 0, none⟩)]] w fun e W' => ∃ v, e = .returned v ∧ Row W' w.heap.size v zs ∧ Turned [] w W' := by
  have HA := hide ((callsIn_wide (n := 3)).1 (appendSeq_in Fence.wide 3 trivial trivial rfl (by omega) Bs w0 ao len cap zs hrd hlen w hW hBs hc))
  clear hrd hW hBs hc
  go_enter Try.func36, Try.ntmps36
  go_wp2_with fail
  refine HA.out.mono ?_
  rintro e w' ⟨v, rfl, hr, hb⟩
  have HR := hide hr
  have HB := hide hb
  clear hr hb
  go_wp2_with fail
  go_ret
  exact ⟨v, rfl, HR.out, Turned.of_below HB.out⟩

theorem sorted_any (Bs : Nat) (w0 : World) (ao : Option Addr) (len cap : Nat) (zs : List Int) (hrd : IRd w0 ao len zs) (hlen : len ≤ 1000000) (w : World) (hW : Below w0.heap.size w0 w) (hBs : Bs < w.heap.size)
    (hc : w.cell? ⟨Bs, 0, none⟩ = some (.slice ao len cap)) :
    Calls Try.prog 24 #[.func (.func 38) #[] #[.pointer (some ⟨Bs, 0, none⟩)]] w fun e W' => ∃ v, e = .returned v ∧ Row W' w.heap.size v (srt zs) ∧ Turned [] w W' := by
  have hz := hrd.size
  have HA := hide (collect_any Bs w0 ao len cap zs hrd hlen w hW hBs hc)
  clear hrd hW hBs hc
  go_enter Try.func24, Try.ntmps24
  go_wp2_with fail
  refine HA.out.mono ?_
  rintro e w' ⟨v, rfl, hr, hb⟩
  have HS := hide (sort_any w' _ v zs hr (by omega))
  have HO := hide (fun k hk => (ownsRow_lt hr k hk).1)
  have HB := hide hb
  clear hr hb HA
  go_wp2_with fail
  refine HS.out.mono ?_
  rintro e w2 ⟨rfl, hr2, hg2⟩
  have HR := hide hr2
  have HT := hide (HB.out.grown hg2 (fun k hk => .inr (HO.out k hk)))
  clear hr2 hg2
  go_wp2_with fail
  go_ret
  exact ⟨v, rfl, HR.out, HT.out⟩

theorem gwaits_any (w : World) (p q : Nat) (ws : List Int) (came : Nat) (ph : Int) (h : Gg w p q ws came ph) :
    Calls Try.prog 13 #[ptr p] w fun e w' => ∃ v, e = .returned v ∧ Row w' w.heap.size v (srt (ws.take came)) ∧ Turned [] w w' := by
  have c1 := h.c1
  have hm := h.most
  have hl := h.lt
  obtain ⟨ao, hao, hrd⟩ : ∃ ao, arrV q came = .slice ao came came ∧ IRd w ao came (ws.take came) := by
    by_cases h0 : came = 0
    · subst h0
      exact ⟨none, by simp [arrV], IRd.nil _ _⟩
    · refine ⟨some ⟨q, 0, none⟩, by simp [arrV, h0], by simp; omega, fun i x hx => ⟨q, 0, rfl, ?_⟩⟩
      rw [List.getElem?_take] at hx
      split at hx
      · rw [Nat.zero_add]; exact h.word hx
      · cases hx
  rw [hao] at c1
  have HV := hide ((callsIn_wide (n := 3)).1 (values_in Fence.wide 3 trivial rfl ao came came w))
  have HW := hide (sorted_any w.heap.size w ao came came (ws.take came) hrd (by omega) (w.alloc (.cells #[.slice ao came came] 22)) ((Below.refl _ w).alloc (Nat.le_refl _) _) (by simp) (Boxed.new w 22 (.slice ao came came)).cell)
  clear h hao hrd
  unfold ptr
  go_enter Try.func13, Try.ntmps13
  go_wp2_with fail
  refine HV.out.mono ?_
  rintro e w' ⟨rfl, rfl⟩
  go_wp2_with fail
  refine HW.out.mono ?_
  rintro e w2 ⟨v, rfl, hr, ht⟩
  have HR := hide (hr.mono (B' := w.heap.size) (by simp))
  have HT := hide ((((Turned.refl [] w).alloc (.cells #[.slice ao came came] 22))).trans ht)
  clear hr ht
  go_wp2_with fail
  go_ret
  exact ⟨v, rfl, HR.out, HT.out⟩

theorem gwaits_nil (w : World) :
    Calls Try.prog 13 #[.pointer none] w fun e w' => e = .returned (.slice none 0 0) ∧ w' = w := by
  go_enter Try.func13, Try.ntmps13
  go_wp2_with fail
  go_ret
  exact ⟨rfl, rfl⟩
end Go.Proofs.Ytpaiehieddicmaa

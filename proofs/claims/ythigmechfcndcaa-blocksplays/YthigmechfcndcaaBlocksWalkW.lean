/-
  What Walk tells.
-/
import Derived.Test.YthigmechfcndcaaBlocksRead
import Derived.Maps.AppendAt
import Derived.OwnWalk
namespace Go.Proofs.Ythigmechfcndcaa
open Go.RowKit
set_option linter.unusedVariables false

theorem Try.infoBlock : (Try.prog.info? 38).map (fun i => (i.zero, i.size, i.bytes)) = some (some (.agg #[.int .i64 0, .int .i64 0, .int .i64 0, .int .i64 0]), 4, 32) := by kernel_rfl

def flat (bs : List Blk) : List Value := bs.flatMap Blk.cells
theorem flat_snoc (bs : List Blk) (b : Blk) : flat (bs ++ [b]) = flat bs ++ b.cells := by simp [flat]
theorem flat_length (bs : List Blk) : (flat bs).length = bs.length * 4 := by
  induction bs with
  | nil => rfl
  | cons b bs ih =>
    show (b.cells ++ flat bs).length = _
    rw [List.length_append, ih, List.length_cons]
    simp [Blk.cells]
    omega

theorem cells_new (w : World) (c : Array Value) (t : TypeId) (g : Nat) (hg : g = w.heap.size) : ∀ j u, c.toList[j]? = some u → (w.alloc (.cells c t)).cell? ((⟨g, 0, none⟩ : Addr).add j) = some u := by
  intro j u hj
  subst hg
  rw [show Addr.add ⟨w.heap.size, 0, none⟩ j = ⟨w.heap.size, j, none⟩ by simp [Addr.add]; intro e; omega, cell_of_heap (heap_alloc_new _ _)]
  simpa using hj
theorem Blk.cells_one (b : Blk) : ∀ u ∈ b.cells, u.oneCell' = true := by
  intro u hu
  simp [Blk.cells] at hu
  rcases hu with rfl | rfl | rfl | rfl <;> rfl
theorem readE_ne {l : List Int} {cs : List Cls} {t : Int} (h : readOf l cs t = none) : ¬ readE l cs t = 0 := by
  unfold readE
  rw [h]
  split
  · decide
  · simp
theorem walk_next {l : List Int} {cs : List Cls} {g f t : Int} {bs : List Blk} {b : Blk} (h : walkOf l cs g f = (walkOf l cs g t).map (bs ++ ·)) (ht : t < g) (hb : readOf l cs t = some b) (hs : b.s ≤ g - t) : walkOf l cs g f = (walkOf l cs g (t + b.s)).map ((bs ++ [b]) ++ ·) := by
  rw [h, walkOf_step ht hb hs]
  cases walkOf l cs g (t + b.s) <;> simp
theorem walk_fail {l : List Int} {cs : List Cls} {g f t : Int} {bs : List Blk} (h : walkOf l cs g f = (walkOf l cs g t).map (bs ++ ·)) (ht : t < g) (hb : ∀ b, readOf l cs t = some b → g - t < b.s) : walkOf l cs g f = none := by
  rw [h, walkOf_stop ht hb]
  rfl
theorem walk_done {l : List Int} {cs : List Cls} {g f t : Int} {bs : List Blk} (h : walkOf l cs g f = (walkOf l cs g t).map (bs ++ ·)) (ht : ¬ t < g) : walkOf l cs g f = some bs := by
  rw [h, walkOf_end ht]
  simp

theorem walk_out (v : Value) (l : List Int) (ao : Option Addr) (len cap : Nat) (f g : Int) (w : World) (hv : AnyMem w v l) (hw : ¬ (0 ≤ f ∧ f ≤ g ∧ g ≤ l.length)) :
    Calls Try.prog 12 #[v, .slice ao len cap, .int .i64 f, .int .i64 g] w fun e w' => e = .returned (.tuple #[.slice none 0 0, .int .i64 10]) ∧ w' = w := by
  have HW := hide (within_any v l f g w hv)
  rw [decide_eq_false hw] at HW
  clear hv hw
  go_enter Try.func12, Try.ntmps12
  go_wp2_with fail
  refine HW.out.mono ?_
  rintro e w1 ⟨rfl, rfl⟩
  go_wp2_with fail
  go_ret2
  exact ⟨rfl, rfl⟩

set_option maxRecDepth 100000 in
theorem walk_in (v : Value) (l : List Int) (ao : Option Addr) (len cap : Nat) (cs : List Cls) (f g : Int) (w : World) (hl : l.length ≤ 65536) (hv : AnyMem w v l) (hc : CRd w ao len cs) (hw : 0 ≤ f ∧ f ≤ g ∧ g ≤ l.length) :
    Calls Try.prog 12 #[v, .slice ao len cap, .int .i64 f, .int .i64 g] w fun e w' => ∃ v', e = .returned (.tuple #[v', .int .i64 (if (walkOf l cs g f).isNone then 13 else 0)]) ∧ w'.ownsRow w.heap.size 38 4 v' ((walkOf l cs g f).getD []).length (flat ((walkOf l cs g f).getD [])) ∧ Turned [] w w' := by
  have HW := hide (within_any v l f g w hv)
  rw [decide_eq_true hw] at HW
  have HR := hide (fun w' t (ht : Turned [] w w') (hi : In64 t) (h : readOf l cs t = none) => read_none v l ao len cap cs t w' hl (hv.turned ht) (hc.turned ht) hi h)
  have HS := hide (fun w' t b (ht : Turned [] w w') (h : readOf l cs t = some b) => read_some v l ao len cap cs t b w' hl (hv.turned ht) (hc.turned ht) h)
  obtain ⟨i0, hi, hz0, hz1, hz2⟩ := info_parts Try.infoBlock
  have hg : g ≤ 65536 := by omega
  obtain ⟨h0f, hfg, -⟩ := hw
  obtain ⟨E0, hE0⟩ : ∃ E0 : Int, E0 = if (walkOf l cs g f).isNone then 13 else 0 := ⟨_, rfl⟩
  rw [← hE0]
  have HE0 := hide hE0
  clear hv hc hl hE0
  go_enter Try.func12, Try.ntmps12
  go_wp2_with fail
  refine HW.out.mono ?_
  rintro e w1 ⟨rfl, rfl⟩
  go_wp2_with fail
  go_loopw [10, 11] (fun v t wr => ∃ (at_ : Int) (bs : List Blk), t = .int .i64 at_ ∧ f ≤ at_ ∧ at_ ≤ g ∧ Hid (wr.ownsRow w1.heap.size 38 4 v bs.length (flat bs)) ∧ Hid (Turned [] w1 wr) ∧ Hid (walkOf l cs g f = (walkOf l cs g at_).map (bs ++ ·)) ∧ Hid (bs.length ≤ at_ - f)) (fun _ t _ => (g - intOf t).toNat)
  case atStart => exact ⟨f, [], rfl, by omega, by omega, World.ownsRow_nil _ _ _ _, Turned.refl _ _, by show _ = _; simp, by show _ ≤ _; simp⟩
  case round =>
    obtain ⟨t, bs, rfl, hft, htg, HO, HT, HK, HN⟩ := hrel
    have hN := HN.out
    by_cases hlt : t < g
    · cases hr : readOf l cs t with
      | none =>
        have HF := hide (walk_fail HK.out hlt (fun b hb => by rw [hr] at hb; cases hb))
        have HRd := hide (HR.out wr t HT.out (by unfold In64; omega) hr)
        have hE := readE_ne hr
        generalize readE l cs t = E at *
        clear hr HK HO HN HR HS
        go_wp2_with fail
        refine HRd.out.mono ?_
        rintro e w2 ⟨rfl, ht2⟩
        have HT2 := hide (fun o => (HT.out.trans ht2).alloc o)
        clear ht2 HRd HT
        go_wp2_with fail
        go_ret2
        have hE0 := HE0.out
        rw [HF.out] at hE0 ⊢
        subst hE0
        exact ⟨_, rfl, World.ownsRow_nil _ _ _ _, HT2.out _⟩
      | some b =>
        have HSd := hide (HS.out wr t b HT.out hr)
        have hb := readOf_some hr
        have hb1 := hb.2.2.1
        have hb2 := hb.2.2.2.1
        clear hb
        by_cases hs : b.s ≤ g - t
        · have HK2 := hide (walk_next HK.out hlt hr hs)
          obtain ⟨bt, bk, bn, bs0⟩ := b
          simp only at *
          clear hr HK HR HS
          go_wp2_with fail
          refine HSd.out.mono ?_
          rintro e w2 ⟨rfl, ht2⟩
          have HT2 := hide (HT.out.trans ht2)
          have HO2 := hide (ownsRow_keep HO.out (fun k hk => ht2.block k (HO.out.lt k hk).2 (by simp)))
          have hsz := HT2.out.size
          have hlt2 := fun k hk => (HO2.out.lt k hk).2
          have HL2 := hide hlt2
          clear ht2 HSd HT HO hlt2
          go_wp2_with (at_builtin; (refine wpList_append_own _ rfl _ _ 45 rfl w1.heap.size 38 i0 _ 4 32 Try.underlying45 hi hz0 hz1 hz2 rfl (by decide) _ _ _ rfl ((HO2.out.alloc _).alloc _) ⟨w2.heap.size + 1, 0, none⟩ 1 1 (Blk.cells ⟨bt, bk, bn, bs0⟩) rfl rfl (cells_new _ _ _ _ (by simp)) (Blk.cells_one _) (by unfold maxLen; omega) (by omega) (by simp; omega) ?_); intro v' w3 hown' hgrow3 hnil3; have hb3 : w3.heap[w2.heap.size]? = some (.cells #[.int .i64 bt, .int .i64 bk, .int .i64 bn, .int .i64 bs0] 38) := (by rw [hgrow3.block _ (by simp; omega) (fun e => by have := HL2.out _ e.symm; omega), Below.heap_alloc _ _ _ (by simp), heap_alloc_new]); have c3 := cell_of_heap hb3 3; have HO3 := hide hown'; have HG3 := hide hgrow3; clear hown' hgrow3 hnil3 hb3)
          refine ⟨⟨t + bs0, bs ++ [⟨bt, bk, bn, bs0⟩], rfl, by omega, by omega, ?_, ?_, HK2, ?_⟩, ?_⟩
          · rw [flat_snoc, List.length_append]
            exact HO3
          · exact ((HT2.out.alloc _).alloc _).grown HG3.out (fun k hk => .inr (HO2.out.lt k hk).1)
          · show _ ≤ _
            rw [List.length_append]
            simp only [List.length_cons, List.length_nil]
            omega
          · simp only [intOf]
            omega
        · have HF := hide (walk_fail HK.out hlt (fun b' hb' => by rw [hr] at hb'; injection hb' with hb'; subst hb'; omega))
          obtain ⟨bt, bk, bn, bs0⟩ := b
          simp only at *
          clear hr HK HO HN HR HS
          go_wp2_with fail
          refine HSd.out.mono ?_
          rintro e w2 ⟨rfl, ht2⟩
          have HT2 := hide (fun o => (HT.out.trans ht2).alloc o)
          clear ht2 HSd HT
          go_wp2_with fail
          go_ret2
          have hE0 := HE0.out
          rw [HF.out] at hE0 ⊢
          subst hE0
          exact ⟨_, rfl, World.ownsRow_nil _ _ _ _, HT2.out _⟩
    · have HF := hide (walk_done HK.out hlt)
      clear HK HR HS
      go_wp2_with fail
      go_ret2
      have hE0 := HE0.out
      rw [HF.out] at hE0 ⊢
      subst hE0
      exact ⟨_, rfl, HO.out, HT.out⟩
end Go.Proofs.Ythigmechfcndcaa

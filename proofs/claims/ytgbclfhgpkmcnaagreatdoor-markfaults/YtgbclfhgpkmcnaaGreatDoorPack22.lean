/-
  Texts of the proof, several in one: BlocksDocW.
-/
import Derived.Test.YtgbclfhgpkmcnaaGreatDoorPack18
import Derived.Test.YtgbclfhgpkmcnaaGreatDoorPack17
import Derived.Maps.AppendAt
import Derived.OwnWalk
/-
  The document's own Walk.
-/
namespace Go.Proofs.YtgbclfhgpkmcnaaGreatDoor
open Go.RowKit
set_option linter.unusedVariables false

theorem rwalk_out (q : Nat) (l : List Int) (ao : Option Addr) (len cap : Nat) (f g : Int) (w : World) (hw : ¬ (0 ≤ f ∧ f ≤ g ∧ g ≤ l.length)) :
    Calls Tryz.prog 60 #[.slice (some ⟨q, 0, none⟩) l.length l.length, .slice ao len cap, .int .i64 f, .int .i64 g] w fun e w' => e = .returned (.tuple #[.slice none 0 0, .int .i64 10]) ∧ w' = w := by
  by_cases h1 : f < 0
  · clear hw
    go_enter Tryz.func60, Tryz.ntmps60
    go_wp2_with fail
    go_ret2
    exact ⟨rfl, rfl⟩
  · by_cases h2 : g < f
    · clear hw
      go_enter Tryz.func60, Tryz.ntmps60
      go_wp2_with fail
      go_ret2
      exact ⟨rfl, rfl⟩
    · have h3 : (l.length : Int) < g := by omega
      clear hw
      go_enter Tryz.func60, Tryz.ntmps60
      go_wp2_with fail
      go_ret2
      exact ⟨rfl, rfl⟩

set_option maxRecDepth 100000 in
theorem rwalk_in (q : Nat) (l : List Int) (ao : Option Addr) (len cap : Nat) (cs : List Cls) (f g : Int) (w : World) (hl : l.length ≤ 65536) (hv : Doc w q l) (hc : CRd w ao len cs) (hw : 0 ≤ f ∧ f ≤ g ∧ g ≤ l.length) :
    Calls Tryz.prog 60 #[.slice (some ⟨q, 0, none⟩) l.length l.length, .slice ao len cap, .int .i64 f, .int .i64 g] w fun e w' => ∃ v', e = .returned (.tuple #[v', .int .i64 (if (walkOf l cs g f).isNone then 13 else 0)]) ∧ w'.ownsRow w.heap.size 54 4 v' ((walkOf l cs g f).getD []).length (flat ((walkOf l cs g f).getD [])) ∧ Turned [] w w' := by
  have HR := hide (fun w' t (ht : Turned [] w w') (hi : In64 t) (h : readOf l cs t = none) => rread_none q l ao len cap cs t w' hl (hv.turned ht (by simp)) (hc.turned ht) h)
  have HS := hide (fun w' t b (ht : Turned [] w w') (h : readOf l cs t = some b) => rread_some q l ao len cap cs t b w' hl (hv.turned ht (by simp)) (hc.turned ht) h)
  obtain ⟨i0, hi, hz0, hz1, hz2⟩ := info_parts Tryz.infoBlock
  have hg : g ≤ 65536 := by omega
  obtain ⟨h0f, hfg, hgl⟩ := hw
  have d0 : decide (f < 0) = false := decide_eq_false (by omega)
  have d1 : decide (g < f) = false := decide_eq_false (by omega)
  have d2 : decide ((l.length : Int) < g) = false := decide_eq_false (by omega)
  obtain ⟨E0, hE0⟩ : ∃ E0 : Int, E0 = if (walkOf l cs g f).isNone then 13 else 0 := ⟨_, rfl⟩
  rw [← hE0]
  have HE0 := hide hE0
  clear hv hc hl hE0
  go_enter Tryz.func60, Tryz.ntmps60
  go_wp2_with fail
  go_loopw [2, 10] (fun t v wr => ∃ (at_ : Int) (bs : List Blk), t = .int .i64 at_ ∧ f ≤ at_ ∧ at_ ≤ g ∧ Hid (wr.ownsRow w.heap.size 54 4 v bs.length (flat bs)) ∧ Hid (Turned [] w wr) ∧ Hid (walkOf l cs g f = (walkOf l cs g at_).map (bs ++ ·)) ∧ Hid (bs.length ≤ at_ - f)) (fun t _ _ => (g - intOf t).toNat)
  case atStart => exact ⟨f, [], rfl, by omega, by omega, World.ownsRow_nil _ _ _ _, Turned.refl _ _, by show _ = _; simp, by show _ ≤ _; simp⟩
  case round =>
    obtain ⟨t, bs, rfl, hft, htg, HO, HT, HK, HN⟩ := hrel
    have hN := HN.out
    by_cases hlt : t < g
    · cases hr : readOf l cs t with
      | none =>
        have HF := hide (walk_fail HK.out hlt (fun b hb => by rw [hr] at hb; cases hb))
        have HRd := hide (HR.out wr t HT.out (by unfold In64; omega) hr)
        have hE := readE_ne hr
        generalize readE l cs t = E at *
        clear hr HK HO HN HR HS
        go_wp2_with fail
        refine HRd.out.mono ?_
        rintro e w2 ⟨rfl, ht2⟩
        have HT2 := hide (fun o => (HT.out.trans ht2).alloc o)
        clear ht2 HRd HT
        go_wp2_with fail
        go_ret2
        have hE0 := HE0.out
        rw [HF.out] at hE0 ⊢
        subst hE0
        exact ⟨_, rfl, World.ownsRow_nil _ _ _ _, HT2.out _⟩
      | some b =>
        have HSd := hide (HS.out wr t b HT.out hr)
        have hb := readOf_some hr
        have hb1 := hb.2.2.1
        have hb2 := hb.2.2.2.1
        clear hb
        by_cases hs : b.s ≤ g - t
        · have HK2 := hide (walk_next HK.out hlt hr hs)
          obtain ⟨bt, bk, bn, bs0⟩ := b
          simp only at *
          clear hr HK HR HS
          go_wp2_with fail
          refine HSd.out.mono ?_
          rintro e w2 ⟨rfl, ht2⟩
          have HT2 := hide (HT.out.trans ht2)
          have HO2 := hide (ownsRow_keep HO.out (fun k hk => ht2.block k (HO.out.lt k hk).2 (by simp)))
          have hsz := HT2.out.size
          have hlt2 := fun k hk => (HO2.out.lt k hk).2
          have HL2 := hide hlt2
          clear ht2 HSd HT HO hlt2
          go_wp2_with (at_builtin; (refine wpList_append_own _ rfl _ _ 40 rfl w.heap.size 54 i0 _ 4 32 Tryz.underlying40 hi hz0 hz1 hz2 rfl (by decide) _ _ _ rfl ((HO2.out.alloc _).alloc _) ⟨w2.heap.size + 1, 0, none⟩ 1 1 (Blk.cells ⟨bt, bk, bn, bs0⟩) rfl rfl (cells_new _ _ _ _ (by simp)) (Blk.cells_one _) (by unfold maxLen; omega) (by omega) (by simp; omega) ?_); intro v' w3 hown' hgrow3 hnil3; have hb3 : w3.heap[w2.heap.size]? = some (.cells #[.int .i64 bt, .int .i64 bk, .int .i64 bn, .int .i64 bs0] 54) := (by rw [hgrow3.block _ (by simp; omega) (fun e => by have := HL2.out _ e.symm; omega), Below.heap_alloc _ _ _ (by simp), heap_alloc_new]); have c3 := cell_of_heap hb3 3; have HO3 := hide hown'; have HG3 := hide hgrow3; clear hown' hgrow3 hnil3 hb3)
          refine ⟨⟨t + bs0, bs ++ [⟨bt, bk, bn, bs0⟩], rfl, by omega, by omega, ?_, ?_, HK2, ?_⟩, ?_⟩
          · rw [flat_snoc, List.length_append]
            exact HO3
          · exact ((HT2.out.alloc _).alloc _).grown HG3.out (fun k hk => .inr (HO2.out.lt k hk).1)
          · show _ ≤ _
            rw [List.length_append]
            simp only [List.length_cons, List.length_nil]
            omega
          · simp only [intOf]
            omega
        · have HF := hide (walk_fail HK.out hlt (fun b' hb' => by rw [hr] at hb'; injection hb' with hb'; subst hb'; omega))
          obtain ⟨bt, bk, bn, bs0⟩ := b
          simp only at *
          clear hr HK HO HN HR HS
          go_wp2_with fail
          refine HSd.out.mono ?_
          rintro e w2 ⟨rfl, ht2⟩
          have HT2 := hide (fun o => (HT.out.trans ht2).alloc o)
          clear ht2 HSd HT
          go_wp2_with fail
          go_ret2
          have hE0 := HE0.out
          rw [HF.out] at hE0 ⊢
          subst hE0
          exact ⟨_, rfl, World.ownsRow_nil _ _ _ _, HT2.out _⟩
    · have HF := hide (walk_done HK.out hlt)
      clear HK HR HS
      go_wp2_with fail
      go_ret2
      have hE0 := HE0.out
      rw [HF.out] at hE0 ⊢
      subst hE0
      exact ⟨_, rfl, HO.out, HT.out⟩
end Go.Proofs.YtgbclfhgpkmcnaaGreatDoor

/-
  Texts of the proof, several in one: BlocksRefR, BlocksDocO.
-/
import Derived.Test.YtgbclfhgpkmcnaaGreatDoorPack14
import Derived.Test.YtgbclfhgpkmcnaaGreatDoorPack17
import Derived.Test.YtgbclfhgpkmcnaaGreatDoorPack16
import Derived.Deep.RegionHeld3
import Derived.Deep.QuietTactic
import Derived.Deep.AppendLies
import Derived.BigQuiet
import Derived.Test.YtgbclfhgpkmcnaaGreatDoorPack22
/-
  The document's own Refs tells the same.
-/
namespace Go.Proofs.YtgbclfhgpkmcnaaGreatDoor
open Go.RowKit
set_option linter.unusedVariables false

theorem IRd.drewN {w : World} {ao : Option Addr} {len : Nat} {l : List Int} (h : IRd w ao len l) (m : Nat) : IRd (w.drewN m) ao len l := ⟨h.size, h.room, h.cell, h.inn⟩
theorem ownsRow_drewN {w : World} {B : Nat} {e : TypeId} {size : Nat} {v : Value} {n : Nat} {xs : List Value} (h : w.ownsRow B e size v n xs) (m : Nat) : (w.drewN m).ownsRow B e size v n xs := h

theorem take_snocL {α : Type} {l : List α} {k : Nat} {x : α} (h : l[k]? = some x) : l.take (k + 1) = l.take k ++ [x] := by
  obtain ⟨h1, h2⟩ := List.getElem?_eq_some_iff.1 h
  rw [List.take_succ_eq_append_getElem h1, h2]
/-- What of the first words of references was told. -/
def refTo (l : List Int) (t : Int) (R k : Nat) : List Int := ((rowTo R).take k).filterMap fun i => wordAt l (t + i)
theorem refTo_none {l : List Int} {t : Int} {R k : Nat} (hk : k < R) (h : wordAt l (t + ((k : Int) + 1)) = none) : refTo l t R (k + 1) = refTo l t R k := by
  unfold refTo
  rw [take_snocL (rowTo_get hk), List.filterMap_append, List.filterMap_cons_none (f := fun i => wordAt l (t + i)) h]
  simp
theorem refTo_some {l : List Int} {t x : Int} {R k : Nat} (hk : k < R) (h : wordAt l (t + ((k : Int) + 1)) = some x) : refTo l t R (k + 1) = refTo l t R k ++ [x] := by
  unfold refTo
  rw [take_snocL (rowTo_get hk), List.filterMap_append, List.filterMap_cons_some (f := fun i => wordAt l (t + i)) h]
  simp
theorem refTo_length (l : List Int) (t : Int) (R k : Nat) : (refTo l t R k).length ≤ k := by
  unfold refTo
  refine Nat.le_trans (List.length_filterMap_le _ _) ?_
  simp
  omega

set_option maxRecDepth 100000 in
set_option maxHeartbeats 1000000 in
theorem rrefs4_any (ao : Option Addr) (wcap : Nat) (l : List Int) (ac : Option Addr) (lc cc : Nat) (cs : List Cls) (tn : Nat) (bk bn bz : Int) (w : World) (hl : l.length ≤ 65536) (htl : tn < l.length) (hbn : In64 bn) (hw : IRd w ao l.length l) (hc : CRd w ac lc cs) :
    Calls Tryz.prog 58 #[.slice ao l.length wcap, .slice ac lc cc, .agg #[.int .i64 tn, .int .i64 bk, .int .i64 bn, .int .i64 bz]] w fun e w' =>
      ∃ v, e = .returned v ∧ w'.ownsRow w.heap.size 2 1 v (refWords l cs ⟨tn, bk, bn, bz⟩).length ((refWords l cs ⟨tn, bk, bn, bz⟩).map (Value.int .i64)) ∧ Turned [] w w' := by
  obtain ⟨w0, hw0⟩ : ∃ w0, w0 = w.alloc (.cells #[.int .i64 tn, .int .i64 bk, .int .i64 bn, .int .i64 bz] 54) := ⟨_, rfl⟩
  have ht0 : Turned [] w w0 := by rw [hw0]; exact (Turned.refl [] w).alloc _
  have hb0 : w0.heap[w.heap.size]? = some (.cells #[.int .i64 tn, .int .i64 bk, .int .i64 bn, .int .i64 bz] 54) := by rw [hw0]; exact heap_alloc_new _ _
  have HR := hide (rrefs_any ac lc cc cs bk bn w0 hbn (hc.turned ht0))
  have hrr := refsOf_range cs bk bn
  obtain ⟨R, hR⟩ : ∃ R : Nat, (refsOf cs bk bn).toNat = R := ⟨_, rfl⟩
  have hR65 : R ≤ 65535 := by omega
  have HF : Hid (refWords l cs ⟨tn, bk, bn, bz⟩ = refTo l tn R R) := by
    show _ = _
    unfold refTo refWords
    rw [hR, List.take_of_length_le (by rw [rowTo_length]; exact Nat.le_refl _)]
  rw [hR] at HR
  rw [HF.out]
  have HW := hide hw
  have HT0 := hide ht0
  have HB0 := hide hb0
  obtain ⟨i0, hi, hi0⟩ := Option.map_eq_some_iff.1 Tryz.info2
  simp only [Prod.mk.injEq] at hi0
  obtain ⟨hz0, hz1, hz2⟩ := hi0
  clear hrr hR HF hw hc hbn ht0 hb0
  go_enter Tryz.func58, Tryz.ntmps58
  go_wp2_with fail
  rw [← hw0]
  clear hw0
  refine HR.out.mono ?_
  rintro e w1 ⟨am, cm, rfl, hrd, ht1⟩
  have HM := hide hrd
  have HT1 := hide (HT0.out.trans ht1)
  have hb1 : w1.heap[w.heap.size]? = some (.cells #[.int .i64 tn, .int .i64 bk, .int .i64 bn, .int .i64 bz] 54) := by rw [ht1.block _ (lt_of_heap HB0.out) (by simp)]; exact HB0.out
  have HB1 := hide hb1
  clear hrd ht1 hb1 HR HT0 HB0
  go_wp2_with fail
  go_loopw [8, 9] (fun o i wr => ∃ (k : Nat), k ≤ R ∧ i = .int .i64 k ∧ Hid (wr.ownsRow w1.heap.size 2 1 o (refTo l tn R k).length ((refTo l tn R k).map (Value.int .i64))) ∧ Hid (Turned [] w1 wr)) (fun _ i _ => R - (intOf i).toNat)
  case atStart => exact ⟨0, Nat.zero_le _, rfl, World.ownsRow_nil _ _ _ _, Turned.refl _ _⟩
  case round =>
    obtain ⟨k, hk, rfl, HO, HT⟩ := hrel
    by_cases hlt : k < R
    · obtain ⟨gm, om, rfl, cm1⟩ := HM.out.cell k _ (rowTo_get hlt)
      have hgm : gm < w1.heap.size := block_lt cm1
      have cm0 := cm1
      rw [← HT.out.cell hgm (by simp)] at cm0
      clear cm1
      have hbx : wr.heap[w.heap.size]? = some (.cells #[.int .i64 tn, .int .i64 bk, .int .i64 bn, .int .i64 bz] 54) := by rw [HT.out.block _ (lt_of_heap HB1.out) (by simp)]; exact HB1.out
      have x0 : wr.cell? ⟨w.heap.size, 0, none⟩ = some (.int .i64 tn) := cell_of_heap hbx 0
      have hlen := refTo_length l tn R k
      cases hx : wordAt l ((tn : Int) + ((k : Int) + 1)) with
      | none =>
        have HS := hide (refTo_none hlt hx)
        have hout : (l.length : Int) ≤ (tn : Int) + ((k : Int) + 1) := by rcases wordAt_none hx with h1 | h1 <;> omega
        clear hbx hx
        have htk : (l.length : Int) - (tn : Int) ≤ (k : Int) + 1 := by omega
        have htl2 : (tn : Int) < (l.length : Int) := by omega
        have hdec : decide ((k : Int) + 1 < (l.length : Int) - (tn : Int)) = false := decide_eq_false (by omega)
        clear hout
        go_wp2_with fail
        go_quiet (fail)
        go_wp2_with fail
        go_roundw
        case rel => exact ⟨k + 1, by omega, by go_num, by rw [HS.out]; exact ownsRow_drewN HO.out _, HT.out.drewN _⟩
        case measure => simp [intOf]; omega
      | some x =>
        have HS := hide (refTo_some hlt hx)
        obtain ⟨iw, hiw, hil, hget⟩ := wordAt_some hx
        have hiw2 : iw = tn + (k + 1) := by omega
        subst hiw2
        obtain ⟨gw, ow, rfl, cw1⟩ := (HW.out.turned HT1.out).cell _ x hget
        have hgw : gw < w1.heap.size := block_lt cw1
        have hbw : w.heap.size < w1.heap.size := lt_of_heap HB1.out
        have cw := cw1
        rw [← HT.out.cell hgw (by simp)] at cw
        clear cw1
        have htl2 : (tn : Int) < (l.length : Int) := by omega
        have htk : (k : Int) + 1 < (l.length : Int) - (tn : Int) := by omega
        clear hbx hx hget hiw
        go_wp2_with fail
        go_quiet (fail)
        go_wp2_with fail
        have hsum : IntKind.i64.wrap ((tn : Int) + ((k : Int) + 1)) = (tn : Int) + ((k : Int) + 1) := by rw [IntKind.wrap_i64]; omega
        have hsum0 : (0 : Int) ≤ (tn : Int) + ((k : Int) + 1) := by omega
        have hsum1 : (tn : Int) + ((k : Int) + 1) < (l.length : Int) := by omega
        have hsum2 : ((tn : Int) + ((k : Int) + 1)).toNat = tn + (k + 1) := by omega
        have HO2 := hide (ownsRow_drewN HO.out nq)
        have HT2 := hide (HT.out.drewN nq)
        have y0 : (wr.drewN nq).cell? ⟨w.heap.size, 0, none⟩ = some (.int .i64 tn) := x0
        have y1 : (wr.drewN nq).cell? ⟨gm, om + k, none⟩ = some (.int .i64 ((k : Int) + 1)) := cm0
        have y2 : (wr.drewN nq).cell? ⟨gw, ow + (tn + (k + 1)), none⟩ = some (.int .i64 x) := cw
        have hsz2 : w1.heap.size ≤ (wr.drewN nq).heap.size := HT2.out.size
        clear x0 cm0 cw HO HT
        generalize wr.drewN nq = wq at *
        have HKp : Hid (∀ (w' : World) (o : Obj), (wq.drew.alloc o).grownBy w' u8.ownBlock → w'.cell? ⟨w.heap.size, 0, none⟩ = some (.int .i64 tn) ∧ w'.cell? ⟨gm, om + k, none⟩ = some (.int .i64 ((k : Int) + 1)) ∧ w'.cell? ⟨gw, ow + (tn + (k + 1)), none⟩ = some (.int .i64 x)) := fun w' o hg => by
          have hc : ∀ (b i : Nat) (u : Value), b < w1.heap.size → wq.cell? ⟨b, i, none⟩ = some u → w'.cell? ⟨b, i, none⟩ = some u := fun b i u hb hu => by
            have h1 : w'.heap[b]? = wq.heap[b]? := by
              rw [hg.block b (by simp; omega) (fun e => by have := (HO2.out.lt b e.symm).1; omega)]
              exact Below.heap_alloc wq.drew o b (by show b < wq.heap.size; omega)
            rw [World.cell?_of_block (w := wq) h1]
            exact hu
          exact ⟨hc _ _ _ hbw y0, hc _ _ _ hgm y1, hc _ _ _ hgw y2⟩
        go_region_held3 (fun w' => w'.cell? ⟨w.heap.size, 0, none⟩ = some (.int .i64 tn) ∧ w'.cell? ⟨gm, om + k, none⟩ = some (.int .i64 ((k : Int) + 1)) ∧ w'.cell? ⟨gw, ow + (tn + (k + 1)), none⟩ = some (.int .i64 x)) (first | go_keep | exact HKp.out _ _ hgrow2)
          ((refine step_append_lies _ (by rfl) _ _ 30 (by rfl) w1.heap.size 2 i0 _ 1 8 Tryz.underlying30 hi hz0 hz1 hz2 rfl (by omega) _ _ _ (by rfl) (HO2.out.drew.alloc _) ⟨wq.heap.size, 0, none⟩ 1 1 [.int .i64 x] (by rfl) rfl (cell_one_new _ _ _) (ints_oneCell .i64 [x]) (by omega) (by unfold maxLen; omega) (by omega) (by simp; omega) (wq.heap.size + 1) (by simp) ?_; intro g2 cap2 w2 hown2 hgrow2 hat2 hlt2))
        have HT4 : Hid (Turned [] w1 w2) := (HT2.out.drew.alloc _).grown hgrow2 (fun i hi => .inr (HO2.out.lt i hi).1)
        have HO4 := hide hown2
        clear hown2 hgrow2 hat2 hlt2 HKp y0 y1 y2
        go_wp2_with fail
        go_roundw
        case rel =>
          refine ⟨k + 1, by omega, by go_num, ?_, HT4⟩
          rw [HS.out, show (refTo l tn R k ++ [x]).length = (refTo l tn R k).length + 1 by simp, List.map_append]
          exact HO4
        case measure => simp [intOf]; omega
    · have hkR : k = R := by omega
      subst hkR
      go_wp2_with fail
      go_ret
      exact ⟨_, rfl, ownsRow_mono HO.out HT1.out.size, HT1.out.trans HT.out⟩
end Go.Proofs.YtgbclfhgpkmcnaaGreatDoor

/-
  The document's own object: the place among blocks of an object's address.
-/
namespace Go.Proofs.YtgbclfhgpkmcnaaGreatDoor
open Go.RowKit
set_option linter.unusedVariables false

theorem object_any (ao : Option Addr) (len cap : Nat) (bs : List Blk) (x : Int) (w : World) (h : BlkRd w ao len bs) (hl : len ≤ 65536) :
    Calls Tryz.prog 61 #[.slice ao len cap, .int .i64 x] w fun e w' => ∃ r : Int, e = .returned (.int .i64 r) ∧ ((∃ (i : Nat) (b : Blk), bs[i]? = some b ∧ b.t = x ∧ 0 < b.k ∧ r = i) ∨ (r = -1 ∧ ∀ b, b ∈ bs → ¬ (b.t = x ∧ 0 < b.k))) ∧ w' = w := by
  have H := hide h
  clear h
  go_enter Tryz.func61, Tryz.ntmps61
  go_wp2_with fail
  go_loop [5] (fun i => ∃ k : Nat, k ≤ len ∧ i = .int .i64 k ∧ Hid (∀ b, b ∈ bs.take k → ¬ (b.t = x ∧ 0 < b.k))) (fun i => len - (intOf i).toNat)
  case atStart => exact ⟨0, Nat.zero_le _, rfl, fun b hb => (by simp at hb)⟩
  case round =>
    obtain ⟨k, hk, rfl, HN⟩ := hrel
    by_cases hlt : k < len
    · obtain ⟨b, hb⟩ : ∃ b, bs[k]? = some b := ⟨_, List.getElem?_eq_getElem (by rw [H.out.size]; exact hlt)⟩
      obtain ⟨g, off, rfl, c0, c1, c2, c3⟩ := H.out.cell k b hb
      have HB := hide hb
      clear hb
      have hlti : (k : Int) < (len : Int) := by omega
      have HStep : Hid (¬ (b.t = x ∧ 0 < b.k) → ∀ d, d ∈ bs.take (k + 1) → ¬ (d.t = x ∧ 0 < d.k)) := fun hn d hd => by
        rw [take_snocL HB.out] at hd
        rcases List.mem_append.1 hd with h1 | h1
        · exact HN.out d h1
        · simp at h1; rw [h1]; exact hn
      by_cases hbt : b.t = x
      · by_cases hbk : 0 < b.k
        · have e1 : (b.t == x) = true := by simpa using hbt
          go_wp2_with fail
          go_ret
          exact ⟨_, rfl, .inl ⟨k, b, HB.out, hbt, hbk, rfl⟩, rfl⟩
        · have e1 : (b.t == x) = true := by simpa using hbt
          go_wp2_with fail
          go_round
          case rel => exact ⟨k + 1, by omega, by go_num, HStep.out (fun h => hbk h.2)⟩
          case measure => simp [intOf]; omega
      · have e1 : (b.t == x) = false := by simpa using hbt
        go_wp2_with fail
        go_round
        case rel => exact ⟨k + 1, by omega, by go_num, HStep.out (fun h => hbt h.1)⟩
        case measure => simp [intOf]; omega
    · go_wp2_with fail
      go_ret
      exact ⟨_, rfl, .inr ⟨rfl, fun b hb h1 => Int.not_lt.1 fun h2 => HN.out b (by rw [List.take_of_length_le (by rw [H.out.size]; omega)]; exact hb) ⟨h1, h2⟩⟩, rfl⟩
end Go.Proofs.YtgbclfhgpkmcnaaGreatDoor

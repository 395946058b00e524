/-
  The statement BlocksWalk is proved: for every list of things the law returns true and the list reads as before; no condition.
-/
import Derived.Test.YtkidcbehjhlnkaaBlocksHeapW
namespace Go.Proofs.Ytkidcbehjhlnkaa
open Go.RowKit Go.ChangeShapes Go.WideShapes Go.ChangeAt Go.Maps
set_option linter.unusedVariables false

theorem conn_append : ∀ (bs cs : List Blk) (t u v : Int), conn t bs u → conn u cs v → conn t (bs ++ cs) v
  | [], cs, t, u, v, h, k => by
    have h : t = u := h
    subst h
    exact k
  | b :: bs, cs, t, u, v, ⟨h1, h2, h3⟩, k => ⟨h1, h2, conn_append bs cs _ u v h3 k⟩
theorem Heaped.conn {L : List Int} {top : Int} {bs : List Blk} (h : Heaped L top bs) : conn 1 (bs ++ tailOf top) 500 := by
  refine conn_append bs _ 1 top 500 h.chain.to ?_
  have := h.chain.low
  unfold tailOf
  split
  · refine ⟨rfl, by simp only; omega, ?_⟩
    show top + (500 - top) = 500
    omega
  · show top = 500
    omega

set_option maxRecDepth 100000 in
set_option maxHeartbeats 2000000 in
theorem blocksWalk_walk (ao : Option Addr) (len cap : Nat) (w : World) (h : ThRd w ao len) :
    Calls Try.prog 4 #[.slice ao len cap] w fun e w' => e = .returned (.bool true) ∧ Turned [] w w' := by
  have HTh := hide h
  clear h
  go_enter Try.func4, Try.ntmps4
  go_wp2_with fail
  refine (awake_true _).mono ?_
  rintro e w1 ⟨rfl, ht1⟩
  have HT1 := hide ht1
  clear ht1
  go_wp2_with fail
  refine (heap_any ao len cap w1 (HTh.out.turned HT1.out)).mono ?_
  rintro e w2 ⟨p, q, v, L, top, bs, rfl, hp, hq, hm2, hrow, hh, ht2⟩
  obtain ⟨-, aa, ca, rfl, hat⟩ := ownsRow_any hrow
  have HM2 := hide hm2
  have HAt := hide hat
  have HH := hide hh
  have HT2 := hide (HT1.out.trans ht2)
  clear hm2 hrow hat hh ht2 HT1 HTh
  go_wp2_with fail
  refine (three_any _).mono ?_
  rintro e w3 ⟨g3, rfl, hc3, ht3, -⟩
  have HC3 := hide hc3
  have HM3 := hide (HM2.out.turned ht3 (by simp) (by simp))
  have HT3 := hide (HT2.out.trans ht3)
  have HL3 := hide ht3
  clear hc3 ht3 HM2 HT2
  go_wp2_with fail
  refine (walk_in _ L _ 3 3 threeCs 1 500 w3 (by rw [HH.out.chain.len]; omega) HM3.out.any HC3.out (by rw [HH.out.chain.len]; omega)).mono ?_
  rw [HH.out.walk]
  rintro e w4 ⟨vb, rfl, hown, ht4⟩
  obtain ⟨bo, bcap, rfl, hbr⟩ := ownsRow_blks hown
  simp only [Option.getD_some, Option.isNone_some] at hbr ⊢
  have HBr := hide hbr
  have HT4 := hide (HT3.out.trans ht4)
  have HL4 := hide (HL3.out.trans ht4)
  have HCn := hide HH.out.conn
  have hlow := HH.out.chain.low
  have htl := tailOf_length top
  have hbsl : (bs.length : Int) ≤ 500 := by
    have := (walkOf_facts (by omega) HH.out.walk).few
    simp at this
    omega
  clear hown hbr ht4 HM3 HC3 HT3 HL3
  have hBl : (bs ++ tailOf top).length = bs.length + (tailOf top).length := List.length_append
  obtain ⟨tl, htl0⟩ : ∃ tl, (tailOf top).length = tl := ⟨_, rfl⟩
  rw [htl0] at hBl htl
  obtain ⟨nb, hnb⟩ : ∃ nb, bs.length = nb := ⟨_, rfl⟩
  rw [hnb] at hBl hbsl ⊢
  rw [hBl] at HBr ⊢
  have HN := hide (And.intro hnb htl0)
  have HBL := hide hBl
  clear hnb htl0 hBl
  have h1 : ¬ ((nb : Int) + (tl : Int) < (nb : Int)) := by omega
  have h2 : ¬ ((nb : Int) + 1 < (nb : Int) + (tl : Int)) := by omega
  go_wp2_with fail
  go_loopw [8, 9] (fun x i wr => ∃ (k : Nat) (y : Int), k ≤ nb + tl ∧ i = .int .i64 k ∧ x = .int .i64 y ∧ Hid (conn y ((bs ++ tailOf top).drop k) 500) ∧ 1 ≤ y ∧ y ≤ 500 ∧ Hid (Turned [] w4 wr)) (fun _ i _ => nb + tl - (intOf i).toNat)
  case atStart => exact ⟨0, 1, Nat.zero_le _, rfl, rfl, HCn, by omega, by omega, Turned.refl _ _⟩
  case round =>
    obtain ⟨k, y, hk, rfl, rfl, HC, hy1, hy5, HTr⟩ := hrel
    by_cases hlt : k < nb + tl
    · have hlti : (k : Int) < (nb : Int) + (tl : Int) := by omega
      obtain ⟨b, hb⟩ : ∃ b, (bs ++ tailOf top)[k]? = some b := ⟨_, List.getElem?_eq_getElem (by rw [HBL.out]; exact hlt)⟩
      have hdr : (bs ++ tailOf top).drop k = b :: (bs ++ tailOf top).drop (k + 1) := by
        obtain ⟨h3, h4⟩ := List.getElem?_eq_some_iff.1 hb
        rw [List.drop_eq_getElem_cons h3, h4]
      have hcn := HC.out
      rw [hdr] at hcn
      obtain ⟨c1, c2, c3⟩ := hcn
      have hle := (conn_le _ _ _ c3).1
      have HC2 := hide c3
      obtain ⟨gb, off, rfl, k0, k1, k2, k3⟩ := (HBr.out.turned HTr.out).cell k b hb
      have HBm := hide hb
      obtain ⟨bt, bk, bn, bz⟩ := b
      simp only at *
      subst c1
      clear hdr c3 HC hb
      by_cases hnb2 : k < nb
      · have hnbi : (k : Int) < (nb : Int) := by omega
        have hbk : bs[k]? = some ⟨bt, bk, bn, bz⟩ := by
          have h5 := HBm.out
          rwa [List.getElem?_append_left (by rw [HN.out.1]; exact hnb2)] at h5
        obtain ⟨ga, rfl, -, -, ca0w, -⟩ := HAt.out k (.int .i64 bt) (by rw [List.getElem?_map, hbk]; rfl)
        have ca0 : wr.cell? ⟨ga, k, none⟩ = some (.int .i64 bt) := by rw [(HL4.out.trans HTr.out).cell (block_lt ca0w) (by simp)]; exact ca0w
        have hkc := (HH.out.chain.read _ (List.mem_of_getElem? hbk)).2
        simp only at hkc
        have hk0 : ¬ (bk = 0) := by omega
        have hk0b : (bk == 0) = false := by simp; omega
        have hge : decide ((nb : Int) ≤ (k : Int)) = false := decide_eq_false (by omega)
        have hgeN : decide (nb ≤ k) = false := decide_eq_false (by omega)
        clear ca0w hbk hkc
        go_wp2_with fail
        go_quiet (fail)
        go_wp2_with fail
        go_roundw
        case rel => exact ⟨k + 1, bt + bz, by omega, by go_num, by go_num, HC2, by omega, by omega, HTr.out.drewN _⟩
        case measure => simp [intOf]; omega
      · have hbk : bk = 0 := by
          have h5 := HBm.out
          rw [List.getElem?_append_right (by rw [HN.out.1]; omega)] at h5
          have h6 := List.mem_of_getElem? h5
          unfold tailOf at h6
          split at h6
          · simp at h6
            exact h6.2.1
          · cases h6
        subst hbk
        have hge : decide ((nb : Int) ≤ (k : Int)) = true := decide_eq_true (by omega)
        have hgeN : decide (nb ≤ k) = true := decide_eq_true (by omega)
        have hnbi : decide ((k : Int) < (nb : Int)) = false := decide_eq_false (by omega)
        have hnbn : decide (k < nb) = false := decide_eq_false (by omega)
        have hnbi2 : ¬ ((k : Int) < (nb : Int)) := by omega
        go_wp2_with fail
        go_quiet (fail)
        go_wp2_with fail
        go_roundw
        case rel => exact ⟨k + 1, bt + bz, by omega, by go_num, by go_num, HC2, by omega, by omega, HTr.out.drewN _⟩
        case measure => simp [intOf]; omega
    · have hkn : k = nb + tl := by omega
      subst hkn
      have hy : y = 500 := by
        have h5 := HC.out
        rw [List.drop_eq_nil_of_le (by rw [HBL.out]; exact Nat.le_refl _)] at h5
        exact h5
      subst hy
      have hlti : ¬ ((nb : Int) + (tl : Int) < (nb : Int) + (tl : Int)) := by omega
      go_wp2_with fail
      go_ret
      exact ⟨rfl, HT4.out.trans HTr.out⟩

set_option maxRecDepth 100000 in
theorem blocksWalk_lifted (os : Os) (started : os.Started) (H : Type) (enc : TypeId × Value → H) :
    ReturnsInHanded {} Try.checked os 4 .any (Rows.blocksWalkSpec.pre6 enc Try.prog Try.f4 Rows.blocksWalkRow.domain false) (Rows.blocksWalkSpec.post enc Try.prog Try.f4 false true false false) := by
  refine returnsInHanded_of_change (C := Try.checked) own started (by kernel_rfl) Try.func4
    (ChangeSpec.witness6 (enc := enc) (C := Try.checked) false ⟨#[], #[.slice none 0 0], []⟩ 8 (by kernel_rfl) (by kernel_rfl) (by kernel_rfl) (by kernel_rfl)) ?_
  intro W base args ds gs before hval0 hW hcnd _
  have hval : ∀ (j : Nat) t v, Try.f4.params[j]? = some t → args[j]? = some v → Value.okWide Try.prog W .any base t v := hval0
  have hW' := hW
  obtain ⟨p, q, hA0, hV, rfl, hfz, hnd⟩ := hW
  have hA : DataW.TrodAll enc Try.prog W 0 (fun _ => true) true Try.f4.params.toList args.toList ds p := hA0
  rw [Try.params4] at hA hval
  obtain ⟨v0, vs0, d0, ds0, p0, q0, hargs, rfl, rfl, h0, r0⟩ := trodAll_cons hA
  obtain ⟨rfl, rfl, rfl⟩ := trodAll_nil r0
  obtain rfl : args = #[v0] := by cases args; simp_all
  obtain ⟨rfl, rfl⟩ := trodVars_none hV
  obtain ⟨a0, len0, cap0, rfl⟩ := okWide_slice Try.underlying55 (hval 0 55 v0 rfl rfl)
  have k0 := h0
  have lt0 : ∀ x ∈ p0, x.block < W.heap.size := by obtain ⟨m, hm⟩ := k0; exact DataW.trod_lt m _ _ _ hm
  have w0 := open_things h0
  clear hA0 hval0
  refine (blocksWalk_walk a0 len0 cap0 W w0).mono fun e W' ⟨he, ht⟩ => ?_
  subst he
  have bel : Below W.heap.size W W' := ht.below0
  exact ⟨_, rfl, _, _, _, [], _, [], hW', trodAll_mk1 (shut_bool Try.underlying4 _), (trodAll_cons_mk (Below.trod laidOut (by kernel_rfl) (of_decide_eq_true (by kernel_rfl)) k0 bel lt0) trodAll_mk0), rfl, bel.frame _, fun h => by cases h⟩

theorem blocksWalk_over : Rows.blocksWalkRow.holds Try.pinned (OpenSpec.ofChange Rows.blocksWalkSpec) :=
  OpenClaim.holds_of_wide 4 Try.f4 rfl rfl rfl rfl rfl rfl rfl ⟨rfl, rfl, rfl, rfl, rfl⟩ rfl rfl rfl rfl rfl (by kernel_rfl) Try.func4 (by kernel_rfl)
    (of_decide_eq_true (by kernel_rfl)) (by unfold Func.isWrapper; first | (rw [if_pos (by decide +kernel)]; kernel_rfl) | (rw [if_neg (by decide +kernel)]; exact ⟨rfl, rfl⟩))
    (fun os started H enc _ => blocksWalk_lifted os started H enc)

theorem blocksWalk_holds : Rows.BlocksWalkSaid := blocksWalk_over
end Go.Proofs.Ytkidcbehjhlnkaa

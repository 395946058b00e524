/-
  The statement BlocksReach is proved: for every list of things, all roots and every number the law returns true and its arguments read as before; no condition.
-/
import Derived.Test.YtkidcbehjhlnkaaBlocksReachP
namespace Go.Proofs.Ytkidcbehjhlnkaa
open Go.RowKit Go.ChangeShapes Go.WideShapes Go.ChangeAt Go.Maps
set_option linter.unusedVariables false

/-- The roots so far: a row of the call's own, of addresses of objects. -/
structure Roots (w2 wr : World) (bs : List Blk) (v : Value) (rl : List Int) : Prop where
  row : wr.ownsRow w2.heap.size 2 1 v rl.length (rl.map (Value.int .i64))
  each : ∀ x, x ∈ rl → ∃ b, b ∈ bs ∧ x = b.t
  t : Turned [] w2 wr
theorem Roots.next {w2 wr w5 : World} {bs : List Blk} {v v' : Value} {rl : List Int} {c : Blk} {o : Obj} (h : Roots w2 wr bs v rl) (hc : c ∈ bs) (hown : w5.ownsRow w2.heap.size 2 1 v' (rl.length + 1) (rl.map (Value.int .i64) ++ [.int .i64 c.t])) (hg : (wr.alloc o).grownBy w5 v.ownBlock) : Roots w2 w5 bs v' (rl ++ [c.t]) := by
  refine ⟨by simpa using hown, fun x hx => ?_, (h.t.alloc o).grown hg (fun i hi => .inr (h.row.lt i hi).1)⟩
  rcases List.mem_append.1 hx with h1 | h1
  · exact h.each x h1
  · simp at h1
    exact ⟨c, hc, h1⟩

set_option maxRecDepth 100000 in
set_option maxHeartbeats 4000000 in
theorem blocksReach_walk (ao : Option Addr) (len cap : Nat) (ro : Option Addr) (rn rcap : Nat) (zs : List Int) (more : Int) (w : World) (h : ThRd w ao len) (hr : IsRow .i64 w ro rn rcap zs) (hmore : (Lit.int .i64 more).wf = true) :
    Calls Try.prog 5 #[.slice ao len cap, .slice ro rn rcap, .int .i64 more] w fun e w' => e = .returned (.bool true) ∧ Turned [] w w' := by
  have hm64 := wf_range hmore
  have HTh := hide h
  have HRs := hide (isRow_ird hr)
  have hrn := (isRow_ird hr).room
  obtain ⟨i0, hi, hi0⟩ := Option.map_eq_some_iff.1 Try.info2
  simp only [Prod.mk.injEq] at hi0
  obtain ⟨hz0, hz1, hz2⟩ := hi0
  clear h hr hmore
  go_enter Try.func5, Try.ntmps5
  go_wp2_with fail
  refine (awake_true _).mono ?_
  rintro e w1 ⟨rfl, ht1⟩
  have HT1 := hide ht1
  clear ht1
  go_wp2_with fail
  refine (heap_any ao len cap w1 (HTh.out.turned HT1.out)).mono ?_
  rintro e w2 ⟨p, q, v, L, top, bs, rfl, hp, hq, hm2, hrow, hh, ht2⟩
  obtain ⟨-, aa, ca, rfl, hat⟩ := ownsRow_any hrow
  have HM2 := hide hm2
  have HAt : Hid (∀ (W : World) (i : Nat) (b : Blk), Turned [] w2 W → bs[i]? = some b → ∃ g, aa = some ⟨g, 0, none⟩ ∧ W.cell? ⟨g, i, none⟩ = some (.int .i64 b.t)) := fun W i b hW hb => by
    obtain ⟨g, h1, -, -, h2, -⟩ := hat i (.int .i64 b.t) (by rw [List.getElem?_map, hb]; rfl)
    exact ⟨g, h1, by rw [hW.cell (block_lt h2) (by simp)]; exact h2⟩
  have HH := hide hh
  have HT2 := hide (HT1.out.trans ht2)
  have hbsl : (bs.length : Int) ≤ 500 := by
    have := (walkOf_facts (by omega) hh.walk).few
    simp at this
    omega
  clear hm2 hrow hat hh ht2 HT1 HTh
  obtain ⟨nb, hnb⟩ : ∃ nb, bs.length = nb := ⟨_, rfl⟩
  rw [hnb] at hbsl ⊢
  have HN := hide hnb
  clear hnb
  by_cases hnb0 : nb = 0
  · subst hnb0
    go_wp2_with fail
    go_ret
    exact ⟨rfl, HT2.out⟩
  · have hnbp : 0 < nb := by omega
    have hnbi : ((nb : Int) == 0) = false := by simp; omega
    have hnbz : ¬ ((nb : Int) = 0) := by omega
    go_upto_block 0 with fail
    go_cut [10, 11, 12] (fun r _ _ wc => ∃ rl : List Int, rl.length ≤ 20 ∧ Aside (Roots w2 wc bs r rl))
    case first =>
     go_wp2_with fail
     go_loopg [10, 11] 20 (fun g r i wr => ∃ (j : Nat) (rl : List Int), j ≤ rn ∧ j ≤ 20 ∧ g = 20 - j ∧ i = .int .i64 j ∧ Aside (Roots w2 wr bs r rl) ∧ Aside (rl.length = j))
     case atStart => exact ⟨0, [], Nat.zero_le _, Nat.zero_le _, rfl, rfl, ⟨World.ownsRow_nil _ _ _ _, fun x hx => (by cases hx), Turned.refl _ _⟩, rfl⟩
     case round =>
       obtain ⟨j, rl, hj, hj20, hg, rfl, HR, HRl⟩ := hrel
       by_cases hlt : j < rn
       · by_cases hlt2 : j < 20
         · obtain ⟨z, hz⟩ : ∃ z, (zs.take rn)[j]? = some z := ⟨_, List.getElem?_eq_getElem (by rw [HRs.out.size]; exact hlt)⟩
           obtain ⟨rb, roff, rfl, rc⟩ := (HRs.out.turned (HT2.out.trans HR.out.t)).cell j z hz
           have hz64 := HRs.out.inn z (List.mem_of_getElem? hz)
           unfold In64 at hz64
           have hlti : (j : Int) < (rn : Int) := by omega
           clear hz
           go_upto_if 50 with fail
           go_cut [12] (fun kv wc => ∃ y : Nat, kv = .int .i64 y ∧ y ≤ 9223372036854775807 ∧ wc = wr)
           case first =>
             by_cases hneg : z < 0
             · go_wp2_with fail
               go_meet
               case rel =>
                 obtain ⟨y, hy⟩ := Int.eq_ofNat_of_zero_le (show 0 ≤ -(z + 1) by omega)
                 exact ⟨y, by rw [← hy], by omega, rfl⟩
             · go_wp2_with fail
               go_meet
               case rel =>
                 obtain ⟨y, hy⟩ := Int.eq_ofNat_of_zero_le (show 0 ≤ z by omega)
                 exact ⟨y, by rw [hy], by omega, rfl⟩
           case rest =>
             obtain ⟨y, rfl, hy, rfl⟩ := hcut
             clear rc hz64
             obtain ⟨c, hc⟩ : ∃ c, bs[y % nb]? = some c := ⟨_, List.getElem?_eq_getElem (by rw [HN.out]; exact Nat.mod_lt _ hnbp)⟩
             obtain ⟨ga, rfl, ca0⟩ := HAt.out wc _ c HR.out.t hc
             have HCm := hide (List.mem_of_getElem? hc)
             have hm0 : 0 ≤ (y : Int) % (nb : Int) := Int.emod_nonneg _ (by omega)
             have hm1 : (y : Int) % (nb : Int) < (nb : Int) := Int.emod_lt_of_pos _ (by omega)
             have hrl : rl.length ≤ 20 := by rw [HRl.out]; omega
             have hsz := HR.out.t.size
             clear hc
             go_wp2_with (at_builtin; refine wpList_append_own _ rfl _ _ 24 rfl w2.heap.size 2 i0 _ 1 8 Try.underlying24 hi hz0 hz1 hz2 rfl (by decide) _ _ _ rfl (HR.out.row.alloc _) ⟨wc.heap.size, 0, none⟩ 1 1 [.int .i64 c.t] rfl rfl (cells_new _ _ _ _ rfl) (ints_oneCell .i64 [c.t]) (by unfold maxLen; omega) (by omega) (by simp; omega) ?_; intro v' w5 hown' hgrow5 hnil5; have HO5 := hide hown'; have HG5 : Hid (World.grownBy _ w5 u10.ownBlock) := hide hgrow5; clear hown' hgrow5 hnil5)
             go_roundg (20 - (j + 1))
             case measure => omega
             case rel => exact ⟨j + 1, _, by omega, by omega, rfl, by go_num, HR.out.next HCm.out HO5.out HG5.out, by show _ = _; rw [List.length_append, HRl.out]; rfl⟩
         · go_wp2_with fail
           go_meet
           case rel => exact ⟨rl, by rw [HRl.out]; omega, HR⟩
       · go_wp2_with fail
         go_meet
         case rel => exact ⟨rl, by rw [HRl.out]; omega, HR⟩
    case rest =>
      obtain ⟨rl, hrl, HR⟩ := hcut
      obtain ⟨-, ar, cr, rfl, -⟩ := ownsInts_any HR.out.row
      go_wp2_with fail
      refine (three_any _).mono ?_
      rintro e w3 ⟨g3, rfl, hc3, ht3, -⟩
      have hR3 : Roots w2 w3 bs (.slice ar rl.length cr) rl := ⟨ownsRow_keep HR.out.row (fun i hi => ht3.block i (HR.out.row.lt i hi).2 (by simp)), HR.out.each, HR.out.t.trans ht3⟩
      have hAll : AllIn rl := fun x hx => by
        obtain ⟨b, hb, rfl⟩ := HR.out.each x hx
        have h1 := (conn_le _ _ _ HH.out.chain.to).2 b hb
        have h2 := HH.out.chain.low
        unfold In64
        omega
      obtain ⟨ar', cr', hv', hird⟩ := told64_ird hR3.row (by omega) hAll
      injection hv' with e1 e2 e3
      subst e1 e3
      have HRe := hide (HH.out.reach (HM2.out.turned hR3.t (by simp) (by simp)) hc3 ar rl.length cr rl hird HR.out.each)
      have HR3 := hide hR3
      clear hc3 ht3 hR3 hAll hird HR
      go_wp2_with fail
      refine HRe.out.mono ?_
      rintro e w4 ⟨aA, cA, RA, rfl, hirdA, hRA, ht4, hblkA⟩
      have HBA : Hid (∀ a, aA = some a → some a.block ≠ (Value.slice ar rl.length cr).ownBlock) := fun a ha e => by
        have h1 := hblkA a ha
        have h2 := (HR3.out.row.lt _ e.symm).2
        omega
      have HIA := hide hirdA
      have HRA := hide hRA
      have hR4 : Roots w2 w4 bs (.slice ar rl.length cr) rl := ⟨ownsRow_keep HR3.out.row (fun i hi => ht4.block i (HR3.out.row.lt i hi).2 (by simp)), HR3.out.each, HR3.out.t.trans ht4⟩
      have HR4 := hide hR4
      clear hirdA hRA ht4 hR4 HRe HR3 hblkA
      go_upto_if 73 with fail
      go_cut [15] (fun kv wc => ∃ y : Nat, kv = .int .i64 y ∧ y ≤ 9223372036854775807 ∧ wc = w4)
      case first =>
        by_cases hneg : more < 0
        · go_wp2_with fail
          go_meet
          case rel =>
            obtain ⟨y, hy⟩ := Int.eq_ofNat_of_zero_le (show 0 ≤ -(more + 1) by omega)
            exact ⟨y, by rw [← hy], by omega, rfl⟩
        · go_wp2_with fail
          go_meet
          case rel =>
            obtain ⟨y, hy⟩ := Int.eq_ofNat_of_zero_le (show 0 ≤ more by omega)
            exact ⟨y, by rw [hy], by omega, rfl⟩
      case rest =>
        obtain ⟨y, rfl, hy, hwc⟩ := hcut
        subst hwc
        obtain ⟨c, hc⟩ : ∃ c, bs[y % nb]? = some c := ⟨_, List.getElem?_eq_getElem (by rw [HN.out]; exact Nat.mod_lt _ hnbp)⟩
        obtain ⟨ga, rfl, ca0⟩ := HAt.out wc _ c HR4.out.t hc
        have HCm := hide (List.mem_of_getElem? hc)
        have hm0 : 0 ≤ (y : Int) % (nb : Int) := Int.emod_nonneg _ (by omega)
        have hm1 : (y : Int) % (nb : Int) < (nb : Int) := Int.emod_lt_of_pos _ (by omega)
        have hsz := HR4.out.t.size
        clear hc hm64
        go_wp2_with (at_builtin; refine wpList_append_own _ rfl _ _ 24 rfl w2.heap.size 2 i0 _ 1 8 Try.underlying24 hi hz0 hz1 hz2 rfl (by decide) _ _ _ rfl (HR4.out.row.alloc _) ⟨wc.heap.size, 0, none⟩ 1 1 [.int .i64 c.t] rfl rfl (cells_new _ _ _ _ rfl) (ints_oneCell .i64 [c.t]) (by unfold maxLen; omega) (by omega) (by simp; omega) ?_; intro v' w5 hown' hgrow5 hnil5; have HR5 := hide (HR4.out.next HCm.out hown' (by exact hgrow5)); have HIA5 := hide (HIA.out.grown hgrow5 HBA.out); obtain ⟨-, ar5, cr5, rfl, -⟩ := ownsInts_any HR5.out.row; clear hown' hgrow5 hnil5)
        go_wp2_with fail
        refine (three_any _).mono ?_
        rintro e w6 ⟨g6, rfl, hc6, ht6, -⟩
        have hlen6 : (rl ++ [c.t]).length = rl.length + 1 := by simp
        have hR5b := HR5.out
        rw [hlen6] at hR5b
        have hR6 : Roots w2 w6 bs (.slice ar5 (rl.length + 1) cr5) (rl ++ [c.t]) := ⟨ownsRow_keep hR5b.row (fun i hi => ht6.block i (hR5b.row.lt i hi).2 (by simp)), hR5b.each, hR5b.t.trans ht6⟩
        have hAll : AllIn (rl ++ [c.t]) := fun x hx => by
          obtain ⟨b, hb, rfl⟩ := hR6.each x hx
          have h1 := (conn_le _ _ _ HH.out.chain.to).2 b hb
          have h2 := HH.out.chain.low
          unfold In64
          omega
        obtain ⟨ar', cr', hv', hird⟩ := told64_ird hR6.row (by simp; omega) hAll
        injection hv' with e1 e2 e3
        subst e1 e3
        rw [hlen6] at hird
        have HRe := hide (HH.out.reach (HM2.out.turned hR6.t (by simp) (by simp)) hc6 ar5 (rl.length + 1) cr5 (rl ++ [c.t]) hird hR6.each)
        have HIA6 := hide (HIA5.out.turned ht6)
        have HIR6 := hide hird
        have HT6 := hide hR6.t
        have HRo := hide hR6.each
        clear hc6 ht6 hR6 hAll hird hlen6 hR5b HR5 HIA5 e2
        go_wp2_with fail
        refine HRe.out.mono ?_
        rintro e w7 ⟨aB, cB, RB, rfl, hirdB, hRB, ht7, -⟩
        have HIB := hide hirdB
        have HIA7 := hide (HIA6.out.turned ht7)
        have HIR7 := hide (HIR6.out.turned ht7)
        have HT7 := hide (HT6.out.trans ht7)
        have HSub : Hid (∀ x, x ∈ RA → x ∈ RB) := fun x hx => (hRB x).2 (((HRA.out x).1 hx).mono (fun r hr => by simp [hr]))
        have HAB : Hid (∀ x, x ∈ toldOf (bs ++ tailOf top) RA → x ∈ toldOf (bs ++ tailOf top) RB) := fun x hx => by
          obtain ⟨b, h1, h2, h3⟩ := toldOf_mem.1 hx
          exact toldOf_mem.2 ⟨b, h1, HSub.out _ h2, h3⟩
        have hAB := toldOf_grow (bs ++ tailOf top) HSub.out
        have hBl : ((toldOf (bs ++ tailOf top) RB).length : Int) ≤ 500 := by
          have h1 := toldOf_length (bs ++ tailOf top) RB
          have h2 := (walkOf_facts (by omega) HH.out.walk).few
          omega
        have HRB := hide hRB
        have HLast : Hid (c.t ∈ toldOf (bs ++ tailOf top) RB) := toldOf_mem.2 ⟨c, by simp [HCm.out], (hRB _).2 (.root (by simp) (by have := (conn_le _ _ _ HH.out.chain.to).2 c HCm.out; omega)), rfl⟩
        have HCl : Hid (∀ b, b.t ∈ toldOf (bs ++ tailOf top) RB → b ∈ bs → ∀ y, y ∈ refWords L threeCs b → y ≠ 0 → y ∈ toldOf (bs ++ tailOf top) RB) := fun b h1 h2 y h3 h4 => by
          obtain ⟨b', g1, g2, g3⟩ := toldOf_mem.1 h1
          rw [← g3] at g2
          have h5 : Rch (objOf (bs ++ tailOf top)) (refWords L threeCs) (rl ++ [c.t]) y := .next ((hRB _).1 g2) (HH.out.obj h2) h3 h4
          have h6 : y ∈ RB := (hRB _).2 h5
          rcases HH.out.chain.refs b h2 y h3 with h7 | ⟨d, h7, h8⟩
          · exact absurd h7 h4
          · exact toldOf_mem.2 ⟨d, by simp [h7], by rw [← h8]; exact h6, h8⟩
        have HMem : Hid (∀ x, x ∈ toldOf (bs ++ tailOf top) RB → ∃ b, b ∈ bs ∧ x = b.t) := fun x hx => by
          obtain ⟨b, h1, h2, rfl⟩ := toldOf_mem.1 hx
          obtain ⟨d, h3, h4⟩ := HH.out.closed HRo.out ((hRB _).1 h2)
          exact ⟨d, h3, h4⟩
        generalize hLA : toldOf (bs ++ tailOf top) RA = LA at *
        generalize hLB : toldOf (bs ++ tailOf top) RB = LB at *
        obtain ⟨nA, hnA⟩ : ∃ nA, LA.length = nA := ⟨_, rfl⟩
        obtain ⟨nB, hnB⟩ : ∃ nB, LB.length = nB := ⟨_, rfl⟩
        rw [hnA] at HIA7 hAB ⊢
        rw [hnB] at HIB hAB hBl ⊢
        have hABi : ¬ ((nB : Int) < (nA : Int)) := by omega
        have hABd : decide (nB < nA) = false := decide_eq_false (by omega)
        have hABe : decide ((nB : Int) < (nA : Int)) = false := decide_eq_false (by omega)
        clear hirdB hRB ht7 HRe HIA6 HIR6 HT6 HSub HRA HRB hLA hLB hnA hnB HIA ca0 hm0 hm1
        go_wp2_with fail
        go_loopw [18, 19] (fun i _ wr => ∃ k : Nat, k ≤ nA ∧ i = .int .i64 k ∧ Hid (wr = w7)) (fun i _ _ => nA - (intOf i).toNat)
        case atStart => exact ⟨0, Nat.zero_le _, rfl, rfl⟩
        case round =>
          obtain ⟨k, hk, rfl, Hw⟩ := hrel
          cases Hw.out
          by_cases hlt : k < nA
          · have hlti : (k : Int) < (nA : Int) := by omega
            obtain ⟨x, hx⟩ : ∃ x, LA[k]? = some x := ⟨_, List.getElem?_eq_getElem (by rw [HIA7.out.size]; exact hlt)⟩
            obtain ⟨ba, offa, rfl, hcx⟩ := HIA7.out.cell k x hx
            have HIn := hide (in_any aB nB cB LB x w7 HIB.out)
            rw [decide_eq_true (HAB.out x (List.mem_of_getElem? hx))] at HIn
            clear hx
            go_wp2_with fail
            refine HIn.out.mono ?_
            rintro e w8 ⟨rfl, hw8⟩
            subst hw8
            go_wp2_with fail
            go_roundw
            case rel => exact ⟨k + 1, by omega, by go_num, by first | exact rfl | exact trivial⟩
            case measure => simp [intOf]; omega
          · go_wp2_with fail
            go_loopw [20] (fun i wr => ∃ k : Nat, k ≤ nB ∧ i = .int .i64 k ∧ Hid (Turned [] w7 wr)) (fun i _ => nB - (intOf i).toNat)
            case atStart => exact ⟨0, Nat.zero_le _, rfl, Turned.refl _ _⟩
            case round =>
              obtain ⟨k2, hk2, rfl, HTr⟩ := hrel
              by_cases hlt2 : k2 < nB
              · have hlti2 : (k2 : Int) < (nB : Int) := by omega
                have hk0 : (0 : Int) ≤ (k2 : Int) := by omega
                obtain ⟨x, hx⟩ : ∃ x, LB[k2]? = some x := ⟨_, List.getElem?_eq_getElem (by rw [HIB.out.size]; exact hlt2)⟩
                obtain ⟨ga, offb, rfl, hcw⟩ := HIB.out.cell k2 x hx
                have hgw : ga < w7.heap.size := block_lt hcw
                obtain ⟨b, hbm, hxb⟩ := HMem.out x (List.mem_of_getElem? hx)
                have HBin : Hid (b.t ∈ LB) := by show _ ∈ _; rw [← hxb]; exact List.mem_of_getElem? hx
                have hrd := (HH.out.chain.read b hbm).1
                have hbf := readOf_some hrd
                have HBm := hide hbm
                have HRd := hide hrd
                have HBn : Hid (In64 b.n) := by
                  obtain ⟨x, _, _, _, hx⟩ := hbf.2.2.2.2.2.2.2
                  show In64 b.n
                  rw [hx]
                  exact part_in64 x
                have hb0 : 0 ≤ b.t ∧ b.t ≤ 500 := by have := HH.out.chain.len; omega
                have HNk : Hid ((refWords L threeCs b).length ≤ 65536) := by
                  have h1 := refWords_length L threeCs b
                  have h2 := refs_within hbf.2.2.2.2.2.1
                  have h3 := hbf.2.2.2.2.2.2.1
                  have h4 := HH.out.chain.len
                  show _ ≤ _
                  omega
                have HAl : Hid (AllIn (refWords L threeCs b)) := fun y hy => by
                  obtain ⟨i, _, _, h⟩ := refWords_mem hy
                  obtain ⟨_, _, _, h2⟩ := wordAt_some h
                  exact HH.out.chain.inn y (List.mem_of_getElem? h2)
                subst hxb
                clear hbf hrd hbm hx
                obtain ⟨bt, bk, bn, bz⟩ := b
                simp only at *
                obtain ⟨tn, rfl⟩ := Int.eq_ofNat_of_zero_le hb0.1
                have hsz7 := HTr.out.size
                have hne0 : ¬ (ga = wr.heap.size) := by omega
                have hne1 : ¬ (wr.heap.size = ga) := by omega
                have HAw : Hid (∀ W, Turned [] wr W → Mem W p q L 0 ∧ W.cell? ⟨ga, offb + k2, none⟩ = some (.int .i64 tn)) := fun W ht => ⟨HM2.out.turned ((HT7.out.trans HTr.out).trans ht) (by simp) (by simp), by rw [(HTr.out.trans ht).cell hgw (by simp)]; exact hcw⟩
                have ca0 := (HAw.out wr (Turned.refl _ _)).2
                go_upto_region 30 with fail
                go_cut [21, 22] (fun pb eb wc => ∃ bb : Nat, pb = .pointer (some ⟨bb, 0, none⟩) ∧ eb = .int .i64 0 ∧ Aside (Turned [] wr wc ∧ wr.heap.size ≤ bb ∧ wc.heap[bb]? = some (.cells #[.int .i64 tn, .int .i64 bk, .int .i64 bn, .int .i64 bz] 38)))
                case first =>
                  have HZ := hide (fun W => heap_alloc_new W (.cells #[.int .i64 0, .int .i64 0, .int .i64 0, .int .i64 0] 38))
                  go_region_held3 (fun w' => w'.cell? ⟨ga, offb + k2, none⟩ = some (.int .i64 tn)) (go_keep)
                    (first
                      | (go_at_call 23; refine (three_any wr.drew).mono ?_; rintro e w3 ⟨g3, rfl, hc3, ht3, -⟩; have HC3 := hide hc3; have HT3 := hide ((Turned.refl [] wr).drew.trans ht3); have ca3 := (HAw.out _ HT3.out).2; have hsz3 := HT3.out.size; have hne3 : ¬ (ga = w3.heap.size) := (by omega); have hne4 : ¬ (w3.heap.size = ga) := (by omega); clear hc3 ht3)
                      | (go_at_call 23; refine (three_any (wr.drew.alloc (.cells #[.int .i64 0, .int .i64 0, .int .i64 0, .int .i64 0] 38))).mono ?_; rintro e w5 ⟨g5, rfl, hc5, ht5, -⟩; have HC5 := hide hc5; have HT5 := hide (((Turned.refl [] wr).drew.alloc (.cells #[.int .i64 0, .int .i64 0, .int .i64 0, .int .i64 0] 38)).trans ht5); have ca5 := (HAw.out _ HT5.out).2; have HB5 : Hid (w5.heap[wr.heap.size]? = some (.cells #[.int .i64 0, .int .i64 0, .int .i64 0, .int .i64 0] 38)) := (by show _ = _; rw [ht5.block wr.heap.size (by simp) (by simp)]; exact HZ.out wr.drew); clear hc5 ht5)
                      | (go_at_call 13; refine (read_some _ L _ 3 3 threeCs tn ⟨tn, bk, bn, bz⟩ w3 (by rw [HH.out.chain.len]; omega) (HAw.out _ HT3.out).1.any HC3.out HRd.out).mono ?_; rintro e w4 ⟨rfl, ht4⟩; have HT4 := hide (HT3.out.trans ht4); have ca4 := (HAw.out _ HT4.out).2; have hsz4 := HT4.out.size; clear ht4)
                      | (go_at_call 13; refine (read_some _ L _ 3 3 threeCs tn ⟨tn, bk, bn, bz⟩ (w3.alloc (.cells #[.int .i64 0, .int .i64 0, .int .i64 0, .int .i64 0] 38)) (by rw [HH.out.chain.len]; omega) (HAw.out _ (HT3.out.alloc _)).1.any (HC3.out.turned ((Turned.refl [] w3).alloc _)) HRd.out).mono ?_; rintro e w6 ⟨rfl, ht6⟩; have HT6 := hide ((HT3.out.alloc (.cells #[.int .i64 0, .int .i64 0, .int .i64 0, .int .i64 0] 38)).trans ht6); have ca6 := (HAw.out _ HT6.out).2; have hb6 : w6.heap[w3.heap.size]? = some (.cells #[.int .i64 0, .int .i64 0, .int .i64 0, .int .i64 0] 38) := (by rw [ht6.block w3.heap.size (by simp) (by simp)]; exact HZ.out w3); have c60 := cell_of_heap hb6 0; have c61 := cell_of_heap hb6 1; have c62 := cell_of_heap hb6 2; have c63 := cell_of_heap hb6 3; have f60 : w6.frozen? ⟨w3.heap.size, 0, none⟩ = false := (by simp [World.frozen?, hb6]); have f61 : w6.frozen? ⟨w3.heap.size, 1, none⟩ = false := (by simp [World.frozen?, hb6]); have f62 : w6.frozen? ⟨w3.heap.size, 2, none⟩ = false := (by simp [World.frozen?, hb6]); have f63 : w6.frozen? ⟨w3.heap.size, 3, none⟩ = false := (by simp [World.frozen?, hb6]); have HB6 := hide hb6; clear ht6 hb6)
                      | (go_at_call 13; refine (read_some _ L _ 3 3 threeCs tn ⟨tn, bk, bn, bz⟩ w5 (by rw [HH.out.chain.len]; omega) (HAw.out _ HT5.out).1.any HC5.out HRd.out).mono ?_; rintro e w7b ⟨rfl, ht7⟩; have HT7b := hide (HT5.out.trans ht7); have ca7 := (HAw.out _ HT7b.out).2; have hb7 : w7b.heap[wr.heap.size]? = some (.cells #[.int .i64 0, .int .i64 0, .int .i64 0, .int .i64 0] 38) := (by rw [ht7.block wr.heap.size (lt_of_heap HB5.out) (by simp)]; exact HB5.out); have c70 := cell_of_heap hb7 0; have c71 := cell_of_heap hb7 1; have c72 := cell_of_heap hb7 2; have c73 := cell_of_heap hb7 3; have f70 : w7b.frozen? ⟨wr.heap.size, 0, none⟩ = false := (by simp [World.frozen?, hb7]); have f71 : w7b.frozen? ⟨wr.heap.size, 1, none⟩ = false := (by simp [World.frozen?, hb7]); have f72 : w7b.frozen? ⟨wr.heap.size, 2, none⟩ = false := (by simp [World.frozen?, hb7]); have f73 : w7b.frozen? ⟨wr.heap.size, 3, none⟩ = false := (by simp [World.frozen?, hb7]); have HB7 := hide hb7; clear ht7 hb7))
                  · go_wp2_with fail
                    go_meet
                    case rel => exact ⟨w4.heap.size, rfl, rfl, HT4.out.alloc _, HT4.out.size, heap_alloc_new _ _⟩
                  · go_wp2_with fail
                    go_meet
                    case rel => exact ⟨w3.heap.size, rfl, rfl, HT6.out.four hsz3 _ _ _ _, hsz3, four_set HB6.out _ _ _ _⟩
                  · go_wp2_with fail
                    go_meet
                    case rel => exact ⟨wr.heap.size, rfl, rfl, HT7b.out.four (Nat.le_refl _) _ _ _ _, Nat.le_refl _, four_set HB7.out _ _ _ _⟩
                case rest =>
                  obtain ⟨bb, rfl, rfl, HA1⟩ := hcut
                  obtain ⟨wb, hwb⟩ : ∃ wb, wb = wc := ⟨_, rfl⟩
                  subst hwb
                  have hb1 := HA1.out.2.2
                  have x0 := cell_of_heap hb1 0
                  have x1 := cell_of_heap hb1 1
                  have x2 := cell_of_heap hb1 2
                  have x3 := cell_of_heap hb1 3
                  have HMb := hide (HAw.out _ HA1.out.1).1
                  have hbbl := lt_of_heap hb1
                  have HTb := hide (HTr.out.trans HA1.out.1)
                  have HMw := hide (HMem.out)
                  have HLn := hide HH.out.chain.len
                  have HLi := hide HH.out.chain.inn
                  clear HAw ca0 hb1 HA1
                  go_upto_region 31 with fail
                  go_cut [23] (fun vy wd => ∃ (ay : Option Addr) (ny cy : Nat), vy = .slice ay ny cy ∧ Aside (IRd wd ay ny (refWords L threeCs ⟨tn, bk, bn, bz⟩) ∧ Turned [] wb wd))
                  case first =>
                    go_region_held3 (fun w' => w'.cell? ⟨bb, 0, none⟩ = some (.int .i64 tn) ∧ w'.cell? ⟨bb, 1, none⟩ = some (.int .i64 bk) ∧ w'.cell? ⟨bb, 2, none⟩ = some (.int .i64 bn) ∧ w'.cell? ⟨bb, 3, none⟩ = some (.int .i64 bz)) (go_keep)
                      (first
                        | (go_at_call 23; refine (three_any wb.drew).mono ?_; rintro e w3 ⟨g3, rfl, hc3, ht3, -⟩; have HC3 := hide hc3; have HT3 := hide ((Turned.refl [] wb).drew.trans ht3); have y0 : w3.cell? ⟨bb, 0, none⟩ = some (.int .i64 tn) := (by rw [ht3.cell hbbl (by simp)]; exact x0); have y1 : w3.cell? ⟨bb, 1, none⟩ = some (.int .i64 bk) := (by rw [ht3.cell hbbl (by simp)]; exact x1); have y2 : w3.cell? ⟨bb, 2, none⟩ = some (.int .i64 bn) := (by rw [ht3.cell hbbl (by simp)]; exact x2); have y3 : w3.cell? ⟨bb, 3, none⟩ = some (.int .i64 bz) := (by rw [ht3.cell hbbl (by simp)]; exact x3); clear hc3 ht3)
                        | (go_at_call 15; refine (brefs_any _ L _ 3 3 threeCs ⟨tn, bk, bn, bz⟩ w3 (by rw [HLn.out]; omega) HLi.out (by constructor <;> (simp only []; omega)) HBn.out (HMb.out.turned HT3.out (by simp) (by simp)).any HC3.out).mono ?_; rintro e w4 ⟨vy, rfl, hown4, ht4⟩; obtain ⟨ay, cy, rfl, hird4⟩ := told64_ird hown4 HNk.out HAl.out; have HI4 := hide hird4; have HT4 := hide (HT3.out.trans ht4); have z0 : w4.cell? ⟨bb, 0, none⟩ = some (.int .i64 tn) := (by rw [ht4.cell (block_lt y0) (by simp)]; exact y0); have z1 : w4.cell? ⟨bb, 1, none⟩ = some (.int .i64 bk) := (by rw [ht4.cell (block_lt y1) (by simp)]; exact y1); have z2 : w4.cell? ⟨bb, 2, none⟩ = some (.int .i64 bn) := (by rw [ht4.cell (block_lt y2) (by simp)]; exact y2); have z3 : w4.cell? ⟨bb, 3, none⟩ = some (.int .i64 bz) := (by rw [ht4.cell (block_lt y3) (by simp)]; exact y3); clear hown4 ht4 hird4))
                    go_wp2_with fail
                    go_meet
                    case rel => exact ⟨ay, _, cy, rfl, HI4.out, HT4.out⟩
                  case rest =>
                    obtain ⟨ay, ny, cy, rfl, HA2⟩ := hcut
                    obtain ⟨wd, hwd⟩ : ∃ wd, wd = wc := ⟨_, rfl⟩
                    subst hwd
                    have HTd := hide (HTb.out.trans HA2.out.2)
                    have HID := hide (HIB.out.turned HTd.out)
                    have HIY := hide HA2.out.1
                    have hny := HA2.out.1.room
                    clear HA2 HTb HMb x0 x1 x2 x3 hbbl hcw HTr hsz7 hne0 hne1
                    go_wp2_with fail
                    go_loopw [24] (fun i wr => ∃ k : Nat, k ≤ ny ∧ i = .int .i64 k ∧ Hid (wr = wd)) (fun i _ => ny - (intOf i).toNat)
                    case atStart => exact ⟨0, Nat.zero_le _, rfl, rfl⟩
                    case round =>
                      obtain ⟨j, hj, rfl, Hw⟩ := hrel
                      cases Hw.out
                      by_cases hltj : j < ny
                      · have hltji : (j : Int) < (ny : Int) := by omega
                        obtain ⟨z, hz⟩ : ∃ z, (refWords L threeCs ⟨tn, bk, bn, bz⟩)[j]? = some z := ⟨_, List.getElem?_eq_getElem (by rw [HIY.out.size]; exact hltj)⟩
                        obtain ⟨yb, yo, rfl, hcz⟩ := HIY.out.cell j z hz
                        by_cases hz0' : z = 0
                        · subst hz0'
                          clear hz
                          go_wp2_with fail
                          go_roundw
                          case rel => exact ⟨j + 1, by omega, by go_num, by first | exact rfl | exact trivial⟩
                          case measure => simp [intOf]; omega
                        · have hzb : (z == 0) = false := by simpa using hz0'
                          have HIn := hide (in_any (some ⟨ga, offb, none⟩) nB cB LB z wd HID.out)
                          rw [decide_eq_true (HCl.out _ HBin.out HBm.out z (List.mem_of_getElem? hz) hz0')] at HIn
                          clear hz
                          go_wp2_with (go_at_call 24; refine HIn.out.mono ?_; rintro e w8 ⟨rfl, hw8⟩; subst hw8)
                          go_roundw
                          case rel => exact ⟨j + 1, by omega, by go_num, by first | exact rfl | exact trivial⟩
                          case measure => simp [intOf]; omega
                      · go_wp2_with fail
                        go_roundw
                        case rel => exact ⟨k2 + 1, by omega, by go_num, HTd.out⟩
                        case measure => simp [intOf]; omega
              · obtain ⟨rb, ro', hre, hcr⟩ := HIR7.out.cell rl.length c.t (by simp)
                subst hre
                have hcr2 : wr.cell? ⟨rb, ro' + rl.length, none⟩ = some (.int .i64 c.t) := by rw [HTr.out.cell (block_lt hcr) (by simp)]; exact hcr
                have HIn := hide (in_any aB nB cB LB c.t wr (HIB.out.turned HTr.out))
                rw [decide_eq_true HLast.out] at HIn
                clear hcr
                have hr1 : ((rl.length : Int) + 1 - 1) = rl.length := by omega
                have hr2 : (rl.length : Int) < (rl.length : Int) + 1 := by omega
                have hr3 : (0 : Int) ≤ (rl.length : Int) := by omega
                go_wp2_with (go_at_call 24; refine HIn.out.mono ?_; rintro e w8 ⟨rfl, hw8⟩; subst hw8)
                go_ret
                exact ⟨rfl, (HT2.out.trans HT7.out).trans HTr.out⟩

set_option maxRecDepth 100000 in
theorem blocksReach_lifted (os : Os) (started : os.Started) (H : Type) (enc : TypeId × Value → H) :
    ReturnsInHanded {} Try.checked os 5 .any (Rows.blocksReachSpec.pre6 enc Try.prog Try.f5 Rows.blocksReachRow.domain false) (Rows.blocksReachSpec.post enc Try.prog Try.f5 false true false false) := by
  refine returnsInHanded_of_change (C := Try.checked) own started (by kernel_rfl) Try.func5
    (ChangeSpec.witness6 (enc := enc) (C := Try.checked) false ⟨#[], #[.slice none 0 0, .slice none 0 0, .int .i64 0], []⟩ 8 (by kernel_rfl) (by kernel_rfl) (by kernel_rfl) (by kernel_rfl)) ?_
  intro W base args ds gs before hval0 hW hcnd _
  have hval : ∀ (j : Nat) t v, Try.f5.params[j]? = some t → args[j]? = some v → Value.okWide Try.prog W .any base t v := hval0
  have hW' := hW
  obtain ⟨p, q, hA0, hV, rfl, hfz, hnd⟩ := hW
  have hA : DataW.TrodAll enc Try.prog W 0 (fun _ => true) true Try.f5.params.toList args.toList ds p := hA0
  rw [Try.params5] at hA hval
  obtain ⟨v0, vs0, d0, ds0, p0, q0, hargs, rfl, rfl, h0, r0⟩ := trodAll_cons hA
  obtain ⟨v1, vs1, d1, ds1, p1, q1, rfl, rfl, rfl, h1, r1⟩ := trodAll_cons r0
  obtain ⟨v2, vs2, d2, ds2, p2, q2, rfl, rfl, rfl, h2, r2⟩ := trodAll_cons r1
  obtain ⟨rfl, rfl, rfl⟩ := trodAll_nil r2
  obtain rfl : args = #[v0, v1, v2] := by cases args; simp_all
  obtain ⟨rfl, rfl⟩ := trodVars_none hV
  obtain ⟨a0, len0, cap0, rfl⟩ := okWide_slice Try.underlying55 (hval 0 55 v0 rfl rfl)
  have k0 := h0
  have lt0 : ∀ x ∈ p0, x.block < W.heap.size := by obtain ⟨m, hm⟩ := k0; exact DataW.trod_lt m _ _ _ hm
  have w0 := open_things h0
  obtain ⟨a1, len1, cap1, rfl⟩ := okWide_slice Try.underlying50 (hval 1 50 v1 rfl rfl)
  have k1 := h1
  have lt1 : ∀ x ∈ p1, x.block < W.heap.size := by obtain ⟨m, hm⟩ := k1; exact DataW.trod_lt m _ _ _ hm
  obtain ⟨z1, w1⟩ : ∃ zs, IsRow .i64 W a1 len1 cap1 zs := by
    obtain ⟨fuel, hf⟩ := h1
    rcases open_ints Try.underlying50 Try.underlying3 (by kernel_rfl) hf with ⟨hcs, _⟩ | ⟨x, l, c, zs, hcs, _, hl, hm, hz, _, hcell, hwz⟩
    · simp [Value.cells] at hcs
      obtain ⟨rfl, rfl, rfl⟩ := hcs
      exact ⟨[], .inl ⟨rfl, rfl, rfl, rfl⟩⟩
    · simp [Value.cells] at hcs
      obtain ⟨rfl, rfl, rfl⟩ := hcs
      exact ⟨zs, .inr ⟨_, rfl, hl, hm, by simpa using hz, hcell, hwz⟩⟩
  obtain ⟨a2, rfl, rfl, rfl, w2⟩ := open_int Try.underlying3 (hval 2 3 v2 rfl rfl) h2
  clear hA0 hval0
  refine (blocksReach_walk a0 len0 cap0 a1 len1 cap1 z1 a2 W w0 w1 w2).mono fun e W' ⟨he, ht⟩ => ?_
  subst he
  have bel : Below W.heap.size W W' := ht.below0
  exact ⟨_, rfl, _, _, _, [], _, [], hW', trodAll_mk1 (shut_bool Try.underlying4 _), (trodAll_cons_mk (Below.trod laidOut (by kernel_rfl) (of_decide_eq_true (by kernel_rfl)) k0 bel lt0) (trodAll_cons_mk (Below.trod laidOut (by kernel_rfl) (of_decide_eq_true (by kernel_rfl)) k1 bel lt1) (trodAll_cons_mk (shut_int Try.underlying3 w2) trodAll_mk0))), rfl, bel.frame _, fun h => by cases h⟩

theorem blocksReach_over : Rows.blocksReachRow.holds Try.pinned (OpenSpec.ofChange Rows.blocksReachSpec) :=
  OpenClaim.holds_of_wide 5 Try.f5 rfl rfl rfl rfl rfl rfl rfl ⟨rfl, rfl, rfl, rfl, rfl⟩ rfl rfl rfl rfl rfl (by kernel_rfl) Try.func5 (by kernel_rfl)
    (of_decide_eq_true (by kernel_rfl)) (by unfold Func.isWrapper; first | (rw [if_pos (by decide +kernel)]; kernel_rfl) | (rw [if_neg (by decide +kernel)]; exact ⟨rfl, rfl⟩))
    (fun os started H enc _ => blocksReach_lifted os started H enc)

theorem blocksReach_holds : Rows.BlocksReachSaid := blocksReach_over
end Go.Proofs.Ytkidcbehjhlnkaa

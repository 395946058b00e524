/-
  BitsEach: going from one marked block to the next one meets all of them, each once, in their order. For every list of blocks, and any range.
-/
import Derived.Test.YtaofkddondaceaaDoorBitsTot
import Derived.Test.YtaofkddondaceaaDoorOpsOpen
import Derived.Test.YtaofkddondaceaaDoorLawLaid
import Derived.Test.YtaofkddondaceaaDoorCards
import Derived.Test.YtaofkddondaceaaDoorTie
import Derived.SevenTiedAt
namespace Go.Proofs.YtaofkddondaceaaDoor
open Go.ChangeShapes Go.WideShapes Go.ChangeAt Go.RowKit
set_option linter.unusedVariables false

/-- An array of bools in a block of its own. -/
structure Arr (w : World) (g : Nat) (f : Nat → Bool) : Prop where
  row : ∃ c, w.heap[g]? = some (.cells c 53) ∧ ∀ i, i < 500 → c[i]? = some (.bool (f i))
theorem Arr.cell {w : World} {g : Nat} {f : Nat → Bool} (h : Arr w g f) {i : Nat} (hi : i < 500) : w.cell? ⟨g, i, none⟩ = some (.bool (f i)) := by
  obtain ⟨c, hc, hr⟩ := h.row
  rw [cell_of_heap hc]
  exact hr i hi
theorem Arr.fz {w : World} {g : Nat} {f : Nat → Bool} (h : Arr w g f) (i : Nat) : w.frozen? ⟨g, i, none⟩ = false := by
  obtain ⟨c, hc, _⟩ := h.row
  simp [World.frozen?, hc]
theorem Arr.lt {w : World} {g : Nat} {f : Nat → Bool} (h : Arr w g f) : g < w.heap.size := by
  obtain ⟨c, hc, _⟩ := h.row
  exact lt_of_heap hc
theorem Arr.turned {w w' : World} {g : Nat} {f : Nat → Bool} {T : List Nat} (h : Arr w g f) (t : Turned T w w') (hg : g ∉ T) : Arr w' g f := by
  obtain ⟨c, hc, hr⟩ := h.row
  exact ⟨c, by rw [t.block g (lt_of_heap hc) hg]; exact hc, hr⟩
theorem Arr.store {w : World} {g : Nat} {f f' : Nat → Bool} (h : Arr w g f) {k : Nat} (hk : k < 500) (b : Bool) (hf : ∀ i, i < 500 → f' i = if i = k then b else f i) : Arr (w.setCell ⟨g, k, none⟩ (.bool b)) g f' := by
  obtain ⟨c, hc, hr⟩ := h.row
  refine ⟨_, heap_setCell_at _ _ _ _ _ _ hc _, fun i hi => ?_⟩
  have hlt : k < c.size := (Array.getElem?_eq_some_iff.1 (hr k hk)).1
  rw [Array.getElem?_setIfInBounds, hf i hi]
  by_cases he : k = i
  · subst he
    rw [if_pos rfl, if_pos hlt, if_pos rfl]
  · rw [if_neg he, hr i hi, if_neg (fun e => he e.symm)]
theorem cntIn_none (f : Nat → Bool) {a b : Nat} (h : b ≤ a) : cntIn f a b = 0 := by
  unfold cntIn
  refine cnt_zero fun j hj => ?_
  unfold inn
  have : ¬ a ≤ j := by omega
  simp [this]
theorem cntIn_more (f : Nat → Bool) {a b c : Nat} (h1 : a ≤ b) (h2 : b ≤ c) (h : ∀ k, b ≤ k → k < c → f k = false) : cntIn f a c = cntIn f a b := by
  have k1 := cntIn_add f h1
  have k2 := cntIn_add f (Nat.le_trans h1 h2)
  have k3 := cnt_stop h2 h
  omega

theorem zeroArr (w : World) : (zeroValue 53).run Tryd.prog w = .ok (.agg (Array.replicate 500 (.bool false))) w := by kernel_rfl
theorem Arr.new (w : World) : Arr (w.alloc (.cells (Array.replicate 500 (.bool false)) 53)) w.heap.size (begs S0) :=
  ⟨_, heap_alloc_new _ _, fun i hi => by rw [Array.getElem?_replicate, if_pos hi]; rfl⟩

set_option maxHeartbeats 4000000 in
set_option maxRecDepth 100000 in
theorem bitsEach_walk (ao : Option Addr) (len cap : Nat) (cs : List Op3) (x y : Int) (w : World) (h : ORd w ao len cs) (hx : (Lit.int .i64 x).wf = true) (hy : (Lit.int .i64 y).wf = true) (hT : Tab w) :
    Calls Tryd.prog 8 #[.slice ao len cap, .int .i64 x, .int .i64 y] w fun e w' => e = .returned (.bool true) ∧ Turned [] w w' := by
  have HT := hide hT
  have HO := hide h
  have HL := hide h.size
  have hroom := h.room
  have HAw := hide (awake_any w hT)
  clear h hT hx hy
  go_enter Tryd.func8, Tryd.ntmps8
  go_wp2_with fail
  refine (HAw.out).mono ?_
  rintro e w1 ⟨rfl, ht1⟩
  have HN := hide (new_any 500 w1 (by unfold In64; omega) (HT.out.turned ht1 (by simp)))
  rw [show kp 65536 500 = 500 by decide] at HN
  have HT1 := hide ht1
  clear ht1 HAw
  go_wp2_with fail
  refine (HN.out).mono ?_
  rintro e w2 ⟨p, q, rfl, hb2, hp2, hq2, ht2⟩
  have HB2 := hide hb2
  have HPQ := hide (And.intro (Nat.le_trans HT1.out.size hp2) (Nat.le_trans HT1.out.size hq2))
  have HT2 := hide (HT1.out.trans ht2)
  clear hb2 hp2 hq2 ht2 HN HT1
  have hza := fun w => zeroArr w
  go_upto_block 0 with fail
  clear hza
  have HA2 := hide (Arr.new w2)
  have ht3 : Turned [] w2 (w2.alloc (.cells (Array.replicate 500 (.bool false)) 53)) := (Turned.refl [] w2).alloc _
  have HB3 := hide (HB2.out.turned0 ht3)
  have HG := hide (And.intro HT2.out.size (And.intro HB2.out.ltp HB2.out.ltq))
  have HT3 := hide (HT2.out.trans ht3)
  clear ht3 HB2 HT2
  generalize w2.alloc (.cells (Array.replicate 500 (.bool false)) 53) = w3 at *
  generalize w2.heap.size = g at *
  have h0g : g ≠ 0 := by
    have h1 := HG.out.1
    have h2 : 0 < w.heap.size := block_lt (HT.out 0 (by omega))
    omega
  go_cut [10, 11, 12] (fun _ _ _ wc => ∃ S : Nat → Nat, Aside (Bts wc p q 500 (sidesOf S) ∧ Bl 500 S ∧ Arr wc g (begs S) ∧ Turned [] w wc))
  case first =>
   go_wp2_with fail
   go_loopw [10, 11, 12] (fun i _ _ wr => ∃ (j : Nat) (S : Nat → Nat), j ≤ len ∧ j ≤ 60 ∧ i = .int .i64 j ∧ Hid (Bts wr p q 500 (sidesOf S)) ∧ Hid (Bl 500 S) ∧ Hid (Arr wr g (begs S)) ∧ Hid (Turned [] w wr)) (fun i _ _ _ => 60 - (intOf i).toNat)
   case atStart => exact ⟨0, S0, Nat.zero_le _, by omega, rfl, HB3.out, Bl.none _, HA2.out, HT3.out⟩
   case round =>
    obtain ⟨j, S, hj, hj6, rfl, HB, HS, HAr, HTr⟩ := hrel
    by_cases hlt : j < len ∧ j < 60
    · obtain ⟨o, ho⟩ : ∃ o, cs[j]? = some o := ⟨_, List.getElem?_eq_getElem (by have := HL.out; omega)⟩
      obtain ⟨b, off, rfl, c0, c1, c2⟩ := (HO.out.turned HTr.out).cell j o ho
      have hin := HO.out.inn o (List.mem_of_getElem? ho)
      obtain ⟨K, At, Z⟩ := o
      simp only at c0 c1 c2
      have hbw : b < w.heap.size := by
        obtain ⟨b2, off2, e1, c3, _⟩ := HO.out.cell j ⟨K, At, Z⟩ ho
        cases e1
        exact block_lt c3
      have hbq : b ≠ q := by have := HPQ.out.2; omega
      have hMin : In64 Z := hin.2.2
      have HM := hide (mark_any p q 500 S At Z wr.drew (HB.out.turned0 (Turned.refl [] wr).drew) HS.out hMin)
      have HMS := hide (mark_sum (n := 500) (S := S) At Z)
      have HMB := hide (markT_bl HS.out At Z)
      clear ho hin c0 hMin
      generalize markT 500 S At Z = M at *
      obtain ⟨t, er, S'⟩ := M
      simp only at HM HMS HMB
      go_wp2_with fail
      go_region_held3 (fun w' => w'.cell? ⟨b, off + j * 3 + 1, none⟩ = some (.int .i64 At) ∧ w'.cell? ⟨b, off + j * 3 + 2, none⟩ = some (.int .i64 Z)) (go_keep)
        (first
          | (go_at_call 13; refine (HM.out).mono ?_; rintro e w4 ⟨rfl, hb4, ht4⟩; have d1 : w4.cell? ⟨b, off + j * 3 + 1, none⟩ = some (.int .i64 At) := (by rw [ht4.cell (block_lt c1) (by simpa using hbq)]; exact c1); have d2 : w4.cell? ⟨b, off + j * 3 + 2, none⟩ = some (.int .i64 Z) := (by rw [ht4.cell (block_lt c2) (by simpa using hbq)]; exact c2); have HB4 := hide hb4; have HA4 := hide ((HAr.out.turned (Turned.refl [] wr).drew (by simp)).turned ht4 (by simp; have := HG.out.2.2; omega)); have HT4 := hide ((HTr.out.drew).trans_new ht4 (fun i hi => by simp at hi; subst hi; exact .inr HPQ.out.2)); clear hb4 ht4))
      cases t
      · have e1 : S' = S := by
          rcases HMS.out with ⟨h1, _⟩ | ⟨_, h1⟩
          · cases h1
          · exact h1
        subst e1
        go_wp2_with fail
        go_roundw
        case rel => exact ⟨j + 1, S', by omega, by omega, by go_num, HB4, HMB, HA4, HT4⟩
        case measure => simp [intOf]; omega
      · obtain ⟨A, rfl, hA5, hAS⟩ : ∃ A : Nat, At = A ∧ A < 500 ∧ ∀ i, i < 500 → begs S' i = if i = A then true else begs S i := by
          rcases HMS.out with ⟨_, h2, h3, h4, _, _, _, _, h9⟩ | ⟨h1, _⟩
          · refine ⟨At.toNat, by omega, by omega, fun i _ => ?_⟩
            rw [h9]
            unfold begs
            by_cases hi : i = At.toNat
            · rw [if_pos hi, hi, upd_at]; simp; omega
            · rw [if_neg hi, upd_ne S hi]
          · cases h1
        have f4 := HA4.out.fz A
        have c4 := HA4.out.cell hA5
        have hA5i : (A : Int) < 500 := by omega
        go_wp2_with fail
        have HA5 := hide (HA4.out.store hA5 true hAS)
        have ht5 : Turned [g] w4 (w4.setCell ⟨g, A, none⟩ (.bool true)) := (Turned.refl [g] w4).setCell (p := ⟨g, A, none⟩) (.inl (by simp)) _
        have HB5 := hide (HB4.out.turned ht5 (by simp; have := HG.out.2.1; omega) (by simp; have := HG.out.2.2; omega) (by simp; exact fun e => h0g e.symm))
        have HT5 := hide (HT4.out.trans_new ht5 (fun i hi => by simp at hi; subst hi; exact .inr HG.out.1))
        clear ht5 f4 c4
        go_roundw
        case rel => exact ⟨j + 1, S', by omega, by omega, by go_num, HB5, HMB, HA5, HT5⟩
        case measure => simp [intOf]; omega
    · have HX := hide (And.intro HB.out (And.intro HS.out (And.intro HAr.out HTr.out)))
      by_cases h1 : j < len
      · have h2 : ¬ j < 60 := by omega
        go_wp2_with fail
        go_meet
        exact ⟨S, HX.out⟩
      · have hd : decide ((j : Int) < (len : Int)) = false := decide_eq_false (by omega)
        go_wp2_with fail
        go_meet
        exact ⟨S, HX.out⟩
  case rest =>
    obtain ⟨S, HX⟩ := hcut
    have HS := hide HX.out.2.1
    have HN3 := hide (next_any (some ⟨p, 0, none⟩) 500 _ x y wc HX.out.1.brd)
    rw [sidesOf0] at HN3
    have ha5 := kp_le 500 x
    have hb5 := kp_le 500 y
    have hax : ∀ i : Nat, kp 500 x ≤ i → i < 500 → x ≤ i := fun i h1 h2 => by unfold kp at h1; omega
    have hbx : ∀ i : Nat, i < kp 500 y → (i : Int) < y := fun i h1 => by unfold kp at h1; omega
    have hax2 : ∀ i : Nat, x ≤ i → i < 500 → kp 500 x ≤ i := fun i h1 h2 => by unfold kp; omega
    have hbx2 : ∀ i : Nat, (i : Int) < y → i < 500 → i < kp 500 y := fun i h1 h2 => by unfold kp; omega
    have HK1 := hide (And.intro hax hbx)
    have HK2 := hide (And.intro hax2 hbx2)
    have HCt := hide (fun w h => count_any (some ⟨p, 0, none⟩) 500 (sidesOf S) x y w h)
    rw [sidesOf0] at HCt
    have HNx := hide (fun i w h => next_any (some ⟨p, 0, none⟩) 500 (sidesOf S) i y w h)
    rw [sidesOf0] at HNx
    clear hax hbx hax2 hbx2
    generalize kp 500 x = a1 at *
    generalize kp 500 y = b1 at *
    go_wp2_with fail
    refine (HN3.out).mono ?_
    rintro e w5 ⟨r, rfl, hr, m5, rfl⟩
    have HI5 := hide hr
    have hrr := hr.range (by omega)
    have htd := (Turned.refl [] wc).drewN m5
    have HB5 := hide (HX.out.1.turned0 htd)
    have HA5 := hide (HX.out.2.2.1.turned htd (by simp))
    have HT5 := hide (HX.out.2.2.2.trans htd)
    clear hr HX htd HN3
    generalize wc.drewN m5 = w6 at *
    go_wp2_with fail
    go_loopw [13, 14, 15] (fun n_ at_ l_ wz => ∃ (k cc : Nat) (r l : Int) (f : Nat → Bool), k ≤ cc ∧ a1 ≤ cc ∧ cc ≤ 500 ∧ -1 ≤ r ∧ r < 65536 ∧ -1 ≤ l ∧ l < cc ∧ n_ = .int .i64 k ∧ at_ = .int .i64 r ∧ l_ = .int .i64 l ∧ Hid (k = cntIn (begs S) a1 cc) ∧ Hid (cc ≤ b1 ∨ cc = a1) ∧ Hid (IsNext (begs S) cc b1 r) ∧ Hid (∀ i, f i = if a1 ≤ i ∧ i < cc then false else begs S i) ∧ Hid (Arr wz g f) ∧ Hid (Bts wz p q 500 (sidesOf S)) ∧ Hid (Turned [] w wz)) (fun _ at_ _ _ => msr 500 at_)
    case atStart => exact ⟨0, a1, r, -1, begs S, by omega, by omega, by omega, hrr.1, hrr.2, by omega, by omega, rfl, rfl, rfl, (cntIn_none _ (Nat.le_refl _)).symm, .inr rfl, HI5, fun i => by rw [if_neg (by omega)], HA5, HB5, HT5⟩
    case round =>
      obtain ⟨k, cc, r1, l1, f, hk, hac, hcc, hr1, hr2, hl1, hl2, rfl, rfl, rfl, HC, HCB, HI, HF, HAr, HB, HTr⟩ := hrel
      by_cases hneg : 0 ≤ r1
      · rcases HI.out with ⟨h1, _⟩ | ⟨i, rfl, h2, h3, h4, h5⟩
        · omega
        · have hi5 : i < 500 := by omega
          have c4 := HAr.out.cell hi5
          have hfi : f i = true := by rw [HF.out i, if_neg (by omega)]; exact h4
          rw [hfi] at c4
          have f4 := HAr.out.fz i
          have hk1 : (k : Int) < 501 := by omega
          have n1 : ¬ ((i : Int) ≤ l1) := by omega
          have n2 : ¬ ((i : Int) < x) := by have := HK1.out.1 i (by omega) hi5; omega
          have n3 : ¬ (y ≤ (i : Int)) := by have := HK1.out.2 i h3; omega
          have n4 : ¬ (500 ≤ (i : Int)) := by omega
          have hi5i : (i : Int) < 500 := by omega
          have hcnt : k + 1 = cntIn (begs S) a1 (i + 1) := by
            have k1 := cntIn_add (begs S) hac
            have k2 := cntIn_add (begs S) (show a1 ≤ i + 1 by omega)
            have k3 := cnt_stop h2 (fun j h6 h7 => h5 j h6 h7)
            rw [cnt, k3, h4] at k2
            have := HC.out
            simp at k2
            omega
          have HC2 := hide hcnt
          have HF2 : Hid (∀ j, (if j = i then false else f j) = if a1 ≤ j ∧ j < i + 1 then false else begs S j) := by
            intro j
            by_cases hj : j = i
            · subst hj; rw [if_pos rfl, if_pos (by omega)]
            · rw [if_neg hj, HF.out j]
              by_cases h6 : a1 ≤ j ∧ j < cc
              · rw [if_pos h6, if_pos (by omega)]
              · rw [if_neg h6]
                by_cases h7 : a1 ≤ j ∧ j < i + 1
                · rw [if_pos h7, h5 j (by omega) (by omega)]
                · rw [if_neg h7]
          have ht7 : Turned [g] wr (wr.setCell ⟨g, i, none⟩ (.bool false)) := (Turned.refl [g] wr).setCell (p := ⟨g, i, none⟩) (.inl (by simp)) _
          have HA7 := hide (HAr.out.store hi5 false (f' := fun j => if j = i then false else f j) (fun j _ => rfl))
          have HB7 := hide (HB.out.turned ht7 (by simp; have := HG.out.2.1; omega) (by simp; have := HG.out.2.2; omega) (by simp; exact fun e => h0g e.symm))
          have HT7 := hide (HTr.out.trans_new ht7 (fun i hi => by simp at hi; subst hi; exact .inr HG.out.1))
          clear ht7 h4 h5 hcnt hfi HC HF HI HCB
          go_wp2_with fail
          clear c4 f4
          generalize wr.setCell ⟨g, i, none⟩ (.bool false) = w7 at *
          have HN7 := hide (HNx.out ((i : Int) + 1) w7 HB7.out.brd)
          rw [show kp 500 ((i : Int) + 1) = i + 1 by (unfold kp; omega)] at HN7
          refine (HN7.out).mono ?_
          rintro e w8 ⟨r8, rfl, hr8, m8, rfl⟩
          have HI8 := hide hr8
          have hrr8 := hr8.range (by omega)
          have hq8 : r8 = -1 ∨ (i : Int) < r8 := by
            rcases hr8 with ⟨h8, _⟩ | ⟨y, rfl, h8, _⟩
            · exact .inl h8
            · exact .inr (by omega)
          have htd := (Turned.refl [] w7).drewN m8
          have HB8 := hide (HB7.out.turned0 htd)
          have HA8 := hide (HA7.out.turned htd (by simp))
          have HT8 := hide (HT7.out.trans htd)
          clear hr8 htd HN7 HB7 HA7 HT7
          generalize w7.drewN m8 = w9 at *
          go_wp2_with fail
          go_roundw
          case rel => exact ⟨k + 1, i + 1, r8, i, _, by omega, by omega, by omega, hrr8.1, hrr8.2, by omega, by omega, by go_num, rfl, rfl, HC2, hide (.inl h3), HI8, HF2, HA8, HB8, HT8⟩
          case measure => exact msr_down (by omega) hq8
      · have hn1 : r1 = -1 := by omega
        subst hn1
        have hno : ∀ i, cc ≤ i → i < b1 → begs S i = false := by
          rcases HI.out with ⟨_, h2⟩ | ⟨i, h1, _⟩
          · exact h2
          · omega
        have HNo := hide hno
        have hkc : k = cntIn (begs S) a1 b1 := by
          rw [HC.out]
          rcases HCB.out with h1 | h1
          · exact (cntIn_more _ hac h1 hno).symm
          · by_cases h2 : cc ≤ b1
            · exact (cntIn_more _ hac h2 hno).symm
            · rw [h1, cntIn_none _ (Nat.le_refl _), cntIn_none _ (by omega)]
        have HKC := hide hkc
        have HFb : Hid (∀ i : Nat, i < 500 → x ≤ i → (i : Int) < y → f i = false) := by
          intro i h1 h2 h3
          rw [HF.out i]
          by_cases h4 : a1 ≤ i ∧ i < cc
          · rw [if_pos h4]
          · rw [if_neg h4]
            have h5 := HK2.out.1 i h2 h1
            exact hno i (by omega) (HK2.out.2 i h3 h1)
        clear hno hkc HC HCB HI HF
        go_wp2_with fail
        go_loopw [16] (fun i_ wz => ∃ j : Nat, j ≤ 500 ∧ i_ = .int .i64 j ∧ Hid (Arr wz g f) ∧ Hid (Bts wz p q 500 (sidesOf S)) ∧ Hid (Turned [] w wz)) (fun i_ _ => 500 - (intOf i_).toNat)
        case atStart => exact ⟨0, by omega, rfl, HAr, HB, HTr⟩
        case round =>
          clear HAr HB HTr
          obtain ⟨j, hj, rfl, HAr, HB, HTr⟩ := hrel
          by_cases hlt : j < 500
          · have c4 := HAr.out.cell hlt
            have hlti : (j : Int) < 500 := by omega
            cases hfj : f j
            · rw [hfj] at c4
              go_wp2_with fail
              go_roundw
              case rel => exact ⟨j + 1, by omega, by go_num, HAr, HB, HTr⟩
              case measure => simp [intOf]; omega
            · rw [hfj] at c4
              by_cases h1 : x ≤ (j : Int)
              · have h2 : ¬ ((j : Int) < y) := by
                  intro h3
                  rw [HFb.out j hlt h1 h3] at hfj
                  cases hfj
                go_wp2_with fail
                go_roundw
                case rel => exact ⟨j + 1, by omega, by go_num, HAr, HB, HTr⟩
                case measure => simp [intOf]; omega
              · have hd : decide (x ≤ (j : Int)) = false := decide_eq_false h1
                go_wp2_with fail
                go_roundw
                case rel => exact ⟨j + 1, by omega, by go_num, HAr, HB, HTr⟩
                case measure => simp [intOf]; omega
          · have HC8 := hide (HCt.out _ HB.out.brd)
            rw [← HKC.out] at HC8
            go_wp2_with fail
            refine (HC8.out).mono ?_
            rintro e w9 ⟨rfl, m9, rfl⟩
            have HT9 := hide (HTr.out.drewN m9)
            go_wp2_with fail
            go_ret
            exact ⟨rfl, HT9.out⟩

set_option maxRecDepth 100000 in
theorem bitsEach_lifted (os : Os) (started : os.Started) (H : Type) (enc : TypeId × Value → H) :
    ReturnsInHanded {} Tryd.checked os 8 .any (fun w args => (Rows.bitsEachSpec.pre enc Tryd.prog Tryd.f8 [] false w args ∧ laidMetH Tryd.prog laidTab w) ∧ sizedMet enc Tryd.prog Tryd.f8 (OpenSpec.ofChange Rows.bitsEachSpec) false w args)
      (Rows.bitsEachSpec.post enc Tryd.prog Tryd.f8 false true false false) := by
  refine returnsInHanded_of_change_and (C := Tryd.checked) (X := fun w _ => laidMetH Tryd.prog laidTab w) (fun _ _ _ hh h => h.of_heap hh) own started (by kernel_rfl) Tryd.func8
    (ChangeSpec.witness_shaped (enc := enc) (C := Tryd.checked) (os := os) (X := fun w _ => laidMetH Tryd.prog laidTab w) false (World.doorLaid Tryd.prog 400 os) #[.slice none 0 0, .int .i64 0, .int .i64 0] 8 rfl (World.shaped_of_RefB (by kernel_rfl) (by kernel_rfl)) (by kernel_rfl) (by kernel_rfl) (by kernel_rfl) (door_met os _)) ?_
  intro W base args ds gs before hval0 hW _ _ hL _
  have hTab := tab_of hL
  have hval : ∀ (j : Nat) t v, Tryd.f8.params[j]? = some t → args[j]? = some v → Value.okWide Tryd.prog W .any base t v := hval0
  have hW' := hW
  obtain ⟨p, q, hA0, hV, rfl, hfz, hnd⟩ := hW
  have hA : DataW.TrodAll enc Tryd.prog W 0 (fun _ => true) true Tryd.f8.params.toList args.toList ds p := hA0
  rw [Tryd.params8] at hA hval
  obtain ⟨v0, vs0, d0, ds0, p0, q0, hargs, rfl, rfl, h0, r0⟩ := trodAll_cons hA
  obtain ⟨v1, vs1, d1, ds1, p1, q1, rfl, rfl, rfl, h1, r1⟩ := trodAll_cons r0
  obtain ⟨v2, vs2, d2, ds2, p2, q2, rfl, rfl, rfl, h2, r2⟩ := trodAll_cons r1
  obtain ⟨rfl, rfl, rfl⟩ := trodAll_nil r2
  obtain rfl : args = #[v0, v1, v2] := by cases args; simp_all
  obtain ⟨rfl, rfl⟩ := trodVars_none hV
  obtain ⟨a0, len0, cap0, rfl⟩ := okWide_slice Tryd.underlying22 (hval 0 22 v0 rfl rfl)
  have k0 := h0
  have lt0 : ∀ x ∈ p0, x.block < W.heap.size := by obtain ⟨m, hm⟩ := k0; exact DataW.trod_lt m _ _ _ hm
  obtain ⟨z0, w0⟩ := open_ops h0
  obtain ⟨a1, rfl, rfl, rfl, w1⟩ := open_int Tryd.underlying3 (hval 1 3 v1 rfl rfl) h1
  obtain ⟨a2, rfl, rfl, rfl, w2⟩ := open_int Tryd.underlying3 (hval 2 3 v2 rfl rfl) h2
  simp only [List.append_nil] at hW'
  clear hA0 hval0
  refine (bitsEach_walk a0 len0 cap0 z0 a1 a2 W w0 w1 w2 hTab).mono fun e W' ⟨he, ht⟩ => ?_
  subst he
  have bel : Below W.heap.size W W' := ht.below0
  exact ⟨_, rfl, _, _, _, [], _, [], hW', trodAll_mk1 (shut_bool Tryd.underlying4 _), (trodAll_cons_mk (Below.trod laidOut (by kernel_rfl) (of_decide_eq_true (by kernel_rfl)) k0 bel lt0) (trodAll_cons_mk (shut_int Tryd.underlying3 w1) (trodAll_cons_mk (shut_int Tryd.underlying3 w2) trodAll_mk0))), rfl, bel.frame _, fun h => by cases h⟩

theorem bitsEach_over : Rows.bitsEachRow.holds Tryd.pinned (OpenSpec.ofChange Rows.bitsEachSpec) :=
  OpenClaim.holds_of_wide 8 Tryd.f8 rfl rfl rfl rfl rfl rfl rfl ⟨rfl, rfl, rfl, rfl, rfl⟩ rfl rfl rfl rfl rfl (by kernel_rfl) Tryd.func8 (by kernel_rfl)
    (of_decide_eq_true (by kernel_rfl)) (by unfold Func.isWrapper; first | (rw [if_pos (by decide +kernel)]; kernel_rfl) | (rw [if_neg (by decide +kernel)]; exact ⟨rfl, rfl⟩))
    (fun os started H enc _ => bitsEach_lifted os started H enc)

theorem bitsEach_holds : Rows.BitsEachSaid := bitsEach_over

theorem bitsEach_card : Rows.BitsEachCardSaid :=
  Claim7.holds_tied_plain_at .later [] [.data] true _ false
    bitsEach_holds (fun _ h => by cases h) (by kernel_rfl) (fun _ h => by cases h) bitsEach_row_tie rfl ⟨rfl, rfl⟩ (by kernel_rfl) rfl
    (fun f fn hf hfn => by
      obtain rfl : f = 8 := Option.some.inj ((show Tryd.prog.funcNamed "ballast/ballastlaw05.BitsEach" = some 8 by kernel_rfl).symm.trans hf) |>.symm
      obtain rfl : fn = Tryd.f8 := (Option.some.inj (Tryd.func8.symm.trans hfn)).symm
      exact ⟨by kernel_rfl, fun j t ht => by
        rw [Tryd.params8] at ht
        have h3 : t ∈ [22, 3, 3] := by
          have h4 := Array.mem_of_getElem? ht
          simpa using h4
        have h5 : ∀ u, u ∈ [22, 3, 3] → Tryd.prog.wantsStandIn u = false := by
          intro u hu
          simp only [List.mem_cons, List.not_mem_nil, or_false] at hu
          rcases hu with rfl | rfl | rfl <;> kernel_rfl
        exact h5 t h3⟩)
    (by kernel_rfl)
#print axioms bitsEach_card
end Go.Proofs.YtaofkddondaceaaDoor

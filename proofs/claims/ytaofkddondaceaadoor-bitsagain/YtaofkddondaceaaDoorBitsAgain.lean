/-
  BitsAgain: what was cleared may be marked again, as it was or otherwise; clearing all leaves nothing. For every list of blocks, and any range.
-/
import Derived.Test.YtaofkddondaceaaDoorOpsKept
import Derived.Test.YtaofkddondaceaaDoorLawLaid
import Derived.Test.YtaofkddondaceaaDoorCards
import Derived.Test.YtaofkddondaceaaDoorTie
import Derived.SevenTiedAt
namespace Go.Proofs.YtaofkddondaceaaDoor
open Go.ChangeShapes Go.WideShapes Go.ChangeAt Go.RowKit
set_option linter.unusedVariables false

/-- Of the kept blocks just those are marked that P picks. -/
structure Sel (S T : Nat → Nat) (ks : List Op3) (P : Nat → Op3 → Bool) : Prop where
  sub : ∀ k, T k = S k ∨ T k = 0
  on : ∀ j o, ks[j]? = some o → T o.a.toNat = if P j o then S o.a.toNat else 0
theorem Sel.bl {n : Nat} {S T : Nat → Nat} {ks : List Op3} {P : Nat → Op3 → Bool} (h : Sel S T ks P) (hs : Bl n S) : Bl n T := by
  have k : ∀ b, 0 < T b → T b = S b := fun b hb => by
    rcases h.sub b with h1 | h1
    · exact h1
    · omega
  constructor
  · intro b hb
    have e := k b hb
    rw [e] at hb ⊢
    exact hs.into b hb
  · intro b c hbc hb hc
    have e := k b hb
    have e2 := k c hc
    rw [e] at hb ⊢
    rw [e2] at hc
    exact hs.apart b c hbc hb hc
theorem Sel.eq {n : Nat} {S T U : Nat → Nat} {ks : List Op3} {P Q : Nat → Op3 → Bool} (h : Sel S T ks P) (k : Sel S U ks Q) (hk : Ks n S ks) (hPQ : ∀ j o, ks[j]? = some o → P j o = Q j o) : T = U := by
  funext x
  by_cases hs : 0 < S x
  · obtain ⟨o, ho, hox⟩ := hk.all x hs
    obtain ⟨j, hj⟩ := List.getElem?_of_mem ho
    have h1 := h.on j o hj
    have h2 := k.on j o hj
    have h3 : o.a.toNat = x := by omega
    rw [h3] at h1 h2
    rw [h1, h2, hPQ j o hj]
  · have h1 := h.sub x
    have h2 := k.sub x
    omega
theorem Sel.full {n : Nat} {S : Nat → Nat} {ks : List Op3} : Sel S S ks (fun _ _ => true) := ⟨fun k => .inl rfl, fun j o _ => rfl⟩
theorem sel_ne {n : Nat} {S : Nat → Nat} {ks : List Op3} (hk : Ks n S ks) {i j : Nat} {o o' : Op3} (ho : ks[i]? = some o) (h1 : ks[j]? = some o') (h2 : j ≠ i) : o'.a.toNat ≠ o.a.toNat := by
  intro h3
  have h4 := hk.mem o' (List.mem_of_getElem? h1)
  have h5 := hk.mem o (List.mem_of_getElem? ho)
  exact h2 (hk.once j i o' o h1 ho (by omega))
theorem Sel.put {n : Nat} {S T : Nat → Nat} {ks : List Op3} {P Q : Nat → Op3 → Bool} (h : Sel S T ks P) (hk : Ks n S ks) {i : Nat} {o : Op3} (ho : ks[i]? = some o) (z : Nat) (hz : z = if Q i o then S o.a.toNat else 0) (hPQ : ∀ j o', ks[j]? = some o' → j ≠ i → Q j o' = P j o') : Sel S (upd T o.a.toNat z) ks Q := by
  refine ⟨fun k => ?_, fun j o' h1 => ?_⟩
  · by_cases hko : k = o.a.toNat
    · subst hko
      rw [upd_at, hz]
      split
      · exact .inl rfl
      · exact .inr rfl
    · rw [upd_ne T hko]
      exact h.sub k
  · by_cases hj : j = i
    · subst hj
      rw [ho] at h1
      injection h1 with h1
      subst h1
      rw [upd_at, hz]
    · rw [upd_ne T (sel_ne hk ho h1 hj), hPQ j o' h1 hj]
      exact h.on j o' h1
theorem Sel.free {n : Nat} {S T : Nat → Nat} {ks : List Op3} {P : Nat → Op3 → Bool} (h : Sel S T ks P) (hk : Ks n S ks) {i : Nat} {o : Op3} (ho : ks[i]? = some o) (hp : P i o = false) : T o.a.toNat = 0 ∧ Free T o.a.toNat o.z.toNat := by
  have h0 : T o.a.toNat = 0 := by rw [h.on i o ho, hp]; rfl
  have hm := hk.mem o (List.mem_of_getElem? ho)
  refine ⟨h0, fun k h1 h2 => ?_⟩
  unfold live
  rw [bo_false]
  rintro ⟨b, hb1, hb2⟩
  have hb : T b = S b := by
    rcases h.sub b with h3 | h3
    · exact h3
    · omega
  have h4 := hk.bl.one (a := b) (b := o.a.toNat) (k := k) ⟨hb1, by omega⟩ ⟨h1, by omega⟩
  subst h4
  omega
/-- Does a kept block begin in the range? -/
def inB (x y : Int) (o : Op3) : Bool := decide (x ≤ o.a) && decide (o.a < y)
theorem Sel.clr {n : Nat} {S : Nat → Nat} {ks : List Op3} (hk : Ks n S ks) (x y : Int) : Sel S (clr S (kp n x) (kp n y)) ks (fun _ o => !inB x y o) := by
  refine ⟨fun k => ?_, fun j o ho => ?_⟩
  · unfold YtaofkddondaceaaDoor.clr
    split
    · exact .inr rfl
    · exact .inl rfl
  · have hm := hk.mem o (List.mem_of_getElem? ho)
    unfold YtaofkddondaceaaDoor.clr inB
    by_cases h1 : x ≤ o.a <;> by_cases h2 : o.a < y <;> simp only [h1, h2, decide_true, decide_false, Bool.and_self, Bool.and_true, Bool.and_false, Bool.not_true, Bool.not_false, if_true]
    · rw [if_pos (by unfold kp; omega)]
      rfl
    · rw [if_neg (by unfold kp; omega)]
    · rw [if_neg (by unfold kp; omega)]
    · rw [if_neg (by unfold kp; omega)]
theorem clr_all {n : Nat} {S : Nat → Nat} (h : Bl n S) : clr S 0 n = S0 := by
  funext k
  unfold clr S0
  split
  · rfl
  · exact h.far (by omega)
theorem cnt_live0 (m : Nat) : cnt (live S0) m = 0 := cnt_zero fun j _ => live0 j
theorem cnt_begs0 (m : Nat) : cnt (begs S0) m = 0 := cnt_zero fun j _ => rfl

set_option maxHeartbeats 4000000 in
set_option maxRecDepth 50000 in
theorem bitsAgain_walk (ao : Option Addr) (len cap : Nat) (cs : List Op3) (x y : Int) (w : World) (h : ORd w ao len cs) (hx : (Lit.int .i64 x).wf = true) (hy : (Lit.int .i64 y).wf = true) (hT : Tab w) :
    Calls Tryd.prog 7 #[.slice ao len cap, .int .i64 x, .int .i64 y] w fun e w' => e = .returned (.bool true) ∧ Turned [] w w' := by
  have HT := hide hT
  have HO := hide h
  have HL := hide h.size
  have hroom := h.room
  have HAw := hide (awake_any w hT)
  obtain ⟨i0, hi, hz0, hz1, hz2⟩ := info_parts Tryd.infoOp
  clear h hT hx hy
  go_enter Tryd.func7, Tryd.ntmps7
  go_wp2_with fail
  refine (HAw.out).mono ?_
  rintro e w1 ⟨rfl, ht1⟩
  have HN := hide (new_any 500 w1 (by unfold In64; omega) (HT.out.turned ht1 (by simp)))
  rw [show kp 65536 500 = 500 by decide] at HN
  have HT1 := hide ht1
  clear ht1 HAw
  go_wp2_with fail
  refine (HN.out).mono ?_
  rintro e w2 ⟨p, q, rfl, hb2, hp2, hq2, ht2⟩
  have HB2 := hide hb2
  have HPQ := hide (And.intro (Nat.le_trans HT1.out.size hp2) (Nat.le_trans HT1.out.size hq2))
  have HT2 := hide (HT1.out.trans ht2)
  clear hb2 hp2 hq2 ht2 HN HT1
  have HB3 := hide HB2.out
  have hs3 : Hid (p < w2.heap.size ∧ q < w2.heap.size) := ⟨HB2.out.ltp, HB2.out.ltq⟩
  have HT3 := hide HT2.out
  clear HB2 HT2
  go_upto_block 0 with fail
  go_cut [9, 10, 11, 12] (fun v _ _ _ wc => ∃ (S : Nat → Nat) (ks : List Op3), ks.length ≤ 40 ∧ Aside (Bts wc p q 500 (sidesOf S) ∧ Ks 500 S ks ∧ KRow wc w2.heap.size v ks ∧ Turned [] w wc))
  case first =>
   go_wp2_with fail
   go_loopw [9, 10, 11, 12] (fun v i _ _ wr => ∃ (j : Nat) (S : Nat → Nat) (ks : List Op3), j ≤ len ∧ j ≤ 40 ∧ ks.length ≤ j ∧ w2.heap.size ≤ wr.heap.size ∧ i = .int .i64 j ∧ Hid (Bts wr p q 500 (sidesOf S)) ∧ Hid (Ks 500 S ks) ∧ Hid (KRow wr w2.heap.size v ks) ∧ Hid (Turned [] w wr)) (fun _ i _ _ _ => 40 - (intOf i).toNat)
   case atStart => exact ⟨0, S0, [], Nat.zero_le _, by omega, Nat.le_refl _, Nat.le_refl _, rfl, HB3.out, Ks.none _, World.ownsRow_nil _ _ _ _, HT3.out⟩
   case round =>
    obtain ⟨j, S, ks, hj, hj6, hkl, hw3, rfl, HB, HK, HR, HTr⟩ := hrel
    by_cases hlt : j < len ∧ j < 40
    · obtain ⟨o, ho⟩ : ∃ o, cs[j]? = some o := ⟨_, List.getElem?_eq_getElem (by have := HL.out; omega)⟩
      obtain ⟨b, off, rfl, c0, c1, c2⟩ := (HO.out.turned HTr.out).cell j o ho
      have hin := HO.out.inn o (List.mem_of_getElem? ho)
      obtain ⟨K, At, Z⟩ := o
      simp only at c0 c1 c2
      have hbw : b < w.heap.size := by
        obtain ⟨b2, off2, e1, c3, _⟩ := HO.out.cell j ⟨K, At, Z⟩ ho
        cases e1
        exact block_lt c3
      have hbq : b ≠ q := by have := HPQ.out.2; omega
      have hMin : In64 Z := hin.2.2
      have HM := hide (mark_any p q 500 S At Z wr.drew (HB.out.turned0 (Turned.refl [] wr).drew) HK.out.bl hMin)
      have HMS := hide (mark_sum (n := 500) (S := S) At Z)
      clear ho hin hMin
      generalize markT 500 S At Z = M at *
      obtain ⟨t, er, S'⟩ := M
      simp only at HM HMS
      go_wp2_with fail
      go_region_held3 (fun w' => w'.cell? ⟨b, off + j * 3 + 1, none⟩ = some (.int .i64 At) ∧ w'.cell? ⟨b, off + j * 3 + 2, none⟩ = some (.int .i64 Z)) (go_keep)
        (first
          | (go_at_call 13; refine (HM.out).mono ?_; rintro e w4 ⟨rfl, hb4, ht4⟩; have d0 : w4.cell? ⟨b, off + j * 3, none⟩ = some (.int .i64 K) := (by rw [ht4.cell (block_lt c0) (by simpa using hbq)]; exact c0); have d1 : w4.cell? ⟨b, off + j * 3 + 1, none⟩ = some (.int .i64 At) := (by rw [ht4.cell (block_lt c1) (by simpa using hbq)]; exact c1); have d2 : w4.cell? ⟨b, off + j * 3 + 2, none⟩ = some (.int .i64 Z) := (by rw [ht4.cell (block_lt c2) (by simpa using hbq)]; exact c2); have hs4 : w2.heap.size ≤ w4.heap.size := Nat.le_trans hw3 ht4.size; have HB4 := hide hb4; have HR4 := hide ((HR.out.keep (Turned.refl [] wr).drew (fun k hk => by simp)).keep ht4 (fun k hk => by have h1 := (ownsRow_lt HR.out k hk).1; have h2 := hs3.out.2; simp; omega)); have HT4 := hide ((HTr.out.drew).trans_new ht4 (fun i hi => by simp at hi; subst hi; exact .inr HPQ.out.2)); clear hb4 ht4))
      cases t
      · have e1 : S' = S := by
          rcases HMS.out with ⟨h1, _⟩ | ⟨_, h1⟩
          · cases h1
          · exact h1
        subst e1
        go_wp2_with fail
        go_roundw
        case rel => exact ⟨j + 1, S', ks, by omega, by omega, by omega, hs4, by go_num, HB4, HK, HR4, HT4⟩
        case measure => simp [intOf]; omega
      · have HK5 : Hid (Ks 500 S' (ks ++ [⟨K, At, Z⟩])) := by
          rcases HMS.out with ⟨_, h2, h3, h4, h5, h6, h7, _, h9⟩ | ⟨h1, _⟩
          · rw [h9]
            exact HK.out.more (o := ⟨K, At, Z⟩) h2 h3 h4 h5 h6 h7
          · cases h1
        clear HMS HK
        obtain ⟨va, vcap, rfl, -⟩ := HR4.out.at
        have hsz := HT4.out.size
        have HL4 := hide (fun k hk => ownsRow_lt HR4.out k hk)
        go_wp2_with (at_builtin; (refine wpList_append_own _ rfl _ _ 22 rfl w2.heap.size 33 i0 _ 3 24 Tryd.underlying22 hi hz0 hz1 hz2 rfl (by decide) _ _ _ rfl (World.ownsRow.alloc HR4.out _) ⟨w4.heap.size, 0, none⟩ 1 1 (Op3.cells ⟨K, At, Z⟩) rfl rfl (cells_new _ _ _ _ rfl) (Op3.cells_one _) (by unfold maxLen; omega) (by omega) (by simp; omega) ?_); intro v' w5 hown' hgrow5 hnil5; have HO5 := hide hown'; have HG5 := hide hgrow5; clear hown' hgrow5 hnil5)
        have htg : Turned (Value.ownBlock (.slice va ks.length vcap)).toList w4 w5 := Turned.grown ((Turned.refl _ w4).alloc _) (show (w4.alloc _).grownBy w5 (Value.slice va ks.length vcap).ownBlock from HG5.out) (fun k hk => .inl (by simpa using hk))
        have hnot : ∀ k, k < w2.heap.size → k ∉ (Value.ownBlock (.slice va ks.length vcap)).toList := fun k hk hm => by
          have h1 := HL4.out k (by simpa using hm)
          omega
        have h03 : 0 < w2.heap.size := block_lt (HB3.out.tab 0 (by omega))
        refine ⟨⟨j + 1, S', ks ++ [⟨K, At, Z⟩], by omega, by omega, by simp; omega, Nat.le_trans hs4 htg.size, by go_num, HB4.out.turned htg (hnot p hs3.out.1) (hnot q hs3.out.2) (hnot 0 h03), HK5, ?_, ?_⟩, by simp [intOf]; omega⟩
        · show World.ownsRow _ _ _ _ _ _ _
          rw [flat3_snoc, List.length_append]
          exact HO5.out
        · exact HT4.out.trans_new htg (fun i hi => .inr (by have h1 := HL4.out i (by simpa using hi); have h2 := HT3.out.size; omega))
    · have HX := hide (And.intro HB.out (And.intro HK.out (And.intro HR.out HTr.out)))
      by_cases h1 : j < len
      · have h2 : ¬ j < 40 := by omega
        go_wp2_with fail
        go_meet
        exact ⟨S, ks, by omega, HX.out⟩
      · have hd : decide ((j : Int) < (len : Int)) = false := decide_eq_false (by omega)
        go_wp2_with fail
        go_meet
        exact ⟨S, ks, by omega, HX.out⟩
  case rest =>
    obtain ⟨S, ks, hks, HX⟩ := hcut
    obtain ⟨va, vcap, rfl, -⟩ := HX.out.2.2.1.at
    have HK := hide HX.out.2.1
    have HBl := hide HK.out.bl
    have HL1 := hide (fun w h => live_any (some ⟨p, 0, none⟩) 500 S 0 500 w h HBl.out)
    rw [show kp 500 0 = 0 by decide, show kp 500 500 = 500 by decide, cntIn_zero, ← tot_live HBl.out] at HL1
    have htl : tot S 500 ≤ 500 := by rw [tot_live HBl.out]; exact cnt_le _ _
    obtain ⟨bf, hbf⟩ : ∃ bf, bf = tot S 500 := ⟨_, rfl⟩
    rw [← hbf] at HL1 htl
    have HBF := hide hbf
    clear hbf
    go_wp2_with fail
    refine (HL1.out wc HX.out.1.brd).mono ?_
    rintro e w6 ⟨rfl, ht6⟩
    have HB6 := hide (HX.out.1.turned0 ht6)
    have HR6 := hide (HX.out.2.2.1.keep ht6 (fun k hk => by simp))
    have HT6 := hide (HX.out.2.2.2.trans ht6)
    clear HX ht6
    go_wp2_with fail
    have ht7 : Turned [] w6 (w6.alloc (.cells #[.int .i64 x, .int .i64 y] 38)) := (Turned.refl [] w6).alloc _
    have hsp : SpRd (w6.alloc (.cells #[.int .i64 x, .int .i64 y] 38)) w6.heap.size [(x, y)] := ⟨fun i r hr => by
      cases i with
      | zero =>
        simp at hr
        subst hr
        exact ⟨by rw [cell_of_heap (heap_alloc_new _ _)]; rfl, by rw [cell_of_heap (heap_alloc_new _ _)]; rfl⟩
      | succ i => simp at hr⟩
    have HB7 := hide (HB6.out.turned0 ht7)
    have HR7 := hide (HR6.out.keep ht7 (fun k hk => by simp))
    have HT7 := hide (HT6.out.trans ht7)
    have hq6 : w6.heap.size ≠ q := by have := HB6.out.ltq; omega
    have HCl := hide (clear_any (some ⟨p, 0, none⟩) p q 500 S (some ⟨w6.heap.size, 0, none⟩) 1 1 [(x, y)] _ (HB7.out.ob HBl.out) (by omega) rfl (fun h => absurd h (by omega)) (fun _ => ⟨_, rfl, hsp, hq6⟩) HB7.out.ltq [q] (fun _ => by simp))
    clear HB6 HR6 HT6 ht7 hsp hq6
    generalize w6.alloc (.cells #[.int .i64 x, .int .i64 y] 38) = w7 at *
    generalize w6.heap.size = g7 at *
    refine (HCl.out).mono ?_
    rintro e w8 ⟨rfl, hob8, ht8⟩
    have HB8 := hide (hob8.own (by omega)).2
    have HR8 := hide (HR7.out.keep ht8 (fun k hk => by have h1 := (ownsRow_lt HR7.out k hk).1; have h2 := hs3.out.2; simp; omega))
    have HT8 := hide (HT7.out.trans_new ht8 (fun i hi => by simp at hi; subst hi; exact .inr HPQ.out.2))
    have HSl := hide (Sel.clr HK.out x y)
    have eS2 : clrs 500 S [(x, y)] = clr S (kp 500 x) (kp 500 y) := rfl
    rw [eS2] at HB8
    clear HB7 HR7 HT7 hob8 ht8 HCl eS2
    generalize clr S (kp 500 x) (kp 500 y) = S2 at *
    have HBl2 := hide (HSl.out.bl HBl.out)
    go_wp2_with fail
    go_loopw [14, 15, 16] (fun g_ i_ _ wr => ∃ (i gn : Nat) (U : Nat → Nat), i ≤ ks.length ∧ gn ≤ bf ∧ i_ = .int .i64 i ∧ g_ = .int .i64 gn ∧ Hid (Sel S U ks (fun j o => !(decide (j < i) && inB x y o))) ∧ Hid (gn + tot U 500 = bf) ∧ Hid (Bts wr p q 500 (sidesOf S2)) ∧ Hid (KRow wr w2.heap.size (.slice va ks.length vcap) ks) ∧ Hid (Turned [] w wr)) (fun _ i_ _ _ => ks.length - (intOf i_).toNat)
    case atStart => exact ⟨0, 0, S, Nat.zero_le _, Nat.zero_le _, rfl, rfl, ⟨fun k => .inl rfl, fun j o _ => by simp⟩, by show _ = _; rw [HBF.out]; omega, HB8, HR8, HT8⟩
    case round =>
      obtain ⟨i, gn, U, hi', hgn, rfl, rfl, HU, HG, HB, HR, HTr⟩ := hrel
      by_cases hlt : i < ks.length
      · obtain ⟨o, ho⟩ : ∃ o, ks[i]? = some o := ⟨_, List.getElem?_eq_getElem hlt⟩
        obtain ⟨va', vcap', eva, hat⟩ := HR.out.at
        injection eva with e1 e2 e3
        subst e1
        subst e3
        obtain ⟨g, rfl, hg3, hgs, hgo, c1, c2⟩ := hat i o ho
        have hm := HK.out.mem o (List.mem_of_getElem? ho)
        have HH := hide (bhas_any (some ⟨p, 0, none⟩) 500 S2 o.a wr HB.out.brd HBl2.out)
        have hsz : szI S2 o.a = if !inB x y o then S o.a.toNat else 0 := by
          unfold szI
          rw [if_pos hm.1]
          exact HSl.out.on i o ho
        rw [hsz] at HH
        have hlti : (i : Int) < (ks.length : Int) := by omega
        have hSp : 0 < S o.a.toNat := by omega
        cases hib : inB x y o
        · have HU2 : Hid (Sel S U ks (fun j o => !(decide (j < i + 1) && inB x y o))) := by
            refine ⟨HU.out.sub, fun j o' h1 => ?_⟩
            rw [HU.out.on j o' h1]
            by_cases hj : j = i
            · subst hj
              rw [ho] at h1
              injection h1 with h1
              subst h1
              simp [hib]
            · have h2 : decide (j < i + 1) = decide (j < i) := by
                by_cases h3 : j < i
                · rw [decide_eq_true h3, decide_eq_true (by omega)]
                · rw [decide_eq_false h3, decide_eq_false (by omega)]
              rw [h2]
          rw [hib] at HH
          simp only [Bool.not_false, if_true] at HH
          rw [decide_eq_true hSp] at HH
          obtain ⟨K, At, Z⟩ := o
          simp only at *
          unfold inB at hib
          clear hm hsz hSp ho hat HU
          by_cases h1 : x ≤ At
          · have h2 : ¬ (At < y) := by
              intro h2
              simp [h1, h2] at hib
            go_wp2_with fail
            refine (HH.out).mono ?_
            rintro e w9 ⟨rfl, m9, rfl⟩
            have htd := (Turned.refl [] wr).drewN m9
            have HB9 := hide (HB.out.turned0 htd)
            have HR9 := hide (HR.out.keep htd (fun k hk => by simp))
            have HT9 := hide (HTr.out.trans htd)
            clear htd HB HR HTr
            go_wp2_with fail
            go_roundw
            case rel => exact ⟨i + 1, gn, U, by omega, hgn, by go_num, rfl, HU2, HG, HB9, HR9, HT9⟩
            case measure => simp [intOf]; omega
          · have hd : decide (x ≤ At) = false := decide_eq_false h1
            go_wp2_with fail
            refine (HH.out).mono ?_
            rintro e w9 ⟨rfl, m9, rfl⟩
            have htd := (Turned.refl [] wr).drewN m9
            have HB9 := hide (HB.out.turned0 htd)
            have HR9 := hide (HR.out.keep htd (fun k hk => by simp))
            have HT9 := hide (HTr.out.trans htd)
            clear htd HB HR HTr
            go_wp2_with fail
            go_roundw
            case rel => exact ⟨i + 1, gn, U, by omega, hgn, by go_num, rfl, HU2, HG, HB9, HR9, HT9⟩
            case measure => simp [intOf]; omega
        · have hUo : U o.a.toNat = S o.a.toNat := by
            rw [HU.out.on i o ho]
            simp
          have hto := tot_upd U o.a.toNat 0 500 (by omega)
          have HU2 : Hid (Sel S (upd U o.a.toNat 0) ks (fun j o => !(decide (j < i + 1) && inB x y o))) := by
            refine HU.out.put HK.out ho 0 (by simp [hib]) (fun j o' h1 h2 => ?_)
            have h3 : decide (j < i + 1) = decide (j < i) := by
              by_cases h3 : j < i
              · rw [decide_eq_true h3, decide_eq_true (by omega)]
              · rw [decide_eq_false h3, decide_eq_false (by omega)]
            rw [h3]
          rw [hib] at HH
          simp only [Bool.not_true, Bool.false_eq_true, if_false] at HH
          obtain ⟨Zn, hZn⟩ := Int.eq_ofNat_of_zero_le (show 0 ≤ o.z by omega)
          have hg2 : (gn + Zn) + tot (upd U o.a.toNat 0) 500 = bf := by
            have := HG.out
            omega
          have HG2 := hide hg2
          have hgn2 : gn + Zn ≤ bf := by omega
          generalize upd U o.a.toNat 0 = U2 at *
          obtain ⟨K, At, Z⟩ := o
          simp only at *
          subst hZn
          unfold inB at hib
          have h1 : x ≤ At := by simp at hib; exact hib.1
          have h2 : At < y := by simp at hib; exact hib.2
          have hZ5 : Zn ≤ 500 := by omega
          clear hm hsz hSp ho hat HU hUo hto hg2 HG hib
          go_wp2_with fail
          refine (HH.out).mono ?_
          rintro e w9 ⟨rfl, m9, rfl⟩
          have htd := (Turned.refl [] wr).drewN m9
          have HB9 := hide (HB.out.turned0 htd)
          have HR9 := hide (HR.out.keep htd (fun k hk => by simp))
          have HT9 := hide (HTr.out.trans htd)
          clear htd HB HR HTr
          go_wp2_with fail
          go_roundw
          case rel => exact ⟨i + 1, gn + Zn, U2, by omega, hgn2, by go_num, by go_num, HU2, HG2, HB9, HR9, HT9⟩
          case measure => simp [intOf]; omega
      · have hU : U = S2 := HU.out.eq HSl.out HK.out (fun j o h1 => by
          have := (List.getElem?_eq_some_iff.1 h1).1
          have h2 : decide (j < i) = true := decide_eq_true (by omega)
          rw [h2]
          rfl)
        subst hU
        have hgb : gn + cnt (live U) 500 = bf := by rw [← tot_live HBl2.out]; exact HG.out
        have L9 := hide (live_any (some ⟨p, 0, none⟩) 500 U 0 500 wr HB.out.brd HBl2.out)
        rw [show kp 500 0 = 0 by decide, show kp 500 500 = 500 by decide, cntIn_zero] at L9
        generalize cnt (live U) 500 = lv at *
        clear HU HG
        go_wp2_with fail
        refine (L9.out).mono ?_
        rintro e w9 ⟨rfl, ht9⟩
        have HB9 := hide (HB.out.turned0 ht9)
        have HR9 := hide (HR.out.keep ht9 (fun k hk => by simp))
        have HT9 := hide (HTr.out.trans ht9)
        clear ht9 HB HR HTr L9
        have hne : ¬ ((lv : Int) ≠ (bf : Int) - gn) := by omega
        have hne2 : ((lv : Int) != (bf : Int) - gn) = false := by simp; omega
        go_wp2_with fail
        clear hne hne2 hgb
        go_loopw [17, 18, 19, 20] (fun i_ _ _ _ wr => ∃ (i : Nat) (T : Nat → Nat), i ≤ ks.length ∧ i_ = .int .i64 i ∧ Hid (Sel S T ks (fun j o => decide (j < i) || !inB x y o)) ∧ Hid (Bts wr p q 500 (sidesOf T)) ∧ Hid (KRow wr w2.heap.size (.slice va ks.length vcap) ks) ∧ Hid (Turned [] w wr)) (fun i_ _ _ _ _ => ks.length - (intOf i_).toNat)
        case atStart => exact ⟨0, U, Nat.zero_le _, rfl, ⟨HSl.out.sub, fun j o h1 => by rw [HSl.out.on j o h1]; simp⟩, HB9, HR9, HT9⟩
        case round =>
          clear HB9 HR9 HT9 hi' hlt
          obtain ⟨i, T, hi', rfl, HU, HB, HR, HTr⟩ := hrel
          by_cases hlt : i < ks.length
          · obtain ⟨o, ho⟩ : ∃ o, ks[i]? = some o := ⟨_, List.getElem?_eq_getElem hlt⟩
            obtain ⟨va', vcap', eva, hat⟩ := HR.out.at
            injection eva with e1 e2 e3
            subst e1
            subst e3
            obtain ⟨g, rfl, hg3, hgs, hgo, c1, c2⟩ := hat i o ho
            have hm := HK.out.mem o (List.mem_of_getElem? ho)
            have hok := HBl.out.into o.a.toNat (by omega)
            have hoz : In64 o.z := by unfold In64; omega
            have HM := hide (fun w h => mark_any p q 500 T o.a o.z w h (HU.out.bl HBl.out) hoz)
            have hgq : g ≠ q := by have := hs3.out.2; omega
            have hlti : (i : Int) < (ks.length : Int) := by omega
            obtain ⟨T2, hT2⟩ : ∃ T2, T2 = if inB x y o then upd T o.a.toNat o.z.toNat else T := ⟨_, rfl⟩
            have HU2 : Hid (Sel S T2 ks (fun j o => decide (j < i + 1) || !inB x y o)) := by
              have hdj : ∀ j, j ≠ i → decide (j < i + 1) = decide (j < i) := fun j hj => by
                by_cases h3 : j < i
                · rw [decide_eq_true h3, decide_eq_true (by omega)]
                · rw [decide_eq_false h3, decide_eq_false (by omega)]
              rw [hT2]
              cases hib : inB x y o
              · refine ⟨HU.out.sub, fun j o' h1 => ?_⟩
                simp only [Bool.false_eq_true, if_false]
                rw [HU.out.on j o' h1]
                by_cases hj : j = i
                · subst hj
                  rw [ho] at h1
                  injection h1 with h1
                  subst h1
                  simp [hib]
                · rw [hdj j hj]
              · simp only [if_true]
                exact HU.out.put HK.out ho _ (by simp; omega) (fun j o' h1 h2 => by rw [hdj j h2])
            have hmk : markT 500 T o.a o.z = (inB x y o, 0, T2) := by
              rw [hT2]
              cases hib : inB x y o
              · refine mark_again (by omega) (by omega) ?_
                rw [HU.out.on i o ho, hib]
                simp
                omega
              · obtain ⟨h0, hf⟩ := HU.out.free HK.out ho (by simp [hib])
                exact mark_free (by omega) (by omega) h0 hf
            rw [hmk] at HM
            clear hmk hT2 hm hok hoz ho hat HU
            cases hib : inB x y o
            · rw [hib] at HM
              obtain ⟨K, At, Z⟩ := o
              simp only at *
              unfold inB at hib
              by_cases h1 : x ≤ At
              · have h2 : ¬ (At < y) := by
                  intro h2
                  simp [h1, h2] at hib
                clear hib
                go_wp2_with fail
                go_region_held3 (fun w' => w'.cell? ⟨g, i * 3 + 1, none⟩ = some (.int .i64 At) ∧ w'.cell? ⟨g, i * 3 + 2, none⟩ = some (.int .i64 Z)) (go_keep)
                  (first
                    | (go_at_call 13; refine (HM.out wr.drew (HB.out.turned0 (Turned.refl [] wr).drew)).mono ?_; rintro e w4 ⟨rfl, hb4, ht4⟩; have d1 : w4.cell? ⟨g, i * 3 + 1, none⟩ = some (.int .i64 At) := (by rw [ht4.cell (block_lt c1) (by simpa using hgq)]; exact c1); have d2 : w4.cell? ⟨g, i * 3 + 2, none⟩ = some (.int .i64 Z) := (by rw [ht4.cell (block_lt c2) (by simpa using hgq)]; exact c2); have HB4 := hide hb4; have HT4' := hide (((Turned.refl [q] wr).drew).trans ht4); clear hb4 ht4))
                have HR4 := hide (HR.out.keep HT4'.out (fun k hk => by rw [hgo] at hk; injection hk with hk; subst hk; simpa using hgq))
                have HTr4 := hide (HTr.out.trans_new HT4'.out (fun i hi => by simp at hi; subst hi; exact .inr HPQ.out.2))
                clear HT4' HB HR HTr c1 c2 d1 d2
                go_wp2_with fail
                go_roundw
                case rel => exact ⟨i + 1, T2, by omega, by go_num, HU2, HB4, HR4, HTr4⟩
                case measure => simp [intOf]; omega
              · have hd : decide (x ≤ At) = false := decide_eq_false h1
                clear hib
                go_wp2_with fail
                go_region_held3 (fun w' => w'.cell? ⟨g, i * 3 + 1, none⟩ = some (.int .i64 At) ∧ w'.cell? ⟨g, i * 3 + 2, none⟩ = some (.int .i64 Z)) (go_keep)
                  (first
                    | (go_at_call 13; refine (HM.out wr.drew (HB.out.turned0 (Turned.refl [] wr).drew)).mono ?_; rintro e w4 ⟨rfl, hb4, ht4⟩; have d1 : w4.cell? ⟨g, i * 3 + 1, none⟩ = some (.int .i64 At) := (by rw [ht4.cell (block_lt c1) (by simpa using hgq)]; exact c1); have d2 : w4.cell? ⟨g, i * 3 + 2, none⟩ = some (.int .i64 Z) := (by rw [ht4.cell (block_lt c2) (by simpa using hgq)]; exact c2); have HB4 := hide hb4; have HT4' := hide (((Turned.refl [q] wr).drew).trans ht4); clear hb4 ht4))
                have HR4 := hide (HR.out.keep HT4'.out (fun k hk => by rw [hgo] at hk; injection hk with hk; subst hk; simpa using hgq))
                have HTr4 := hide (HTr.out.trans_new HT4'.out (fun i hi => by simp at hi; subst hi; exact .inr HPQ.out.2))
                clear HT4' HB HR HTr c1 c2 d1 d2
                go_wp2_with fail
                go_roundw
                case rel => exact ⟨i + 1, T2, by omega, by go_num, HU2, HB4, HR4, HTr4⟩
                case measure => simp [intOf]; omega
            · rw [hib] at HM
              obtain ⟨K, At, Z⟩ := o
              simp only at *
              unfold inB at hib
              have h1 : x ≤ At := by simp at hib; exact hib.1
              have h2 : At < y := by simp at hib; exact hib.2
              clear hib
              go_wp2_with fail
              go_region_held3 (fun w' => w'.cell? ⟨g, i * 3 + 1, none⟩ = some (.int .i64 At) ∧ w'.cell? ⟨g, i * 3 + 2, none⟩ = some (.int .i64 Z)) (go_keep)
                (first
                  | (go_at_call 13; refine (HM.out wr.drew (HB.out.turned0 (Turned.refl [] wr).drew)).mono ?_; rintro e w4 ⟨rfl, hb4, ht4⟩; have d1 : w4.cell? ⟨g, i * 3 + 1, none⟩ = some (.int .i64 At) := (by rw [ht4.cell (block_lt c1) (by simpa using hgq)]; exact c1); have d2 : w4.cell? ⟨g, i * 3 + 2, none⟩ = some (.int .i64 Z) := (by rw [ht4.cell (block_lt c2) (by simpa using hgq)]; exact c2); have HB4 := hide hb4; have HT4' := hide (((Turned.refl [q] wr).drew).trans ht4); clear hb4 ht4))
              have HR4 := hide (HR.out.keep HT4'.out (fun k hk => by rw [hgo] at hk; injection hk with hk; subst hk; simpa using hgq))
              have HTr4 := hide (HTr.out.trans_new HT4'.out (fun i hi => by simp at hi; subst hi; exact .inr HPQ.out.2))
              clear HT4' HB HR HTr c1 c2 d1 d2
              go_wp2_with fail
              go_roundw
              case rel => exact ⟨i + 1, T2, by omega, by go_num, HU2, HB4, HR4, HTr4⟩
              case measure => simp [intOf]; omega
          · have hU : T = S := HU.out.eq (Sel.full (n := 500)) HK.out (fun j o h1 => by
              have := (List.getElem?_eq_some_iff.1 h1).1
              have h2 : decide (j < i) = true := decide_eq_true (by omega)
              rw [h2]
              rfl)
            subst hU
            clear HU
            go_wp2_with fail
            refine (HL1.out wr HB.out.brd).mono ?_
            rintro e w9 ⟨rfl, ht9⟩
            have HB9 := hide (HB.out.turned0 ht9)
            have HT9 := hide (HTr.out.trans ht9)
            clear ht9 HB HR HTr
            have HC9 := hide (clear_any (some ⟨p, 0, none⟩) p q 500 T none 0 0 [(0, 500)] w9 (HB9.out.ob HBl.out) (by omega) rfl (fun _ => rfl) (fun h => absurd h (by omega)) HB9.out.ltq [q] (fun _ => by simp))
            have eS0 : clrs 500 T [(0, 500)] = S0 := clr_all HBl.out
            rw [eS0] at HC9
            go_wp2_with fail
            refine (HC9.out).mono ?_
            rintro e w10 ⟨rfl, hob, ht10⟩
            have HB10 := hide (hob.own (by omega)).2
            have HT10 := hide (HT9.out.trans_new ht10 (fun i hi => by simp at hi; subst hi; exact .inr HPQ.out.2))
            clear HB9 HT9 ht10 hob HC9
            have L10 := hide (live_any (some ⟨p, 0, none⟩) 500 S0 0 500 w10 HB10.out.brd (Bl.none _))
            rw [show kp 500 0 = 0 by decide, show kp 500 500 = 500 by decide, cntIn_zero, cnt_live0] at L10
            go_wp2_with fail
            refine (L10.out).mono ?_
            rintro e w11 ⟨rfl, ht11⟩
            have HB11 := hide (HB10.out.turned0 ht11)
            have HT11 := hide (HT10.out.trans ht11)
            clear ht11 HB10 HT10 L10
            have C11 := hide (count_any (some ⟨p, 0, none⟩) 500 _ 0 500 w11 HB11.out.brd)
            rw [show kp 500 0 = 0 by decide, show kp 500 500 = 500 by decide, cntIn_zero, sidesOf0, cnt_begs0] at C11
            go_wp2_with fail
            refine (C11.out).mono ?_
            rintro e w12 ⟨rfl, m12, rfl⟩
            have HB12 := hide (HB11.out.drewN m12)
            have HT12 := hide (HT11.out.drewN m12)
            clear HB11 HT11 C11
            generalize w11.drewN m12 = w13 at *
            have N13 := hide (next_any (some ⟨p, 0, none⟩) 500 _ 0 500 w13 HB12.out.brd)
            go_wp2_with fail
            refine (N13.out).mono ?_
            rintro e w14 ⟨r, rfl, hr, m14, rfl⟩
            have hr1 : r = -1 := by
              rcases hr with ⟨h1, _⟩ | ⟨k, _, _, _, h4, _⟩
              · exact h1
              · rw [sidesOf0] at h4
                cases h4
            subst hr1
            have HT14 := hide (HT12.out.drewN m14)
            clear hr N13
            go_wp2_with fail
            go_ret
            exact ⟨rfl, HT14.out⟩

set_option maxRecDepth 100000 in
theorem bitsAgain_lifted (os : Os) (started : os.Started) (H : Type) (enc : TypeId × Value → H) :
    ReturnsInHanded {} Tryd.checked os 7 .any (fun w args => (Rows.bitsAgainSpec.pre enc Tryd.prog Tryd.f7 [] false w args ∧ laidMetH Tryd.prog laidTab w) ∧ sizedMet enc Tryd.prog Tryd.f7 (OpenSpec.ofChange Rows.bitsAgainSpec) false w args)
      (Rows.bitsAgainSpec.post enc Tryd.prog Tryd.f7 false true false false) := by
  refine returnsInHanded_of_change_and (C := Tryd.checked) (X := fun w _ => laidMetH Tryd.prog laidTab w) (fun _ _ _ hh h => h.of_heap hh) own started (by kernel_rfl) Tryd.func7
    (ChangeSpec.witness_shaped (enc := enc) (C := Tryd.checked) (os := os) (X := fun w _ => laidMetH Tryd.prog laidTab w) false (World.doorLaid Tryd.prog 400 os) #[.slice none 0 0, .int .i64 0, .int .i64 0] 8 rfl (World.shaped_of_RefB (by kernel_rfl) (by kernel_rfl)) (by kernel_rfl) (by kernel_rfl) (by kernel_rfl) (door_met os _)) ?_
  intro W base args ds gs before hval0 hW _ _ hL _
  have hTab := tab_of hL
  have hval : ∀ (j : Nat) t v, Tryd.f7.params[j]? = some t → args[j]? = some v → Value.okWide Tryd.prog W .any base t v := hval0
  have hW' := hW
  obtain ⟨p, q, hA0, hV, rfl, hfz, hnd⟩ := hW
  have hA : DataW.TrodAll enc Tryd.prog W 0 (fun _ => true) true Tryd.f7.params.toList args.toList ds p := hA0
  rw [Tryd.params7] at hA hval
  obtain ⟨v0, vs0, d0, ds0, p0, q0, hargs, rfl, rfl, h0, r0⟩ := trodAll_cons hA
  obtain ⟨v1, vs1, d1, ds1, p1, q1, rfl, rfl, rfl, h1, r1⟩ := trodAll_cons r0
  obtain ⟨v2, vs2, d2, ds2, p2, q2, rfl, rfl, rfl, h2, r2⟩ := trodAll_cons r1
  obtain ⟨rfl, rfl, rfl⟩ := trodAll_nil r2
  obtain rfl : args = #[v0, v1, v2] := by cases args; simp_all
  obtain ⟨rfl, rfl⟩ := trodVars_none hV
  obtain ⟨a0, len0, cap0, rfl⟩ := okWide_slice Tryd.underlying22 (hval 0 22 v0 rfl rfl)
  have k0 := h0
  have lt0 : ∀ x ∈ p0, x.block < W.heap.size := by obtain ⟨m, hm⟩ := k0; exact DataW.trod_lt m _ _ _ hm
  obtain ⟨z0, w0⟩ := open_ops h0
  obtain ⟨a1, rfl, rfl, rfl, w1⟩ := open_int Tryd.underlying3 (hval 1 3 v1 rfl rfl) h1
  obtain ⟨a2, rfl, rfl, rfl, w2⟩ := open_int Tryd.underlying3 (hval 2 3 v2 rfl rfl) h2
  simp only [List.append_nil] at hW'
  clear hA0 hval0
  refine (bitsAgain_walk a0 len0 cap0 z0 a1 a2 W w0 w1 w2 hTab).mono fun e W' ⟨he, ht⟩ => ?_
  subst he
  have bel : Below W.heap.size W W' := ht.below0
  exact ⟨_, rfl, _, _, _, [], _, [], hW', trodAll_mk1 (shut_bool Tryd.underlying4 _), (trodAll_cons_mk (Below.trod laidOut (by kernel_rfl) (of_decide_eq_true (by kernel_rfl)) k0 bel lt0) (trodAll_cons_mk (shut_int Tryd.underlying3 w1) (trodAll_cons_mk (shut_int Tryd.underlying3 w2) trodAll_mk0))), rfl, bel.frame _, fun h => by cases h⟩

theorem bitsAgain_over : Rows.bitsAgainRow.holds Tryd.pinned (OpenSpec.ofChange Rows.bitsAgainSpec) :=
  OpenClaim.holds_of_wide 7 Tryd.f7 rfl rfl rfl rfl rfl rfl rfl ⟨rfl, rfl, rfl, rfl, rfl⟩ rfl rfl rfl rfl rfl (by kernel_rfl) Tryd.func7 (by kernel_rfl)
    (of_decide_eq_true (by kernel_rfl)) (by unfold Func.isWrapper; first | (rw [if_pos (by decide +kernel)]; kernel_rfl) | (rw [if_neg (by decide +kernel)]; exact ⟨rfl, rfl⟩))
    (fun os started H enc _ => bitsAgain_lifted os started H enc)

theorem bitsAgain_holds : Rows.BitsAgainSaid := bitsAgain_over

theorem bitsAgain_card : Rows.BitsAgainCardSaid :=
  Claim7.holds_tied_plain_at .later [] [.data] true _ false
    bitsAgain_holds (fun _ h => by cases h) (by kernel_rfl) (fun _ h => by cases h) bitsAgain_row_tie rfl ⟨rfl, rfl⟩ (by kernel_rfl) rfl
    (fun f fn hf hfn => by
      obtain rfl : f = 7 := Option.some.inj ((show Tryd.prog.funcNamed "ballast/ballastlaw05.BitsAgain" = some 7 by kernel_rfl).symm.trans hf) |>.symm
      obtain rfl : fn = Tryd.f7 := (Option.some.inj (Tryd.func7.symm.trans hfn)).symm
      exact ⟨by kernel_rfl, fun j t ht => by
        rw [Tryd.params7] at ht
        have h3 : t ∈ [22, 3, 3] := by
          have h4 := Array.mem_of_getElem? ht
          simpa using h4
        have h5 : ∀ u, u ∈ [22, 3, 3] → Tryd.prog.wantsStandIn u = false := by
          intro u hu
          simp only [List.mem_cons, List.not_mem_nil, or_false] at hu
          rcases hu with rfl | rfl | rfl <;> kernel_rfl
        exact h5 t h3⟩)
    (by kernel_rfl)
#print axioms bitsAgain_card
end Go.Proofs.YtaofkddondaceaaDoor

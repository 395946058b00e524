/-
  BitsOrder: of blocks that lie apart it is all one which is marked first; of several that mark one just one is told true. For every list of blocks.
-/
import Derived.Test.YtaofkddondaceaaDoorOpsKept
import Derived.Test.YtaofkddondaceaaDoorLawLaid
import Derived.Test.YtaofkddondaceaaDoorCards
import Derived.Test.YtaofkddondaceaaDoorTie
import Derived.SevenTiedAt
namespace Go.Proofs.YtaofkddondaceaaDoor
open Go.ChangeShapes Go.WideShapes Go.ChangeAt Go.RowKit
set_option linter.unusedVariables false

/-- Of the kept blocks those from i on are marked, the others not. -/
structure Half (S T : Nat → Nat) (ks : List Op3) (i : Nat) : Prop where
  sub : ∀ k, T k = S k ∨ T k = 0
  on : ∀ j o, i ≤ j → ks[j]? = some o → T o.a.toNat = S o.a.toNat
  off : ∀ j o, j < i → ks[j]? = some o → T o.a.toNat = 0
theorem Half.bl {n : Nat} {S T : Nat → Nat} {ks : List Op3} {i : Nat} (h : Half S T ks i) (hs : Bl n S) : Bl n T := by
  have k : ∀ b, 0 < T b → T b = S b := fun b hb => by
    rcases h.sub b with h1 | h1
    · exact h1
    · omega
  constructor
  · intro b hb
    have e := k b hb
    rw [e] at hb ⊢
    exact hs.into b hb
  · intro b c hbc hb hc
    have e := k b hb
    have e2 := k c hc
    rw [e] at hb ⊢
    rw [e2] at hc
    exact hs.apart b c hbc hb hc
theorem Half.free {n : Nat} {S T : Nat → Nat} {ks : List Op3} {i : Nat} {o : Op3} (h : Half S T ks (i + 1)) (hk : Ks n S ks) (ho : ks[i]? = some o) : T o.a.toNat = 0 ∧ Free T o.a.toNat o.z.toNat := by
  have h0 := h.off i o (by omega) ho
  have hm := hk.mem o (List.mem_of_getElem? ho)
  refine ⟨h0, fun k h1 h2 => ?_⟩
  unfold live
  rw [bo_false]
  rintro ⟨b, hb1, hb2⟩
  have hb : T b = S b := by
    rcases h.sub b with h3 | h3
    · exact h3
    · omega
  have h4 := hk.bl.one (a := b) (b := o.a.toNat) (k := k) ⟨hb1, by omega⟩ ⟨h1, by omega⟩
  subst h4
  omega
theorem Half.next {n : Nat} {S T : Nat → Nat} {ks : List Op3} {i : Nat} {o : Op3} (h : Half S T ks (i + 1)) (hk : Ks n S ks) (ho : ks[i]? = some o) : Half S (upd T o.a.toNat o.z.toNat) ks i := by
  have hm := hk.mem o (List.mem_of_getElem? ho)
  have hne : ∀ j o', ks[j]? = some o' → j ≠ i → o'.a.toNat ≠ o.a.toNat := by
    intro j o' h1 h2 h3
    have h4 := hk.mem o' (List.mem_of_getElem? h1)
    exact h2 (hk.once j i o' o h1 ho (by omega))
  refine ⟨fun k => ?_, fun j o' h1 h2 => ?_, fun j o' h1 h2 => ?_⟩
  · by_cases hko : k = o.a.toNat
    · subst hko
      rw [upd_at]
      exact .inl (by omega)
    · rw [upd_ne T hko]
      exact h.sub k
  · by_cases hj : j = i
    · subst hj
      rw [ho] at h2
      injection h2 with h2
      subst h2
      rw [upd_at]
      omega
    · rw [upd_ne T (hne j o' h2 hj)]
      exact h.on j o' (by omega) h2
  · rw [upd_ne T (hne j o' h2 (by omega))]
    exact h.off j o' (by omega) h2
theorem Half.all {n : Nat} {S T : Nat → Nat} {ks : List Op3} (h : Half S T ks 0) (hk : Ks n S ks) : T = S := by
  funext k
  rcases h.sub k with h1 | h1
  · exact h1
  · by_cases hs : 0 < S k
    · obtain ⟨o, ho, hok⟩ := hk.all k hs
      obtain ⟨j, hj⟩ := List.getElem?_of_mem ho
      have h2 := h.on j o (by omega) hj
      have h3 : o.a.toNat = k := by omega
      rw [h3] at h2
      exact h2
    · omega

set_option maxHeartbeats 4000000 in
set_option maxRecDepth 100000 in
theorem bitsOrder_walk (ao : Option Addr) (len cap : Nat) (cs : List Op3) (w : World) (h : ORd w ao len cs) (hT : Tab w) :
    Calls Tryd.prog 5 #[.slice ao len cap] w fun e w' => e = .returned (.bool true) ∧ Turned [] w w' := by
  have HT := hide hT
  have HO := hide h
  have HL := hide h.size
  have hroom := h.room
  have HAw := hide (awake_any w hT)
  obtain ⟨i0, hi, hz0, hz1, hz2⟩ := info_parts Tryd.infoOp
  clear h hT
  go_enter Tryd.func5, Tryd.ntmps5
  go_wp2_with fail
  refine (HAw.out).mono ?_
  rintro e w1 ⟨rfl, ht1⟩
  have HN := hide (new_any 1000 w1 (by unfold In64; omega) (HT.out.turned ht1 (by simp)))
  rw [show kp 65536 1000 = 1000 by decide] at HN
  have HT1 := hide ht1
  clear ht1 HAw
  go_wp2_with fail
  refine (HN.out).mono ?_
  rintro e w2 ⟨p, q, rfl, hb2, hp2, hq2, ht2⟩
  have HB2 := hide hb2
  have HPQ := hide (And.intro (Nat.le_trans HT1.out.size hp2) (Nat.le_trans HT1.out.size hq2))
  have HT2 := hide (HT1.out.trans ht2)
  clear hb2 hp2 hq2 ht2 HN HT1
  have HN2 := hide (new_any 1000 w2 (by unfold In64; omega) HB2.out.tab)
  rw [show kp 65536 1000 = 1000 by decide] at HN2
  go_wp2_with fail
  refine (HN2.out).mono ?_
  rintro e w3 ⟨p2, q2, rfl, hb3, hp3, hq3, ht3⟩
  have HC3 := hide hb3
  have HB3 := hide (HB2.out.turned0 ht3)
  have HPQ2 := hide (And.intro (Nat.le_trans HT2.out.size hp3) (Nat.le_trans HT2.out.size hq3))
  have HNe : Hid (p ≠ p2 ∧ p ≠ q2 ∧ q ≠ p2 ∧ q ≠ q2) := by
    have h1 := HB2.out.ltp
    have h2 := HB2.out.ltq
    refine ⟨?_, ?_, ?_, ?_⟩ <;> omega
  have hs3 : Hid (p < w3.heap.size ∧ q < w3.heap.size ∧ p2 < w3.heap.size ∧ q2 < w3.heap.size) := ⟨HB3.out.ltp, HB3.out.ltq, hb3.ltp, hb3.ltq⟩
  have HT3 := hide (HT2.out.trans ht3)
  clear hb3 hp3 hq3 ht3 HN2 HB2 HT2
  go_upto_block 0 with fail
  go_cut [6, 7, 8, 9] (fun v _ _ _ wc => ∃ (S : Nat → Nat) (ks : List Op3), ks.length ≤ 40 ∧ Aside (Bts wc p q 1000 (sidesOf S) ∧ Bts wc p2 q2 1000 (sidesOf S0) ∧ Ks 1000 S ks ∧ KRow wc w3.heap.size v ks ∧ Turned [] w wc))
  case first =>
   go_wp2_with fail
   go_loopw [6, 7, 8, 9] (fun v i _ _ wr => ∃ (j : Nat) (S : Nat → Nat) (ks : List Op3), j ≤ len ∧ j ≤ 40 ∧ ks.length ≤ j ∧ w3.heap.size ≤ wr.heap.size ∧ i = .int .i64 j ∧ Hid (Bts wr p q 1000 (sidesOf S)) ∧ Hid (Bts wr p2 q2 1000 (sidesOf S0)) ∧ Hid (Ks 1000 S ks) ∧ Hid (KRow wr w3.heap.size v ks) ∧ Hid (Turned [] w wr)) (fun _ i _ _ _ => 40 - (intOf i).toNat)
   case atStart => exact ⟨0, S0, [], Nat.zero_le _, by omega, Nat.le_refl _, Nat.le_refl _, rfl, HB3.out, HC3.out, Ks.none _, World.ownsRow_nil _ _ _ _, HT3.out⟩
   case round =>
    obtain ⟨j, S, ks, hj, hj6, hkl, hw3, rfl, HB, HC, HK, HR, HTr⟩ := hrel
    by_cases hlt : j < len ∧ j < 40
    · obtain ⟨o, ho⟩ : ∃ o, cs[j]? = some o := ⟨_, List.getElem?_eq_getElem (by have := HL.out; omega)⟩
      obtain ⟨b, off, rfl, c0, c1, c2⟩ := (HO.out.turned HTr.out).cell j o ho
      have hin := HO.out.inn o (List.mem_of_getElem? ho)
      obtain ⟨K, At, Z⟩ := o
      simp only at c0 c1 c2
      have hbw : b < w.heap.size := by
        obtain ⟨b2, off2, e1, c3, _⟩ := HO.out.cell j ⟨K, At, Z⟩ ho
        cases e1
        exact block_lt c3
      have hbq : b ≠ q := by have := HPQ.out.2; omega
      have hMin : In64 Z := hin.2.2
      have HM := hide (mark_any p q 1000 S At Z wr.drew (HB.out.turned0 (Turned.refl [] wr).drew) HK.out.bl hMin)
      have HMS := hide (mark_sum (n := 1000) (S := S) At Z)
      clear ho hin hMin
      generalize markT 1000 S At Z = M at *
      obtain ⟨t, er, S'⟩ := M
      simp only at HM HMS
      go_wp2_with fail
      go_region_held3 (fun w' => w'.cell? ⟨b, off + j * 3 + 1, none⟩ = some (.int .i64 At) ∧ w'.cell? ⟨b, off + j * 3 + 2, none⟩ = some (.int .i64 Z)) (go_keep)
        (first
          | (go_at_call 13; refine (HM.out).mono ?_; rintro e w4 ⟨rfl, hb4, ht4⟩; have d0 : w4.cell? ⟨b, off + j * 3, none⟩ = some (.int .i64 K) := (by rw [ht4.cell (block_lt c0) (by simpa using hbq)]; exact c0); have d1 : w4.cell? ⟨b, off + j * 3 + 1, none⟩ = some (.int .i64 At) := (by rw [ht4.cell (block_lt c1) (by simpa using hbq)]; exact c1); have d2 : w4.cell? ⟨b, off + j * 3 + 2, none⟩ = some (.int .i64 Z) := (by rw [ht4.cell (block_lt c2) (by simpa using hbq)]; exact c2); have hs4 : w3.heap.size ≤ w4.heap.size := Nat.le_trans hw3 ht4.size; have HB4 := hide hb4; have HC4 := hide ((HC.out.turned0 (Turned.refl [] wr).drew).turned ht4 (by simp; exact fun e => HNe.out.2.2.1 e.symm) (by simp; exact fun e => HNe.out.2.2.2 e.symm) (by simp; exact fun e => hb4.q0 e.symm)); have HR4 := hide ((HR.out.keep (Turned.refl [] wr).drew (fun k hk => by simp)).keep ht4 (fun k hk => by have h1 := (ownsRow_lt HR.out k hk).1; have h2 := hs3.out.2.1; simp; omega)); have HT4 := hide ((HTr.out.drew).trans_new ht4 (fun i hi => by simp at hi; subst hi; exact .inr HPQ.out.2)); clear hb4 ht4))
      cases t
      · have e1 : S' = S := by
          rcases HMS.out with ⟨h1, _⟩ | ⟨_, h1⟩
          · cases h1
          · exact h1
        subst e1
        go_wp2_with fail
        go_roundw
        case rel => exact ⟨j + 1, S', ks, by omega, by omega, by omega, hs4, by go_num, HB4, HC4, HK, HR4, HT4⟩
        case measure => simp [intOf]; omega
      · have HK5 : Hid (Ks 1000 S' (ks ++ [⟨K, At, Z⟩])) := by
          rcases HMS.out with ⟨_, h2, h3, h4, h5, h6, h7, _, h9⟩ | ⟨h1, _⟩
          · rw [h9]
            exact HK.out.more (o := ⟨K, At, Z⟩) h2 h3 h4 h5 h6 h7
          · cases h1
        clear HMS HK
        obtain ⟨va, vcap, rfl, -⟩ := HR4.out.at
        have hsz := HT4.out.size
        have HL4 := hide (fun k hk => ownsRow_lt HR4.out k hk)
        have HS4 := hide (And.intro HB4.out.ltp (And.intro HB4.out.ltq (And.intro HC4.out.ltp HC4.out.ltq)))
        go_wp2_with (at_builtin; (refine wpList_append_own _ rfl _ _ 22 rfl w3.heap.size 33 i0 _ 3 24 Tryd.underlying22 hi hz0 hz1 hz2 rfl (by decide) _ _ _ rfl (World.ownsRow.alloc HR4.out _) ⟨w4.heap.size, 0, none⟩ 1 1 (Op3.cells ⟨K, At, Z⟩) rfl rfl (cells_new _ _ _ _ rfl) (Op3.cells_one _) (by unfold maxLen; omega) (by omega) (by simp; omega) ?_); intro v' w5 hown' hgrow5 hnil5; have HO5 := hide hown'; have HG5 := hide hgrow5; clear hown' hgrow5 hnil5)
        have htg : Turned (Value.ownBlock (.slice va ks.length vcap)).toList w4 w5 := Turned.grown ((Turned.refl _ w4).alloc _) (show (w4.alloc _).grownBy w5 (Value.slice va ks.length vcap).ownBlock from HG5.out) (fun k hk => .inl (by simpa using hk))
        have hnot : ∀ k, k < w3.heap.size → k ∉ (Value.ownBlock (.slice va ks.length vcap)).toList := fun k hk hm => by
          have h1 := HL4.out k (by simpa using hm)
          omega
        have h03 : 0 < w3.heap.size := block_lt (HB3.out.tab 0 (by omega))
        refine ⟨⟨j + 1, S', ks ++ [⟨K, At, Z⟩], by omega, by omega, by simp; omega, Nat.le_trans hs4 htg.size, by go_num, HB4.out.turned htg (hnot p hs3.out.1) (hnot q hs3.out.2.1) (hnot 0 h03), HC4.out.turned htg (hnot p2 hs3.out.2.2.1) (hnot q2 hs3.out.2.2.2) (hnot 0 h03), HK5, ?_, ?_⟩, by simp [intOf]; omega⟩
        · show World.ownsRow _ _ _ _ _ _ _
          rw [flat3_snoc, List.length_append]
          exact HO5.out
        · exact HT4.out.trans_new htg (fun i hi => .inr (by have h1 := HL4.out i (by simpa using hi); have h2 := HT3.out.size; omega))
    · have HX := hide (And.intro HB.out (And.intro HC.out (And.intro HK.out (And.intro HR.out HTr.out))))
      by_cases h1 : j < len
      · have h2 : ¬ j < 40 := by omega
        go_wp2_with fail
        go_meet
        exact ⟨S, ks, by omega, HX.out⟩
      · have hd : decide ((j : Int) < (len : Int)) = false := decide_eq_false (by omega)
        go_wp2_with fail
        go_meet
        exact ⟨S, ks, by omega, HX.out⟩
  case rest =>
    obtain ⟨S, ks, hks, HX⟩ := hcut
    obtain ⟨va, vcap, rfl, -⟩ := HX.out.2.2.2.1.at
    have HK := hide HX.out.2.2.1
    go_wp2_with fail
    go_loopw [10] (fun c_ wr => ∃ (i : Nat) (T : Nat → Nat), i ≤ ks.length ∧ c_ = .int .i64 ((i : Int) - 1) ∧ Hid (Half S T ks i) ∧ Hid (Bts wr p q 1000 (sidesOf S)) ∧ Hid (Bts wr p2 q2 1000 (sidesOf T)) ∧ Hid (KRow wr w3.heap.size (.slice va ks.length vcap) ks) ∧ Hid (Turned [] w wr)) (fun c_ _ => (intOf c_ + 1).toNat)
    case atStart => exact ⟨ks.length, S0, Nat.le_refl _, by go_num, ⟨fun k => .inr rfl, fun j o h1 h2 => absurd (List.getElem?_eq_some_iff.1 h2).1 (by omega), fun j o _ _ => rfl⟩, HX.out.1, HX.out.2.1, HX.out.2.2.2.1, HX.out.2.2.2.2⟩
    case round =>
      obtain ⟨i', T, hi', rfl, HH, HB, HC, HR, HTr⟩ := hrel
      cases i' with
      | zero =>
        have eT := HH.out.all HK.out
        subst eT
        have hd : decide (0 ≤ (((0 : Nat) : Int) - 1)) = false := by decide
        have HBl := hide HK.out.bl
        clear HX HH
        go_wp2_with fail
        go_loopw [15] (fun i_ wz => ∃ j : Nat, j ≤ 1000 ∧ i_ = .int .i64 j ∧ Hid (Bts wz p q 1000 (sidesOf T)) ∧ Hid (Bts wz p2 q2 1000 (sidesOf T)) ∧ Hid (Turned [] w wz)) (fun i_ _ => 1000 - (intOf i_).toNat)
        case atStart => exact ⟨0, by omega, rfl, HB, HC, HTr⟩
        case round =>
          clear HB HC HTr HR
          obtain ⟨j, hj, rfl, HB, HC, HTr⟩ := hrel
          by_cases hlt : j < 1000
          · have Z1 := hide (fun w h => size_any (some ⟨p, 0, none⟩) 1000 T j w h HBl.out)
            have Z2 := hide (fun w h => size_any (some ⟨p2, 0, none⟩) 1000 T j w h HBl.out)
            rw [szI_nat] at Z1 Z2
            have hTj : T j ≤ 65536 := by
              by_cases h1 : 0 < T j
              · have := HBl.out.into j h1; omega
              · omega
            have L1 := hide (fun w h => live_any (some ⟨p, 0, none⟩) 1000 T 0 j w h HBl.out)
            have L2 := hide (fun w h => live_any (some ⟨p2, 0, none⟩) 1000 T 0 j w h HBl.out)
            have hle := cntIn_le (live T) (kp 1000 0) (kp 1000 (j : Int))
            have hle2 := kp_le 1000 (j : Int)
            generalize cntIn (live T) (kp 1000 0) (kp 1000 (j : Int)) = lv at *
            generalize T j = tj at *
            go_wp2_with fail
            refine (Z1.out _ HB.out.brd).mono ?_
            rintro e w6 ⟨rfl, m6, rfl⟩
            have htd := (Turned.refl [] wr).drewN m6
            have HB6 := hide (HB.out.turned0 htd)
            have HC6 := hide (HC.out.turned0 htd)
            have HT6 := hide (HTr.out.trans htd)
            clear HB HC HTr htd
            generalize wr.drewN m6 = w7 at *
            go_wp2_with fail
            refine (Z2.out _ HC6.out.brd).mono ?_
            rintro e w8 ⟨rfl, m8, rfl⟩
            have htd := (Turned.refl [] w7).drewN m8
            have HB8 := hide (HB6.out.turned0 htd)
            have HC8 := hide (HC6.out.turned0 htd)
            have HT8 := hide (HT6.out.trans htd)
            clear HB6 HC6 HT6 htd
            generalize w7.drewN m8 = w9 at *
            go_wp2_with fail
            refine (L1.out _ HB8.out.brd).mono ?_
            rintro e w10 ⟨rfl, ht10⟩
            have HB10 := hide (HB8.out.turned0 ht10)
            have HC10 := hide (HC8.out.turned0 ht10)
            have HT10 := hide (HT8.out.trans ht10)
            clear HB8 HC8 HT8 ht10
            go_wp2_with fail
            refine (L2.out _ HC10.out.brd).mono ?_
            rintro e w11 ⟨rfl, ht11⟩
            have HB11 := hide (HB10.out.turned0 ht11)
            have HC11 := hide (HC10.out.turned0 ht11)
            have HT11 := hide (HT10.out.trans ht11)
            clear HB10 HC10 HT10 ht11
            go_wp2_with fail
            refine ⟨?rel, ?measure⟩
            case rel =>
              (repeat apply Exists.intro)
              refine ⟨?r2, rfl⟩
              exact ⟨j + 1, by omega, by go_num, HB11, HC11, HT11⟩
            case measure => simp [intOf]; omega
          · go_wp2_with fail
            go_ret
            exact ⟨rfl, HTr.out⟩
      | succ i =>
        obtain ⟨o, ho⟩ : ∃ o, ks[i]? = some o := ⟨_, List.getElem?_eq_getElem (by omega)⟩
        obtain ⟨va', vcap', eva, hat⟩ := HR.out.at
        injection eva with e1 e2 e3
        subst e1
        subst e3
        obtain ⟨g, rfl, hg3, hgs, hgo, c1, c2⟩ := hat i o ho
        obtain ⟨hT0, hTf⟩ := HH.out.free HK.out ho
        have hm := HK.out.mem o (List.mem_of_getElem? ho)
        have hok := HK.out.bl.into o.a.toNat (by omega)
        have m1 := mark_free (n := 1000) (S := T) (x := o.a) (z := o.z) (by omega) (by omega) hT0 hTf
        have m2 := mark_again (n := 1000) (S := upd T o.a.toNat o.z.toNat) (x := o.a) (z := o.z) (by omega) (by omega) (by rw [upd_at]; omega)
        have HH2 := hide (HH.out.next HK.out ho)
        have HB1 := hide (HH.out.bl HK.out.bl)
        have HB2 := hide (HH2.out.bl HK.out.bl)
        have hoz : In64 o.z := by unfold In64; omega
        have HM1 := hide (fun w h => mark_any p2 q2 1000 T o.a o.z w h HB1.out hoz)
        have HM2 := hide (fun w h => mark_any p2 q2 1000 (upd T o.a.toNat o.z.toNat) o.a o.z w h HB2.out hoz)
        rw [m1] at HM1
        rw [m2] at HM2
        have hgq : g ≠ q2 := by have := hs3.out.2.2.2; omega
        clear HX HH hT0 hTf hm hok m1 m2 ho hat HB1 HB2 hoz
        generalize upd T o.a.toNat o.z.toNat = T' at *
        obtain ⟨K, At, Z⟩ := o
        simp only at *
        have ei : (((i + 1 : Nat) : Int) - 1) = (i : Int) := by omega
        rw [ei]
        have hil : (i : Int) < (ks.length : Int) := by omega
        have hil2 : i < ks.length := by omega
        go_wp2_with fail
        go_region_held3 (fun w' => w'.cell? ⟨g, i * 3 + 1, none⟩ = some (.int .i64 At) ∧ w'.cell? ⟨g, i * 3 + 2, none⟩ = some (.int .i64 Z)) (go_keep)
          (first
            | (go_at_call 13; refine (HM1.out wr.drew (HC.out.turned0 (Turned.refl [] wr).drew)).mono ?_; rintro e w4 ⟨rfl, hb4, ht4⟩; have d1 : w4.cell? ⟨g, i * 3 + 1, none⟩ = some (.int .i64 At) := (by rw [ht4.cell (block_lt c1) (by simpa using hgq)]; exact c1); have d2 : w4.cell? ⟨g, i * 3 + 2, none⟩ = some (.int .i64 Z) := (by rw [ht4.cell (block_lt c2) (by simpa using hgq)]; exact c2); have HC4 := hide hb4; have HT4' := hide (((Turned.refl [q2] wr).drew).trans ht4); clear hb4 ht4))
        have HB4 := hide (HB.out.turned HT4'.out (by simp; exact HNe.out.2.1) (by simp; exact HNe.out.2.2.2) (by simp; exact fun e => HC4.out.q0 e.symm))
        have HR4 := hide (HR.out.keep HT4'.out (fun k hk => by rw [hgo] at hk; injection hk with hk; subst hk; simpa using hgq))
        have HTr4 := hide (HTr.out.trans_new HT4'.out (fun i hi => by simp at hi; subst hi; exact .inr HPQ2.out.2))
        clear HT4' HB HR HTr HC c1 c2
        go_wp2_with fail
        go_region_held3 (fun w' => w'.cell? ⟨g, i * 3 + 1, none⟩ = some (.int .i64 At) ∧ w'.cell? ⟨g, i * 3 + 2, none⟩ = some (.int .i64 Z)) (go_keep)
          (first
            | (go_at_call 13; refine (HM2.out w4.drew (HC4.out.turned0 (Turned.refl [] w4).drew)).mono ?_; rintro e w5 ⟨rfl, hb5, ht5⟩; have d1' : w5.cell? ⟨g, i * 3 + 1, none⟩ = some (.int .i64 At) := (by rw [ht5.cell (block_lt d1) (by simpa using hgq)]; exact d1); have d2' : w5.cell? ⟨g, i * 3 + 2, none⟩ = some (.int .i64 Z) := (by rw [ht5.cell (block_lt d2) (by simpa using hgq)]; exact d2); have HC5 := hide hb5; have HT5' := hide (((Turned.refl [q2] w4).drew).trans ht5); clear hb5 ht5))
        have HB5 := hide (HB4.out.turned HT5'.out (by simp; exact HNe.out.2.1) (by simp; exact HNe.out.2.2.2) (by simp; exact fun e => HC4.out.q0 e.symm))
        have HR5 := hide (HR4.out.keep HT5'.out (fun k hk => by rw [hgo] at hk; injection hk with hk; subst hk; simpa using hgq))
        have HTr5 := hide (HTr4.out.trans_new HT5'.out (fun i hi => by simp at hi; subst hi; exact .inr HPQ2.out.2))
        clear HT5' HB4 HR4 HTr4 HC4 d1 d2 d1' d2'
        go_wp2_with fail
        refine ⟨?rel3, ?meas3⟩
        case rel3 =>
          exact ⟨i, T', by omega, by go_num, HH2, HB5, HC5, HR5, HTr5⟩
        case meas3 => simp [intOf]

set_option maxRecDepth 100000 in
theorem bitsOrder_lifted (os : Os) (started : os.Started) (H : Type) (enc : TypeId × Value → H) :
    ReturnsInHanded {} Tryd.checked os 5 .any (fun w args => (Rows.bitsOrderSpec.pre enc Tryd.prog Tryd.f5 [] false w args ∧ laidMetH Tryd.prog laidTab w) ∧ sizedMet enc Tryd.prog Tryd.f5 (OpenSpec.ofChange Rows.bitsOrderSpec) false w args)
      (Rows.bitsOrderSpec.post enc Tryd.prog Tryd.f5 false true false false) := by
  refine returnsInHanded_of_change_and (C := Tryd.checked) (X := fun w _ => laidMetH Tryd.prog laidTab w) (fun _ _ _ hh h => h.of_heap hh) own started (by kernel_rfl) Tryd.func5
    (ChangeSpec.witness_shaped (enc := enc) (C := Tryd.checked) (os := os) (X := fun w _ => laidMetH Tryd.prog laidTab w) false (World.doorLaid Tryd.prog 400 os) #[.slice none 0 0] 8 rfl (World.shaped_of_RefB (by kernel_rfl) (by kernel_rfl)) (by kernel_rfl) (by kernel_rfl) (by kernel_rfl) (door_met os _)) ?_
  intro W base args ds gs before hval0 hW _ _ hL _
  have hTab := tab_of hL
  have hval : ∀ (j : Nat) t v, Tryd.f5.params[j]? = some t → args[j]? = some v → Value.okWide Tryd.prog W .any base t v := hval0
  have hW' := hW
  obtain ⟨p, q, hA0, hV, rfl, hfz, hnd⟩ := hW
  have hA : DataW.TrodAll enc Tryd.prog W 0 (fun _ => true) true Tryd.f5.params.toList args.toList ds p := hA0
  rw [Tryd.params5] at hA hval
  obtain ⟨v0, vs0, d0, ds0, p0, q0, hargs, rfl, rfl, h0, r0⟩ := trodAll_cons hA
  obtain ⟨rfl, rfl, rfl⟩ := trodAll_nil r0
  obtain rfl : args = #[v0] := by cases args; simp_all
  obtain ⟨rfl, rfl⟩ := trodVars_none hV
  obtain ⟨a0, len0, cap0, rfl⟩ := okWide_slice Tryd.underlying22 (hval 0 22 v0 rfl rfl)
  have k0 := h0
  have lt0 : ∀ x ∈ p0, x.block < W.heap.size := by obtain ⟨m, hm⟩ := k0; exact DataW.trod_lt m _ _ _ hm
  obtain ⟨z0, w0⟩ := open_ops h0
  simp only [List.append_nil] at hW'
  clear hA0 hval0
  refine (bitsOrder_walk a0 len0 cap0 z0 W w0 hTab).mono fun e W' ⟨he, ht⟩ => ?_
  subst he
  have bel : Below W.heap.size W W' := ht.below0
  exact ⟨_, rfl, _, _, _, [], _, [], hW', trodAll_mk1 (shut_bool Tryd.underlying4 _), (trodAll_cons_mk (Below.trod laidOut (by kernel_rfl) (of_decide_eq_true (by kernel_rfl)) k0 bel lt0) trodAll_mk0), rfl, bel.frame _, fun h => by cases h⟩

theorem bitsOrder_over : Rows.bitsOrderRow.holds Tryd.pinned (OpenSpec.ofChange Rows.bitsOrderSpec) :=
  OpenClaim.holds_of_wide 5 Tryd.f5 rfl rfl rfl rfl rfl rfl rfl ⟨rfl, rfl, rfl, rfl, rfl⟩ rfl rfl rfl rfl rfl (by kernel_rfl) Tryd.func5 (by kernel_rfl)
    (of_decide_eq_true (by kernel_rfl)) (by unfold Func.isWrapper; first | (rw [if_pos (by decide +kernel)]; kernel_rfl) | (rw [if_neg (by decide +kernel)]; exact ⟨rfl, rfl⟩))
    (fun os started H enc _ => bitsOrder_lifted os started H enc)

theorem bitsOrder_holds : Rows.BitsOrderSaid := bitsOrder_over

theorem bitsOrder_card : Rows.BitsOrderCardSaid :=
  Claim7.holds_tied_plain_at .later [] [.data] true _ false
    bitsOrder_holds (fun _ h => by cases h) (by kernel_rfl) (fun _ h => by cases h) bitsOrder_row_tie rfl ⟨rfl, rfl⟩ (by kernel_rfl) rfl
    (fun f fn hf hfn => by
      obtain rfl : f = 5 := Option.some.inj ((show Tryd.prog.funcNamed "ballast/ballastlaw05.BitsOrder" = some 5 by kernel_rfl).symm.trans hf) |>.symm
      obtain rfl : fn = Tryd.f5 := (Option.some.inj (Tryd.func5.symm.trans hfn)).symm
      exact ⟨by kernel_rfl, fun j t ht => by
        rw [Tryd.params5] at ht
        have h3 : t ∈ [22] := by
          have h4 := Array.mem_of_getElem? ht
          simpa using h4
        have h5 : ∀ u, u ∈ [22] → Tryd.prog.wantsStandIn u = false := by
          intro u hu
          simp only [List.mem_cons, List.not_mem_nil, or_false] at hu
          rcases hu with rfl <;> kernel_rfl
        exact h5 t h3⟩)
    (by kernel_rfl)
#print axioms bitsOrder_card
end Go.Proofs.YtaofkddondaceaaDoor

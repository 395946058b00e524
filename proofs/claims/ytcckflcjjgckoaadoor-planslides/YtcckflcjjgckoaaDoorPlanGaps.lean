/-
  Gaps of package plan.
-/
import Derived.Test.YtcckflcjjgckoaaDoorPlanMake
import Derived.Laws.AppendOwnNone
namespace Go.Proofs.YtcckflcjjgckoaaDoor
open Go.RowKit Bt
set_option linter.unusedVariables false
set_option linter.unusedSimpArgs false

/-- The next marked block's begin from x on, or d. -/
def NextOr (S : Nat → Nat) (d x y : Nat) : Prop := x ≤ y ∧ y ≤ d ∧ (y = d ∨ 0 < S y) ∧ ∀ j, x ≤ j → j < y → S j = 0
/-- As far as x the gaps are L. -/
inductive GpF (S : Nat → Nat) (f d : Nat) : Nat → List (Nat × Nat) → Prop
  | start : GpF S f d f []
  | block {x : Nat} {L : List (Nat × Nat)} : GpF S f d x L → x < d → 0 < S x → GpF S f d (x + S x) L
  | gap {x y : Nat} {L : List (Nat × Nat)} : GpF S f d x L → x < d → NextOr S d x y → x < y → GpF S f d (y + S y) (L ++ [(x, y)])
def flat2 (L : List (Nat × Nat)) : List Value := L.flatMap (fun g => [.int .i64 (g.1 : Int), .int .i64 (g.2 : Int)])
theorem flat2_snoc (L : List (Nat × Nat)) (x y : Nat) : flat2 (L ++ [(x, y)]) = flat2 L ++ [.int .i64 (x : Int), .int .i64 (y : Int)] := by simp [flat2]

theorem addr_add0 (b j : Nat) : (⟨b, 0, none⟩ : Addr).add j = ⟨b, j, none⟩ := by
  cases j with
  | zero => simp [Addr.add]
  | succ j => simp [Addr.add]
theorem grown_turned {a w w' : World} {v : Value} {B : Nat} {e : TypeId} {size n : Nat} {xs : List Value} (h : Turned [] a w) (ho : w.ownsRow B e size v n xs) (hB : a.heap.size ≤ B) (hg : w.grownBy w' v.ownBlock) : Turned [] a w' :=
  h.grown hg (fun k hk => .inr (by have := (ownsRow_lt ho k hk).1; omega))

set_option maxHeartbeats 4000000 in
set_option maxRecDepth 100000 in
theorem gaps_any (p N : Nat) (S : Nat → Nat) (P : PN) (l a wt tk : Value) (w : World) (hb : Brd w (some ⟨p, 0, none⟩) N (sidesOf S)) (hs : Bl N S) (hd : P.d ≤ N) (hN : 0 < N) (hf : P.f ≤ N) :
    Calls Tryd.prog 17 #[.agg (plC P l a wt tk), .pointer (some ⟨p, 0, none⟩)] w fun e w' => ∃ v, e = .returned v ∧ ∃ L x, GpF S P.f P.d x L ∧ P.d ≤ x ∧ L.length ≤ 65536 ∧ w'.ownsRow w.heap.size 43 2 v L.length (flat2 L) ∧ Turned [] w w' := by
  have hN6 := hb.few
  have HW := hide (fun (w' : World) (t : Turned [] w w') => words_any (some ⟨p, 0, none⟩) N (sidesOf S) w' (hb.turned t))
  have HNx := hide (fun (w' : World) (t : Turned [] w w') (x : Nat) => next_any (some ⟨p, 0, none⟩) N (sidesOf S) (x : Int) (P.d : Int) w' (hb.turned t))
  have HSz := hide (fun (w' : World) (t : Turned [] w w') (x : Nat) => size_any (some ⟨p, 0, none⟩) N S (x : Int) w' (hb.turned t) hs)
  have HIn : Hid (∀ x, x + S x ≤ N ∨ S x = 0) := hide (fun x => by by_cases h : 0 < S x; exact .inl (hs.into x h); exact .inr (by omega))
  have HB := hide (pb_new w P l a wt tk)
  have HT := hide ((Turned.refl [] w).alloc (.cells (plC P l a wt tk) 30))
  have HF := hide (show P.f ≤ 65536 by omega)
  have HG0 : Hid (GpF S P.f P.d P.f []) := hide .start
  have HGb : Hid (∀ x L, GpF S P.f P.d x L → x < P.d → 0 < S x → GpF S P.f P.d (x + S x) L) := hide (fun x L h1 h2 h3 => .block h1 h2 h3)
  have HGg : Hid (∀ x y L, GpF S P.f P.d x L → x < P.d → NextOr S P.d x y → x < y → GpF S P.f P.d (y + S y) (L ++ [(x, y)])) := hide (fun x y L h1 h2 h3 h4 => .gap h1 h2 h3 h4)
  generalize GpF S P.f P.d = GP at *
  obtain ⟨f, t, k, d, e⟩ := P
  unfold plC at HB HT ⊢
  simp only at HB HT HNx HG0 HGb HGg hd ⊢
  have hkp : kp N (d : Int) = d := by unfold kp; omega
  rw [hkp, sidesOf0] at HNx
  simp only [szI_nat] at HSz
  clear hb hs hkp
  have hNi : ((N : Int) == 0) = false := by simp; omega
  obtain ⟨i0, hi, hi0⟩ := Option.map_eq_some_iff.1 Tryd.infoTwo
  simp only [Prod.mk.injEq] at hi0
  obtain ⟨hz0, hz1, hz2⟩ := hi0
  have HI := hide (And.intro hi (And.intro hz0 (And.intro hz1 hz2)))
  clear hi hz0 hz1 hz2
  go_enter Tryd.func17, Tryd.ntmps17
  go_wp2_with fail
  obtain ⟨q, hq⟩ : ∃ q, q = w.heap.size := ⟨_, rfl⟩
  rw [← hq] at HB ⊢
  generalize w.alloc (.cells #[Value.int .i64 f, Value.int .i64 t, Value.int .i64 k, Value.int .i64 d, Value.int .i64 e, l, a, wt, tk] 30) = w0 at *
  clear hq
  refine (HW.out _ HT.out).mono ?_
  rintro e1 w1 ⟨rfl, rfl⟩
  obtain ⟨c0, c1, c2, c3, c4, c5, c6, c7, c8⟩ := HB.out.cs
  simp only at c0 c1 c2 c3 c4
  go_wp2_with fail
  clear c0 c1 c2 c3 c4 c5 c6 c7 c8
  -- the row lies above the plan's own block
  have HO0 : Hid (w1.ownsRow w1.heap.size 43 2 (.slice none 0 0) 0 (flat2 [])) := hide ⟨rfl, .inl ⟨rfl, rfl⟩⟩
  have HBq := hide (show q < w1.heap.size from HB.out.lt)
  obtain ⟨B, hBB⟩ : ∃ B, B = w1.heap.size := ⟨_, rfl⟩
  rw [← hBB] at HO0 HBq
  have HBw := hide (show w.heap.size ≤ B by rw [hBB]; exact HT.out.size)
  have HBl := hide (show B ≤ w1.heap.size by omega)
  clear hBB
  go_loopw [5, 6, 7] (fun v at_ _ wr => ∃ (x : Nat) (L : List (Nat × Nat)), x ≤ 65536 ∧ at_ = .int .i64 x ∧ Hid (GP x L) ∧ Hid (L.length ≤ x) ∧ Hid (wr.ownsRow B 43 2 v L.length (flat2 L)) ∧ Hid (Pb wr q ⟨f, t, k, d, e⟩ l a wt tk) ∧ Hid (Turned [] w wr) ∧ Hid (B ≤ wr.heap.size)) (fun _ at_ _ _ => d - (intOf at_).toNat)
  case atStart => exact ⟨f, [], by have := HF.out; omega, rfl, HG0, Nat.zero_le _, HO0, HB, HT, HBl⟩
  case round =>
    obtain ⟨x, L, hx6, rfl, HG, HLn, HO, HP, HT1, HB1⟩ := hrel
    clear HO0 HB HT HBl HG0 HW
    obtain ⟨c0, c1, c2, c3, c4, c5, c6, c7, c8⟩ := HP.out.cs
    simp only at c0 c1 c2 c3 c4
    by_cases hxd : x < d
    · have hxi : (x : Int) < d := by omega
      have HC := hide (HNx.out wr HT1.out x)
      rw [show kp N (x : Int) = x by unfold kp; omega] at HC
      go_wp2_with fail
      refine (HC.out).mono ?_
      rintro e1 w2 ⟨r, rfl, hr, m2, rfl⟩
      -- what comes next, and how the round ends
      have HT2 := hide (HT1.out.drewN m2)
      have hU : Turned [] wr (wr.drewN m2) := (Turned.refl [] wr).drewN m2
      have HP2 := hide (HP.out.turned0 hU)
      have HO2 : Hid ((wr.drewN m2).ownsRow B 43 2 u5 L.length (flat2 L)) := hide (ownsRow_keep HO.out (fun k hk => rfl))
      have HB2 : Hid (B ≤ (wr.drewN m2).heap.size) := hide HB1.out
      have HN : Hid ((r = -1 ∧ NextOr S d x d) ∨ ∃ y : Nat, r = y ∧ y < d ∧ x ≤ y ∧ 0 < S y ∧ NextOr S d x y) := hide (by
        rcases hr with ⟨h1, h2⟩ | ⟨y, h1, h2, h3, h4, h5⟩
        · left
          refine ⟨h1, by omega, by omega, .inl rfl, fun j h3 h4 => ?_⟩
          have := h2 j h3 h4
          simpa [begs] using this
        · right
          have h6 : 0 < S y := by simpa [begs] using h4
          refine ⟨y, h1, h3, h2, h6, h2, by omega, .inr h6, fun j h7 h8 => ?_⟩
          have := h5 j h7 h8
          simpa [begs] using this)
      clear hr hU HC HT1 HP HO HB1 c0 c1 c2 c3 c4 c5 c6 c7 c8
      generalize wr.drewN m2 = w3 at *
      obtain ⟨c0, c1, c2, c3, c4, c5, c6, c7, c8⟩ := HP2.out.cs
      simp only at c0 c1 c2 c3 c4
      rcases HN.out with ⟨rfl, hn⟩ | ⟨y, rfl, hyd, hxy, hSy, hn⟩
      · have hm1 : (-1 : Int) < 0 := by omega
        have HSx := hide (fun (w' : World) tt => HSz.out w' tt d)
        have hin := HIn.out d
        have HG2 := hide (HGg.out x d L HG.out hxd hn (by omega))
        have HL2 := hide (show (L ++ [(x, d)]).length ≤ d + S d by rw [List.length_append]; have := HLn.out; simp; omega)
        have hs6 : d + S d ≤ 65536 := by omega
        have hl6 : L.length ≤ 65536 := by have := HLn.out; omega
        have hyx : (x : Int) < (d : Int) := by omega
        have HT3 := hide (HT2.out.alloc (.cells #[.int .i64 (x : Int), .int .i64 (d : Int)] 43))
        have HU3 : Turned [] w3 (w3.alloc (.cells #[.int .i64 (x : Int), .int .i64 (d : Int)] 43)) := (Turned.refl [] w3).alloc _
        have HP3 := hide (HP2.out.turned0 HU3)
        have HO3 : Hid ((w3.alloc (.cells #[.int .i64 (x : Int), .int .i64 (d : Int)] 43)).ownsRow B 43 2 u5 L.length (flat2 L)) := hide (ownsRow_keep HO2.out (fun k hk => Below.heap_alloc _ _ _ (ownsRow_lt HO2.out k hk).2.1))
        have HB3 : Hid (B ≤ (w3.alloc (.cells #[.int .i64 (x : Int), .int .i64 (d : Int)] 43)).heap.size) := hide (Nat.le_trans HB2.out HU3.size)
        have hnews : ∀ j u, [Value.int .i64 (x : Int), Value.int .i64 (d : Int)][j]? = some u → (w3.alloc (.cells #[.int .i64 (x : Int), .int .i64 (d : Int)] 43)).cell? ((⟨w3.heap.size, 0, none⟩ : Addr).add j) = some u := fun j u hu => by
          rw [addr_add0, cell_of_heap (heap_alloc_new _ _)]
          match j, hu with
          | 0, hu => simpa using hu
          | 1, hu => simpa using hu
          | j + 2, hu => simp at hu
        have HNw := hide hnews
        clear hn hin HN HG HLn hnews HU3
        obtain ⟨z, hz⟩ : ∃ z, z = S d := ⟨_, rfl⟩
        rw [← hz] at HSx HG2 HL2 hs6
        clear hz
        have HCp := hide HP2.out.lt
        have hbs : ∀ w : World, (Instr.buildSlice 22 1 #[(0, .agg #[.int .i64 (x : Int), .int .i64 (d : Int)])]).run Tryd.prog w = .ok (.slice (some ⟨w.heap.size, 0, none⟩) 1 1) (w.alloc (.cells #[.int .i64 (x : Int), .int .i64 (d : Int)] 43)) := fun w => by kernel_rfl
        go_wp2_with (at_builtin; refine wpList_append_own _ rfl _ _ 22 rfl B 43 i0 (.agg #[.int .i64 0, .int .i64 0]) 2 16 Tryd.underlying22 HI.out.1 HI.out.2.1 HI.out.2.2.1 HI.out.2.2.2 rfl (by decide) u5 L.length (flat2 L) rfl HO3.out ⟨w3.heap.size, 0, none⟩ 1 1 [.int .i64 (x : Int), .int .i64 (d : Int)] rfl rfl HNw.out (by intro u hu; simp at hu; rcases hu with rfl | rfl <;> rfl) (by unfold maxLen; omega) (by omega) HB3.out ?_; intro v6 w6 hown hgr hvv)
        have HO6 : Hid (w6.ownsRow B 43 2 v6 (L ++ [(x, d)]).length (flat2 (L ++ [(x, d)]))) := hide (by rw [flat2_snoc, List.length_append]; exact hown)
        have HT6 := hide (grown_turned HT3.out HO3.out HBw.out hgr)
        have HP6 : Hid (Pb w6 q ⟨f, t, k, d, e⟩ l a wt tk) := hide (by unfold Pb; rw [hgr.block q HP3.out.lt (fun hh => by have := (ownsRow_lt HO3.out q hh.symm).1; have := HBq.out; omega)]; exact HP3.out)
        have HB6 := hide (Nat.le_trans HB3.out hgr.size)
        clear hown hgr hvv HO3 HT3 HP3 HB3 HT2 HO2 HP2 HB2 c0 c1 c2 c3 c4 c5 c6 c7 c8 hbs HNw
        go_wp2_with fail
        refine (HSx.out _ HT6.out).mono ?_
        rintro e1 w7 ⟨rfl, m7, rfl⟩
        have HT7 := hide (HT6.out.drewN m7)
        have HP7 := hide (HP6.out.turned0 ((Turned.refl [] w6).drewN m7))
        have HO7 : Hid ((w6.drewN m7).ownsRow B 43 2 v6 (L ++ [(x, d)]).length (flat2 (L ++ [(x, d)]))) := hide (ownsRow_keep HO6.out (fun k hk => rfl))
        have HB7 : Hid (B ≤ (w6.drewN m7).heap.size) := hide HB6.out
        clear HT6 HP6 HO6 HB6 HSx
        generalize w6.drewN m7 = w8 at *
        go_wp2_with fail
        go_roundw
        case rel => exact ⟨d + z, L ++ [(x, d)], hs6, by go_num, HG2, HL2, HO7, HP7, HT7, HB7⟩
        case measure => simp [intOf]; omega
      · by_cases hey : x = y
        · subst hey
          have HSx := hide (HSz.out w3 HT2.out x)
          have hin := HIn.out x
          have HG2 := hide (HGb.out x L HG.out hxd hSy)
          have HL2 := hide (show L.length ≤ x + S x by have := HLn.out; omega)
          have hs6 : x + S x ≤ 65536 := by omega
          have hnx : ¬ (x : Int) < 0 := by omega
          have hnx2 : ¬ (x : Int) < x := by omega
          clear hn hin HN HG HLn
          generalize S x = z at *
          go_wp2_with fail
          refine (HSx.out).mono ?_
          rintro e1 w4 ⟨rfl, m4, rfl⟩
          have HT4 := hide (HT2.out.drewN m4)
          have HP4 := hide (HP2.out.turned0 ((Turned.refl [] w3).drewN m4))
          have HO4 : Hid ((w3.drewN m4).ownsRow B 43 2 u5 L.length (flat2 L)) := hide (ownsRow_keep HO2.out (fun k hk => rfl))
          have HB4 : Hid (B ≤ (w3.drewN m4).heap.size) := hide HB2.out
          clear HT2 HP2 HO2 HB2 c0 c1 c2 c3 c4 c5 c6 c7 c8 HSx
          generalize w3.drewN m4 = w5 at *
          go_wp2_with fail
          go_roundw
          case rel => exact ⟨x + z, L, hs6, by go_num, HG2, HL2, HO4, HP4, HT4, HB4⟩
          case measure => simp [intOf]; omega
        · have hy0 : ¬ (y : Int) < 0 := by omega
          have HSx := hide (fun (w' : World) tt => HSz.out w' tt y)
          have hin := HIn.out y
          have HG2 := hide (HGg.out x y L HG.out hxd hn (by omega))
          have HL2 := hide (show (L ++ [(x, y)]).length ≤ y + S y by rw [List.length_append]; have := HLn.out; simp; omega)
          have hs6 : y + S y ≤ 65536 := by omega
          have hl6 : L.length ≤ 65536 := by have := HLn.out; omega
          have hyx : (x : Int) < (y : Int) := by omega
          have HT3 := hide (HT2.out.alloc (.cells #[.int .i64 (x : Int), .int .i64 (y : Int)] 43))
          have HU3 : Turned [] w3 (w3.alloc (.cells #[.int .i64 (x : Int), .int .i64 (y : Int)] 43)) := (Turned.refl [] w3).alloc _
          have HP3 := hide (HP2.out.turned0 HU3)
          have HO3 : Hid ((w3.alloc (.cells #[.int .i64 (x : Int), .int .i64 (y : Int)] 43)).ownsRow B 43 2 u5 L.length (flat2 L)) := hide (ownsRow_keep HO2.out (fun k hk => Below.heap_alloc _ _ _ (ownsRow_lt HO2.out k hk).2.1))
          have HB3 : Hid (B ≤ (w3.alloc (.cells #[.int .i64 (x : Int), .int .i64 (y : Int)] 43)).heap.size) := hide (Nat.le_trans HB2.out HU3.size)
          have hnews : ∀ j u, [Value.int .i64 (x : Int), Value.int .i64 (y : Int)][j]? = some u → (w3.alloc (.cells #[.int .i64 (x : Int), .int .i64 (y : Int)] 43)).cell? ((⟨w3.heap.size, 0, none⟩ : Addr).add j) = some u := fun j u hu => by
            rw [addr_add0, cell_of_heap (heap_alloc_new _ _)]
            match j, hu with
            | 0, hu => simpa using hu
            | 1, hu => simpa using hu
            | j + 2, hu => simp at hu
          have HNw := hide hnews
          clear hn hin HN HG HLn hnews HU3
          obtain ⟨z, hz⟩ : ∃ z, z = S y := ⟨_, rfl⟩
          rw [← hz] at HSx HG2 HL2 hs6
          clear hz
          have HCp := hide HP2.out.lt
          have hbs : ∀ w : World, (Instr.buildSlice 22 1 #[(0, .agg #[.int .i64 (x : Int), .int .i64 (y : Int)])]).run Tryd.prog w = .ok (.slice (some ⟨w.heap.size, 0, none⟩) 1 1) (w.alloc (.cells #[.int .i64 (x : Int), .int .i64 (y : Int)] 43)) := fun w => by kernel_rfl
          go_wp2_with (at_builtin; refine wpList_append_own _ rfl _ _ 22 rfl B 43 i0 (.agg #[.int .i64 0, .int .i64 0]) 2 16 Tryd.underlying22 HI.out.1 HI.out.2.1 HI.out.2.2.1 HI.out.2.2.2 rfl (by decide) u5 L.length (flat2 L) rfl HO3.out ⟨w3.heap.size, 0, none⟩ 1 1 [.int .i64 (x : Int), .int .i64 (y : Int)] rfl rfl HNw.out (by intro u hu; simp at hu; rcases hu with rfl | rfl <;> rfl) (by unfold maxLen; omega) (by omega) HB3.out ?_; intro v6 w6 hown hgr hvv)
          have HO6 : Hid (w6.ownsRow B 43 2 v6 (L ++ [(x, y)]).length (flat2 (L ++ [(x, y)]))) := hide (by rw [flat2_snoc, List.length_append]; exact hown)
          have HT6 := hide (grown_turned HT3.out HO3.out HBw.out hgr)
          have HP6 : Hid (Pb w6 q ⟨f, t, k, d, e⟩ l a wt tk) := hide (by unfold Pb; rw [hgr.block q HP3.out.lt (fun hh => by have := (ownsRow_lt HO3.out q hh.symm).1; have := HBq.out; omega)]; exact HP3.out)
          have HB6 := hide (Nat.le_trans HB3.out hgr.size)
          clear hown hgr hvv HO3 HT3 HP3 HB3 HT2 HO2 HP2 HB2 c0 c1 c2 c3 c4 c5 c6 c7 c8 hbs HNw
          go_wp2_with fail
          refine (HSx.out _ HT6.out).mono ?_
          rintro e1 w7 ⟨rfl, m7, rfl⟩
          have HT7 := hide (HT6.out.drewN m7)
          have HP7 := hide (HP6.out.turned0 ((Turned.refl [] w6).drewN m7))
          have HO7 : Hid ((w6.drewN m7).ownsRow B 43 2 v6 (L ++ [(x, y)]).length (flat2 (L ++ [(x, y)]))) := hide (ownsRow_keep HO6.out (fun k hk => rfl))
          have HB7 : Hid (B ≤ (w6.drewN m7).heap.size) := hide HB6.out
          clear HT6 HP6 HO6 HB6 HSx
          generalize w6.drewN m7 = w8 at *
          go_wp2_with fail
          go_roundw
          case rel => exact ⟨y + z, L ++ [(x, y)], hs6, by go_num, HG2, HL2, HO7, HP7, HT7, HB7⟩
          case measure => simp [intOf]; omega
    · have hxi : ¬ (x : Int) < d := by omega
      go_wp2_with fail
      go_ret
      exact ⟨u5, rfl, L, x, HG.out, by omega, by have := HLn.out; omega, ownsRow_mono HO.out HBw.out, HT1.out⟩
end Go.Proofs.YtcckflcjjgckoaaDoor

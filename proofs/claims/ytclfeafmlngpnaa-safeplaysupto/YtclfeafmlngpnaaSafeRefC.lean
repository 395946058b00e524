/-
  The document's Add and End.
-/
import Derived.Test.YtclfeafmlngpnaaSafeRefB
import Derived.Deep.Cut
import Derived.Deep.CutBlock
import Derived.Deep.CutRange
import Derived.Deep.DeepCutAuto
import Derived.Deep.LoopGhost
namespace Go.Proofs.Ytclfeafmlngpnaa
open Go.RowKit Go.Maps
set_option linter.unusedVariables false

/-- New rows: the object holds them. -/
theorem rf_new {w : World} {B r : Nat} {v u : Value} {M : Th} {ar : Bool} (ho : w.heap[r]? = some (.cells #[v, u, .bool ar] 29)) (hv : Row w B v (fsts M)) {C : Nat} (hu : Row w C u (snds M)) (hBC : B ≤ C) (hvC : ∀ k, v.ownBlock = some k → k < C) (hok : Ok M) (hf : M.length < 17592186044416) (hlo : B ≤ r) : Rf w B r v u M ar :=
  ⟨ho, hv, hu.mono hBC, fun k hk e => by have h1 := hvC k hk; have h2 := (ownsRow_lt hu k e).1; omega, hok, hf, hlo⟩

theorem radd_old (w : World) (B r : Nat) (v u : Value) (L : Th) (ar : Bool) (x : Int) (h : Rf w B r v u L ar) (h0 : st L x ≠ 0) :
    Calls Try.prog 10 #[ptr r, .int .i64 x] w fun e w' => e = .returned (.int .i64 0) ∧ w' = w := by
  have HF := hide (find_any w B r v u L ar x h)
  rw [findI_pos h0] at HF
  have hp : (0 : Int) ≤ (pos L x : Int) := by omega
  clear h h0
  unfold ptr at HF ⊢
  generalize pos L x = k at *
  go_enter Try.func10, Try.ntmps10
  go_wp2_with fail
  refine HF.out.mono ?_
  rintro e w1 ⟨rfl, hw⟩
  rw [hw]
  clear hw w1
  go_wp2_with fail
  go_ret
  exact ⟨rfl, rfl⟩

theorem turned_row {w w' : World} {v : Value} (h : w.grownBy w' v.ownBlock) {C : Nat} {l : List Int} (hr : Row w C v l) {w0 : World} (ht : Turned [] w0 w) (hC : w0.heap.size ≤ C) : Turned [] w0 w' :=
  ht.grown h (fun k hk => .inr (Nat.le_trans hC (ownsRow_lt hr k hk).1))

set_option maxHeartbeats 4000000 in
set_option maxRecDepth 100000 in
theorem radd_new (w : World) (B r : Nat) (v u : Value) (L : Th) (ar : Bool) (x : Int) (h : Rf w B r v u L ar) (h0 : st L x = 0) (hx : In64 x) (hf : L.length + 1 < 17592186044416) :
    Calls Try.prog 10 #[ptr r, .int .i64 x] w fun e w' => e = .returned (.int .i64 1) ∧ ∃ v' u', Rf w' B r v' u' (ins x (come ar) L) ar ∧ Turned [r] w w' := by
  have HF := hide (find_any w B r v u L ar x h)
  rw [findI_neg h0] at HF
  have HS := hide h
  obtain ⟨ao, c, bo, d, ev, eu, i1, i2⟩ := h.vals
  have HI := hide i1
  have hc0 := h.c0
  have hfew := h.few
  clear i1 i2
  unfold ptr at HF ⊢
  go_enter Try.func10, Try.ntmps10
  go_wp2_with fail
  refine HF.out.mono ?_
  rintro e w1 ⟨rfl, hw⟩
  rw [hw]
  clear hw w1 HF
  have HX := hide (show ∀ (q : Prop), h0 = h0 → True from fun _ _ => trivial)
  obtain ⟨n, hn⟩ : ∃ n, n = L.length := ⟨_, rfl⟩
  rw [← hn] at HI
  have hc0' : w.cell? ⟨r, 0, none⟩ = some (.slice ao n c) := by rw [hc0, ev, hn]
  have HLen : Hid (L.length = n) := hn.symm
  have HV : Hid (v = .slice ao n c) := by show _ = _; rw [ev, hn]
  have hfn : n + 1 < 17592186044416 := by omega
  have HH0 := hide h0
  clear hc0 ev eu h h0 HX hn hfew hf
  go_wp2_with fail
  go_loopg [5] (n + 2) (fun gg s5 wr => ∃ (k : Nat), k ≤ n ∧ n - k ≤ gg ∧ s5 = .int .i64 (k : Int) ∧ Aside (∀ (i : Nat) (q : Int × Int), i < k → L[i]? = some q → q.1 < x) ∧ Aside (wr = w))
  case atStart => exact ⟨0, Nat.zero_le _, by omega, rfl, fun i q hi => absurd hi (Nat.not_lt_zero _), rfl⟩
  case round =>
    obtain ⟨k, hk, hgg, rfl, HK, HW⟩ := hrel
    have hWr := HW.out
    subst hWr
    clear HW
    go_upto_region 4 with fail
    go_cut [30] (fun s30 wc => ∃ bb : Bool, s30 = .bool bb ∧ Aside (bb = true → k < n ∧ ∀ q : Int × Int, L[k]? = some q → q.1 < x) ∧ Aside (bb = false → low L x = k) ∧ Aside (wc = wr))
    case first =>
      by_cases hkn : k < n
      · have e1 : (k : Int) < (n : Int) := by omega
        obtain ⟨p, hp⟩ : ∃ p, L[k]? = some p := ⟨_, List.getElem?_eq_getElem (by rw [HLen.out]; exact hkn)⟩
        obtain ⟨g, off, rfl, hc⟩ := HI.out.cell k p.1 (fsts_get hp)
        by_cases hpx : p.1 < x
        · have HA := hide (show k < n ∧ ∀ q : Int × Int, L[k]? = some q → q.1 < x from ⟨hkn, fun q hq => by rw [hp] at hq; cases hq; exact hpx⟩)
          generalize p.1 = y at *
          clear hp
          go_wp2_with fail
          go_meet
          case rel => exact ⟨true, by go_num, fun _ => HA.out, fun e => (by cases e), rfl⟩
        · have HA := hide (low_lt HK.out hp hpx)
          generalize p.1 = y at *
          clear hp
          go_wp2_with fail
          go_meet
          case rel => exact ⟨false, by go_num, fun e => (by cases e), fun _ => HA.out, rfl⟩
      · have e1 : ¬ (k : Int) < (n : Int) := by omega
        have HA := hide (show low L x = k by
          have hke : k = n := by omega
          rw [hke, ← HLen.out]; exact low_all fun i q hq => HK.out i q (by have := (List.getElem?_eq_some_iff.1 hq).1; rw [HLen.out] at this; omega) hq)
        go_wp2_with fail
        go_meet
        case rel => exact ⟨false, by go_num, fun e => (by cases e), fun _ => HA.out, rfl⟩
    case rest =>
      obtain ⟨bb, rfl, h1, h2, hwc⟩ := hcut
      have hwc' := hwc.out
      subst hwc'
      clear hwc
      obtain ⟨wr, hwr⟩ : ∃ wr, wr = wc := ⟨_, rfl⟩
      subst hwr
      cases bb
      · have HLow := hide (h2.out rfl)
        have HSV := hide HS.out
        rw [HV.out] at HS
        clear h1 h2 hgg HK
        obtain ⟨ao1, c1, hs1, hi1, hn1⟩ := row_front HS.out.rv (fsts_in64 HS.out.ok) (k := k) (by rw [fsts_length, HLen.out]; exact hk)
        obtain ⟨ao2, c2, hs2, hi2, hn2⟩ := row_back HS.out.rv (fsts_in64 HS.out.ok) (k := k) (by rw [fsts_length, HLen.out]; exact hk) (by rw [fsts_length]; have := HS.out.few; omega)
        obtain ⟨bo1, d1, ht1, hj1, hm1⟩ := row_front HS.out.ru (snds_in64 HS.out.ok) (k := k) (by rw [snds_length, HLen.out]; exact hk)
        obtain ⟨bo2, d2, ht2, hj2, hm2⟩ := row_back HS.out.ru (snds_in64 HS.out.ok) (k := k) (by rw [snds_length, HLen.out]; exact hk) (by rw [snds_length]; have := HS.out.few; omega)
        rw [fsts_length, HLen.out] at hs2 hi2
        rw [snds_length, HLen.out] at ht2 hj2
        have I1 := hide hi1
        have I2 := hide hi2
        have J1 := hide hj1
        have J2 := hide hj2
        have N1 := hide hn1
        have N2 := hide hn2
        have M1 := hide hm1
        have M2 := hide hm2
        have HkB := hide (show k ≤ n ∧ n + 1 < 17592186044416 from ⟨hk, hfn⟩)
        have hd1 := HS.out.c1
        have hd2 := HS.out.c2
        clear hi1 hi2 hj1 hj2 hn1 hn2 hm1 hm2
        go_upto_if 36 with fail
        go_cut [6] (fun s6 wc => s6 = .int .i64 (come ar) ∧ Aside (wc = wr))
        case first =>
          cases ar
          · go_wp2_with fail
            go_meet
            case rel => exact ⟨rfl, rfl⟩
          · go_wp2_with fail
            go_meet
            case rel => exact ⟨rfl, rfl⟩
        case rest =>
          obtain ⟨rfl, hwc⟩ := hcut
          have hwc' := hwc.out
          subst hwc'
          clear hwc
          obtain ⟨wa, hwa⟩ : ∃ wa, wa = wc := ⟨_, rfl⟩
          subst hwa
          clear hk hfn
          go_upto_region 11 with (at_builtin; refine wpList_append_part rfl _ _ rfl wa.heap.size _ _ rfl (row_nil _ _) _ _ _ ((fsts L).take k) rfl I1.out N1.out (by simp; have := HkB.out; omega) (Nat.le_refl _) ?_; intro v1 w1 hr1 hg1; have R1 : Hid (Row w1 wa.heap.size v1 ((fsts L).take k)) := hr1; have T1 := hide (turned_row hg1 (row_nil wa wa.heap.size) (Turned.refl [] wa) (Nat.le_refl _)); clear hr1 hg1)
          have ebf : ((fsts L).take k).length = k := by rw [List.length_take, fsts_length, HLen.out]; have := HkB.out; omega
          have ebs : ((snds L).take k).length = k := by rw [List.length_take, snds_length, HLen.out]; have := HkB.out; omega
          have B1 := hide (show ((fsts L).take k).length + 1 ≤ 17592186044416 by rw [ebf]; have := HkB.out; omega)
          have B2 := hide (show ((fsts L).take k ++ [x]).length + (n - k) ≤ 17592186044416 by rw [List.length_append, ebf]; have := HkB.out; simp; omega)
          have B3 := hide (show ((snds L).take k).length + 1 ≤ 17592186044416 by rw [ebs]; have := HkB.out; omega)
          have B4 := hide (show ((snds L).take k ++ [come ar]).length + (n - k) ≤ 17592186044416 by rw [List.length_append, ebs]; have := HkB.out; simp; omega)
          clear ebf ebs
          have R1a := hide (R1.out.keeps (Keeps.of_turned ((Turned.refl [] w1).alloc (.cells #[.int .i64 x] 3))))
          have T1a := hide (T1.out.alloc (.cells #[.int .i64 x] 3))
          have I1a := hide (one_new w1 x hx)
          clear hs1
          go_upto_region 12 with (at_builtin; refine wpList_append_part rfl _ _ rfl wa.heap.size _ _ rfl R1a.out _ _ _ [x] rfl I1a.out (by intro e; cases e) B1.out T1a.out.size ?_; intro v2 w2 hr2 hg2; have R2 := hide hr2; have T2 := hide (turned_row hg2 R1a.out T1a.out (Nat.le_refl _)); clear hr2 hg2)
          have HF2 := hide (HS.out.turned T2.out (by simp))
          have f20 := HF2.out.c0
          have HI2b := hide (I2.out.turned T2.out (by simp))
          clear R1 T1 R1a T1a I1a
          go_upto_region 14 with (at_builtin; refine wpList_append_part rfl _ _ rfl wa.heap.size _ _ rfl R2.out _ _ _ ((fsts L).drop k) rfl HI2b.out N2.out B2.out T2.out.size ?_; intro v3 w3 hr3 hg3; have R3 := hide hr3; have T3 := hide (turned_row hg3 R2.out T2.out (Nat.le_refl _)); clear hr3 hg3)
          have HF3 := hide (HS.out.turned T3.out (by simp))
          have f31 := HF3.out.c1
          have J1b := hide (J1.out.turned T3.out (by simp))
          have HC3 := hide T3.out.size
          clear R2 T2 f20 HI2b HF2 hs2
          go_upto_region 15 with (at_builtin; refine wpList_append_part rfl _ _ rfl w3.heap.size _ _ rfl (row_nil _ _) _ _ _ ((snds L).take k) rfl J1b.out M1.out (by simp; have := HkB.out; omega) (Nat.le_refl _) ?_; intro u1 w4 hr4 hg4; have R4 : Hid (Row w4 w3.heap.size u1 ((snds L).take k)) := hr4; have T4 := hide (turned_row hg4 (row_nil w3 w3.heap.size) (Turned.refl [] w3) (Nat.le_refl _)); clear hr4 hg4)
          have R4a := hide (R4.out.keeps (Keeps.of_turned ((Turned.refl [] w4).alloc (.cells #[.int .i64 (come ar)] 3))))
          have T4a := hide (T4.out.alloc (.cells #[.int .i64 (come ar)] 3))
          have I4a := hide (one_new w4 (come ar) (by have := come_ok ar; unfold In64; omega))
          clear ht1 J1b f31
          go_upto_region 16 with (at_builtin; refine wpList_append_part rfl _ _ rfl w3.heap.size _ _ rfl R4a.out _ _ _ [come ar] rfl I4a.out (by intro e; cases e) B3.out T4a.out.size ?_; intro u2 w5 hr5 hg5; have R5 := hide hr5; have T5 := hide (turned_row hg5 R4a.out T4a.out (Nat.le_refl _)); clear hr5 hg5)
          have HF5 := hide (HF3.out.turned T5.out (by simp))
          have f51 := HF5.out.c1
          have J2b := hide (J2.out.turned (T3.out.trans T5.out) (by simp))
          clear R4 T4 R4a T4a I4a
          go_upto_region 17 with (at_builtin; refine wpList_append_part rfl _ _ rfl w3.heap.size _ _ rfl R5.out _ _ _ ((snds L).drop k) rfl J2b.out M2.out B4.out T5.out.size ?_; intro u3 w6 hr6 hg6; have R6 := hide hr6; have T6 := hide (turned_row hg6 R5.out T5.out (Nat.le_refl _)); clear hr6 hg6)
          have HF6 := hide (HF3.out.turned T6.out (by simp))
          have g0 := HF6.out.c0
          have g1 := HF6.out.c1
          have z0 := HF6.out.fr 0
          have z1 := HF6.out.fr 1
          obtain ⟨aq, cq, rfl⟩ := R3.out.size
          obtain ⟨bq, dq, rfl⟩ := R6.out.size
          have HO2 := hide (heap_setCell_at _ r 1 _ _ _ (heap_setCell_at w6 r 0 _ _ _ HF6.out.obj (.slice aq ((fsts L).take k ++ [x] ++ (fsts L).drop k).length cq)) (.slice bq ((snds L).take k ++ [come ar] ++ (snds L).drop k).length dq))
          have k1 : (w6.setCell ⟨r, 0, none⟩ (.slice aq ((fsts L).take k ++ [x] ++ (fsts L).drop k).length cq)).cell? ⟨r, 1, none⟩ = some u := by rw [cell_of_heap (heap_setCell_at w6 r 0 _ _ _ HF6.out.obj _)]; rfl
          generalize ((fsts L).take k ++ [x] ++ (fsts L).drop k).length = nq1 at *
          generalize ((snds L).take k ++ [come ar] ++ (snds L).drop k).length = nq2 at *
          have R36 := hide (R3.out.keep T6.out (by simp))
          clear R5 T5 HF5 f51 J2b ht2 HF3 hd1 hd2
          go_wp2_with fail
          go_ret
          refine ⟨rfl, .slice aq nq1 cq, .slice bq nq2 dq, ?_, ?_⟩
          · rw [ins_low, HLow.out]
            have e1 : fsts (L.take k ++ (x, come ar) :: L.drop k) = (fsts L).take k ++ [x] ++ (fsts L).drop k := by simp [fsts]
            have e2 : snds (L.take k ++ (x, come ar) :: L.drop k) = (snds L).take k ++ [come ar] ++ (snds L).drop k := by simp [snds]
            have hin : Ok (L.take k ++ (x, come ar) :: L.drop k) := by rw [← HLow.out, ← ins_low]; exact HS.out.ok.ins HH0.out (come_ok ar) hx
            have hnr : ∀ {C : Nat} {v : Value} {l : List Int}, Row w6 C v l → ∀ q, v.ownBlock = some q → q ≠ r := fun hr q hq => row_ne_obj (B := B) HF6.out.obj hr hq
            have hkp : ∀ q, q ≠ r → ((w6.setCell ⟨r, 0, none⟩ (.slice aq nq1 cq)).setCell ⟨r, 1, none⟩ (.slice bq nq2 dq)).heap[q]? = w6.heap[q]? := fun q hq => by rw [Below.heap_setCell _ _ _ _ hq, Below.heap_setCell _ _ _ _ hq]
            refine rf_new (C := w3.heap.size) HO2.out ?_ ?_ ?_ ?_ hin ?_ HS.out.lo
            · rw [e1]
              exact Row.mono (ownsRow_keep R36.out (fun q hq => hkp q (hnr R36.out q hq))) (by have := HS.out.in_lt (mem_tb.2 (.inl rfl)); omega)
            · rw [e2]
              exact ownsRow_keep R6.out (fun q hq => hkp q (hnr R6.out q hq))
            · have := HC3.out
              have := HS.out.in_lt (mem_tb.2 (.inl rfl))
              omega
            · intro q hq
              exact (ownsRow_lt R3.out q hq).2.1
            · have := HkB.out
              have := HLen.out
              simp
              omega
          · refine ((T3.out.trans T6.out).mono (T := [r]) (by simp)).trans ?_
            exact ((Turned.refl [r] w6).setCell (p := ⟨r, 0, none⟩) (by simp) _).setCell (p := ⟨r, 1, none⟩) (by simp) _
      · obtain ⟨hkn, hq⟩ := h1.out rfl
        have HK2 := hide (show ∀ (i : Nat) (q : Int × Int), i < k + 1 → L[i]? = some q → q.1 < x from fun i q hi hqi => by
          by_cases e : i = k
          · subst e
            exact hq q hqi
          · exact HK.out i q (by omega) hqi)
        clear h1 h2 hq HK
        go_wp2_with fail
        go_roundg (n - (k + 1))
        case measure => omega
        case rel => exact ⟨k + 1, by omega, Nat.le_refl _, by go_num, HK2.out, rfl⟩

theorem Row.shape {w : World} {B : Nat} {v : Value} {l : List Int} (h : Row w B v l) : ∃ ao n cap, v = .slice ao n cap := by
  obtain ⟨ao, cap, e⟩ := h.size
  exact ⟨ao, _, cap, e⟩
theorem rf_not_int {w : World} {B r : Nat} {v u : Value} {L : Th} {ar : Bool} (h : Rf w B r v u L ar) {g k : Nat} {y : Int} (hc : w.cell? ⟨g, k, none⟩ = some (.int .i64 y)) : g ∉ [r] := by
  intro hm
  simp at hm
  subst hm
  obtain ⟨a1, n1, c1, rfl⟩ := h.rv.shape
  obtain ⟨a2, n2, c2, rfl⟩ := h.ru.shape
  rw [cell_of_heap h.obj] at hc
  have : k = 0 ∨ k = 1 ∨ k = 2 ∨ 3 ≤ k := by omega
  rcases this with rfl | rfl | rfl | h3
  · simp at hc
  · simp at hc
  · simp at hc
  · rw [Array.getElem?_eq_none (by simpa using h3)] at hc
    cases hc
/-- A row of the object's, through a store into its block. -/
theorem row_store {w : World} {r i C : Nat} {v u x y : Value} {l : List Int} {ar : Bool} (h : w.heap[r]? = some (.cells #[v, u, .bool ar] 29)) (hr : Row w C x l) : Row (w.setCell ⟨r, i, none⟩ y) C x l :=
  ownsRow_keep hr (fun q hq => Below.heap_setCell _ _ _ _ (row_ne_obj (B := 0) h hr hq))

set_option maxHeartbeats 4000000 in
set_option maxRecDepth 100000 in
theorem rend_old (w : World) (B r : Nat) (v u : Value) (L : Th) (ar : Bool) (x : Int) (h : Rf w B r v u L ar) (h0 : st L x ≠ 0) :
    Calls Try.prog 12 #[ptr r, .int .i64 x] w fun e w' => e = .returned (.int .i64 1) ∧ ∃ v' u', Rf w' B r v' u' (del x L) ar ∧ Turned [r] w w' := by
  have HF := hide (find_any w B r v u L ar x h)
  rw [findI_pos h0] at HF
  have HS := hide h
  have HD := hide (del_pos h.ok h0)
  have hpl := pos_lt h0
  have hfew := h.few
  obtain ⟨n, hn⟩ : ∃ n, n = L.length := ⟨_, rfl⟩
  have HLen : Hid (L.length = n) := hn.symm
  rw [← hn] at hpl hfew
  generalize pos L x = k at *
  obtain ⟨ao1, c1, hs1, hi1, hn1⟩ := row_front h.rv (fsts_in64 h.ok) (k := k) (by rw [fsts_length, HLen.out]; omega)
  obtain ⟨ao2, c2, hs2, hi2, hn2⟩ := row_back h.rv (fsts_in64 h.ok) (k := k + 1) (by rw [fsts_length, HLen.out]; omega) (by rw [fsts_length, HLen.out]; omega)
  obtain ⟨bo1, d1, ht1, hj1, hm1⟩ := row_front h.ru (snds_in64 h.ok) (k := k) (by rw [snds_length, HLen.out]; omega)
  obtain ⟨bo2, d2, ht2, hj2, hm2⟩ := row_back h.ru (snds_in64 h.ok) (k := k + 1) (by rw [snds_length, HLen.out]; omega) (by rw [snds_length, HLen.out]; omega)
  rw [fsts_length, HLen.out] at hs2 hi2
  rw [snds_length, HLen.out] at ht2 hj2
  rw [show ((k + 1 : Nat) : Int) = (k : Int) + 1 by omega] at hs2 ht2
  have I1 := hide hi1
  have I2 := hide hi2
  have J1 := hide hj1
  have J2 := hide hj2
  have N1 := hide hn1
  have N2 := hide hn2
  have M1 := hide hm1
  have M2 := hide hm2
  have ebf : ((fsts L).take k).length = k := by rw [List.length_take, fsts_length, HLen.out]; omega
  have ebs : ((snds L).take k).length = k := by rw [List.length_take, snds_length, HLen.out]; omega
  have B0 := hide (show ([] : List Int).length + k ≤ 17592186044416 by simp; omega)
  have B1 := hide (show ((fsts L).take k).length + (n - (k + 1)) ≤ 17592186044416 by rw [ebf]; omega)
  have B2 := hide (show ((snds L).take k).length + (n - (k + 1)) ≤ 17592186044416 by rw [ebs]; omega)
  have HE := hide (show wrap64 ((k : Int) + 1) = (k : Int) + 1 by unfold wrap64; omega)
  have HKn := hide (show k < n ∧ n < 17592186044416 from ⟨hpl, hfew⟩)
  have hc0 := h.c0
  have hkp : (0 : Int) ≤ (k : Int) := by omega
  clear hi1 hi2 hj1 hj2 hn1 hn2 hm1 hm2 ebf ebs h h0 hn hpl hfew
  unfold ptr at HF ⊢
  go_enter Try.func12, Try.ntmps12
  go_wp2_with fail
  refine HF.out.mono ?_
  rintro e w1 ⟨rfl, hw⟩
  rw [hw]
  clear hw w1 HF
  go_upto_region 6 with (at_builtin; refine wpList_append_part rfl _ _ rfl w.heap.size _ _ rfl (row_nil _ _) _ _ _ ((fsts L).take k) rfl I1.out N1.out B0.out (Nat.le_refl _) ?_; intro v1 w1 hr1 hg1; have R1 : Hid (Row w1 w.heap.size v1 ((fsts L).take k)) := hr1; have T1 := hide (turned_row hg1 (row_nil w w.heap.size) (Turned.refl [] w) (Nat.le_refl _)); clear hr1 hg1)
  have HF1 := hide (HS.out.turned T1.out (by simp))
  have f10 := HF1.out.c0
  have I2b := hide (I2.out.turned T1.out (by simp))
  have e6 := HE.out
  clear hs1
  go_upto_region 7 with (at_builtin; refine wpList_append_part rfl _ _ rfl w.heap.size _ _ rfl R1.out _ _ _ ((fsts L).drop (k + 1)) rfl I2b.out N2.out B1.out T1.out.size ?_; intro v2 w2 hr2 hg2; have T2 := hide (turned_row hg2 R1.out T1.out (Nat.le_refl _)); obtain ⟨aq, nq, cq, hvq⟩ := Row.shape hr2; have HF2 := hide (HS.out.turned T2.out (by simp)); have f20 := HF2.out.c0; have f2z := HF2.out.fr 0; have R2 := hide hr2; clear hr2 hg2; subst hvq)
  have O3 := hide (heap_setCell_at w2 r 0 _ _ _ HF2.out.obj (.slice aq nq cq))
  have T3 := hide ((T2.out.mono (T := [r]) (by simp)).setCell (p := ⟨r, 0, none⟩) (by simp) (.slice aq nq cq))
  have R3 := hide (row_store (i := 0) (y := .slice aq nq cq) HF2.out.obj R2.out)
  have J1b := hide (J1.out.turned T3.out (fun g off i y _ hc => rf_not_int HS.out hc))
  have J2b := hide (J2.out.turned T3.out (fun g off i y _ hc => rf_not_int HS.out hc))
  have f31 : (w2.setCell ⟨r, 0, none⟩ (.slice aq nq cq)).cell? ⟨r, 1, none⟩ = some u := by rw [cell_of_heap O3.out]; rfl
  clear R1 T1 HF1 f10 I2b hs2 hc0 T2 HF2 f20 f2z R2 e6
  generalize w2.setCell ⟨r, 0, none⟩ (.slice aq nq cq) = w3 at *
  go_upto_region 9 with (at_builtin; refine wpList_append_part rfl _ _ rfl w3.heap.size _ _ rfl (row_nil _ _) _ _ _ ((snds L).take k) rfl J1b.out M1.out B0.out (Nat.le_refl _) ?_; intro u1 w4 hr4 hg4; have R4 : Hid (Row w4 w3.heap.size u1 ((snds L).take k)) := hr4; have T4 := hide (turned_row hg4 (row_nil w3 w3.heap.size) (Turned.refl [] w3) (Nat.le_refl _)); clear hr4 hg4)
  have O4 := hide (show w4.heap[r]? = _ from (T4.out.block r (lt_of_heap O3.out) (by simp)).trans O3.out)
  have f41 : w4.cell? ⟨r, 1, none⟩ = some u := by rw [cell_of_heap O4.out]; rfl
  have J2c := hide (J2b.out.turned T4.out (by simp))
  have e6 := HE.out
  clear ht1 f31
  go_upto_region 10 with (at_builtin; refine wpList_append_part rfl _ _ rfl w3.heap.size _ _ rfl R4.out _ _ _ ((snds L).drop (k + 1)) rfl J2c.out M2.out B2.out T4.out.size ?_; intro u2 w5 hr5 hg5; have T5 := hide (turned_row hg5 R4.out T4.out (Nat.le_refl _)); obtain ⟨bq, mq, dq, hvq⟩ := Row.shape hr5; have O5 := hide (show w5.heap[r]? = _ from (T5.out.block r (lt_of_heap O3.out) (by simp)).trans O3.out); have f51 : w5.cell? ⟨r, 1, none⟩ = some u := (by rw [cell_of_heap O5.out]; rfl); have f5z : w5.frozen? ⟨r, 1, none⟩ = false := (by simp [World.frozen?, O5.out]); have R5 := hide hr5; clear hr5 hg5; subst hvq)
  have O6 := hide (heap_setCell_at w5 r 1 _ _ _ O5.out (.slice bq mq dq))
  have R35 := hide (R3.out.keep T5.out (by simp))
  have R36 := hide (row_store (i := 1) (y := .slice bq mq dq) O5.out R35.out)
  have R56 := hide (row_store (i := 1) (y := .slice bq mq dq) O5.out R5.out)
  have T6 := hide ((T3.out.trans (T5.out.mono (by simp))).setCell (p := ⟨r, 1, none⟩) (by simp) (.slice bq mq dq))
  have HC3 := hide T3.out.size
  clear e6 f41 f51 f5z ht2 J1b J2b J2c
  generalize w5.setCell ⟨r, 1, none⟩ (.slice bq mq dq) = w6 at *
  go_wp2_with fail
  go_ret
  refine ⟨rfl, .slice aq nq cq, .slice bq mq dq, ?_, T6.out⟩
  have hin := HS.out.ok.del x
  rw [HD.out] at hin ⊢
  have e1 : fsts (L.take k ++ L.drop (k + 1)) = (fsts L).take k ++ (fsts L).drop (k + 1) := by simp [fsts]
  have e2 : snds (L.take k ++ L.drop (k + 1)) = (snds L).take k ++ (snds L).drop (k + 1) := by simp [snds]
  have hlow := HS.out.in_lt (mem_tb.2 (.inl rfl))
  refine rf_new (C := w3.heap.size) O6.out ?_ ?_ ?_ ?_ hin ?_ HS.out.lo
  · rw [e1]
    exact R36.out.mono (by omega)
  · rw [e2]
    exact R56.out
  · have := HC3.out
    omega
  · intro q hq
    exact (ownsRow_lt R3.out q hq).2.1
  · have := HKn.out
    have := HLen.out
    simp
    omega

/-- Add, of one: whatever. -/
theorem radd_any (w : World) (B r : Nat) (v u : Value) (L : Th) (ar : Bool) (x : Int) (h : Rf w B r v u L ar) (hx : In64 x) (hf : L.length + 1 < 17592186044416) :
    Calls Try.prog 10 #[ptr r, .int .i64 x] w fun e w' => e = .returned (.int .i64 (if isNew L x then 1 else 0)) ∧ ∃ v' u', Rf w' B r v' u' (addL ar L x) ar ∧ Turned [r] w w' := by
  by_cases h0 : st L x = 0
  · refine (radd_new w B r v u L ar x h h0 hx hf).mono ?_
    rintro e w' ⟨rfl, v', u', h1, h2⟩
    rw [show addL ar L x = ins x (come ar) L by simp [addL, h0]]
    exact ⟨by simp [isNew, h0], v', u', h1, h2⟩
  · refine (radd_old w B r v u L ar x h h0).mono ?_
    rintro e w' ⟨rfl, rfl⟩
    rw [show addL ar L x = L by simp [addL, h0]]
    exact ⟨by simp [isNew, h0], v, u, h, Turned.refl _ _⟩
theorem rend_none (w : World) (B r : Nat) (v u : Value) (L : Th) (ar : Bool) (x : Int) (h : Rf w B r v u L ar) (h0 : st L x = 0) :
    Calls Try.prog 12 #[ptr r, .int .i64 x] w fun e w' => e = .returned (.int .i64 0) ∧ w' = w := by
  have HF := hide (find_any w B r v u L ar x h)
  rw [findI_neg h0] at HF
  clear h h0
  unfold ptr at HF ⊢
  go_enter Try.func12, Try.ntmps12
  go_wp2_with fail
  refine HF.out.mono ?_
  rintro e w1 ⟨rfl, hw⟩
  rw [hw]
  clear hw w1
  go_wp2_with fail
  go_ret
  exact ⟨rfl, rfl⟩
theorem rend_any (w : World) (B r : Nat) (v u : Value) (L : Th) (ar : Bool) (x : Int) (h : Rf w B r v u L ar) :
    Calls Try.prog 12 #[ptr r, .int .i64 x] w fun e w' => e = .returned (.int .i64 (if isOld L x then 1 else 0)) ∧ ∃ v' u', Rf w' B r v' u' (del x L) ar ∧ Turned [r] w w' := by
  by_cases h0 : st L x = 0
  · refine (rend_none w B r v u L ar x h h0).mono ?_
    rintro e w' ⟨rfl, rfl⟩
    rw [del_none h.ok h0]
    exact ⟨by simp [isOld, h0], v, u, h, Turned.refl _ _⟩
  · refine (rend_old w B r v u L ar x h h0).mono ?_
    rintro e w' ⟨rfl, v', u', h1, h2⟩
    exact ⟨by simp [isOld, h0], v', u', h1, h2⟩
end Go.Proofs.Ytclfeafmlngpnaa

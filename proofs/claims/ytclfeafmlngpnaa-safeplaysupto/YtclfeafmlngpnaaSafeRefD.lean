/-
  The document's In, Reached and Resume.
-/
import Derived.Test.YtclfeafmlngpnaaSafeRefC
import Derived.Deep.QuietTactic
import Derived.BigQuiet
namespace Go.Proofs.Ytclfeafmlngpnaa
open Go.RowKit Go.Maps
set_option linter.unusedVariables false

set_option maxHeartbeats 4000000 in
set_option maxRecDepth 100000 in
theorem rin_any (w : World) (B r : Nat) (v u : Value) (L : Th) (ar : Bool) (ao : Option Addr) (len cap : Nat) (l : List Int) (h : Rf w B r v u L ar) (hl : IRd w ao len l) (hlen : len ≤ 4611686018427387904) :
    Calls Try.prog 25 #[ptr r, .slice ao len cap] w fun e w' => ∃ x, e = .returned x ∧ Row w' w.heap.size x (inL l L) ∧ Turned [] w w' := by
  have HS := hide h
  have HL := hide hl
  obtain ⟨a1, c1, b1, d1, rfl, rfl, i1, i2⟩ := h.vals
  have HI1 := hide i1
  have HI2 := hide i2
  have hfew := h.few
  obtain ⟨n, hn⟩ : ∃ n, n = L.length := ⟨_, rfl⟩
  have HLen : Hid (L.length = n) := hn.symm
  have HC : Hid (∀ w', Turned [] w w' → w'.cell? ⟨r, 0, none⟩ = some (.slice a1 n c1) ∧ w'.cell? ⟨r, 1, none⟩ = some (.slice b1 n d1)) := fun w' ht => by
    have h' := h.turned ht (by simp)
    rw [hn]
    exact ⟨h'.c0, h'.c1⟩
  rw [← hn] at HI1 HI2 hfew
  clear i1 i2 h hl hn HS
  unfold ptr
  go_enter Try.func25, Try.ntmps25
  go_wp2_with fail
  go_loopg [5, 6] (n + 2) (fun gg s5 s6 wr => ∃ (k : Nat) (o : Value), o = s5 ∧ k ≤ n ∧ n - k ≤ gg ∧ s6 = .int .i64 (k : Int) ∧ Aside (Row wr w.heap.size o (inL l (L.take k))) ∧ Aside (Turned [] w wr))
  case atStart => exact ⟨0, _, rfl, by omega, by omega, rfl, row_nil _ _, Turned.refl _ _⟩
  case round =>
    obtain ⟨k, o, rfl, hk, hgg, rfl, HR, HT⟩ := hrel
    obtain ⟨f0, f1⟩ := HC.out wr HT.out
    by_cases hkn : k < n
    · have e1 : (k : Int) < (n : Int) := by omega
      obtain ⟨p, hp⟩ : ∃ p, L[k]? = some p := ⟨_, List.getElem?_eq_getElem (by rw [HLen.out]; exact hkn)⟩
      have HE := hide (inL_take (l := l) hp)
      obtain ⟨y, s⟩ := p
      have HY := hide (fun w' (ht : Turned [] w w') => (HI1.out.turned ht (by simp)).cell k y (fsts_get hp))
      have HZ := hide (fun w' (ht : Turned [] w w') => (HI2.out.turned ht (by simp)).cell k s (snds_get hp))
      have hy64 : Hid (In64 y) := HI1.out.in64 y (List.mem_of_getElem? (fsts_get hp))
      simp only at HE
      clear hp
      have HQ0 : Hid (((len : Int) == 0) = (l.isEmpty || decide (s ∈ l.take 0))) := by
        show _ = _
        have hs := HL.out.size
        cases l with
        | nil => simp at hs; simp [← hs]
        | cons z l => simp at hs; simp; omega
      obtain ⟨wo, hwo⟩ : ∃ wo, wo = wr := ⟨_, rfl⟩
      subst hwo
      clear f0 f1
      obtain ⟨f0, f1⟩ := HC.out wo HT.out
      go_wp2_with fail
      go_loopg [7, 8] (len + 2) (fun gg s7 s8 wr => ∃ (j : Nat), j ≤ len ∧ len - j ≤ gg ∧ s8 = .int .i64 (j : Int) ∧ s7 = .bool (l.isEmpty || decide (s ∈ l.take j)) ∧ Aside (Turned [] wo wr))
      case atStart => exact ⟨0, by omega, by omega, rfl, by rw [← HQ0.out], Turned.refl _ _⟩
      case round =>
        obtain ⟨j, hj, hgj, rfl, rfl, HT2⟩ := hrel
        have HTr := hide (HT.out.trans HT2.out)
        by_cases hjl : j < len
        · have e2 : (j : Int) < (len : Int) := by omega
          obtain ⟨z, hz⟩ : ∃ z, l[j]? = some z := ⟨_, List.getElem?_eq_getElem (by rw [HL.out.size]; exact hjl)⟩
          have HJ : Hid ((l.isEmpty || decide (s ∈ l.take (j + 1))) = ((l.isEmpty || decide (s ∈ l.take j)) || z == s)) := by
            show _ = _
            rw [take_snoc hz]
            by_cases hzs : z = s
            · simp [hzs]
            · have : ¬ s = z := fun e => hzs e.symm
              simp [hzs, this]
          cases hq : (l.isEmpty || decide (s ∈ l.take j))
          · rw [hq] at HJ
            obtain ⟨g2, o2, rfl, hcz⟩ := (HL.out.turned HTr.out (by simp)).cell j z hz
            obtain ⟨k0, k1⟩ := HC.out wr HTr.out
            obtain ⟨g3, o3, rfl, hcs⟩ := HZ.out wr HTr.out
            clear hz
            go_wp2_with fail
            go_quiet (fail)
            have HT3 := hide (HT2.out.drewN nq)
            go_wp2_with fail
            go_roundg (len - (j + 1))
            case measure => omega
            case rel => exact ⟨j + 1, by omega, Nat.le_refl _, by go_num, by rw [HJ.out]; simp, HT3.out⟩
          · rw [hq] at HJ
            clear hz
            go_wp2_with fail
            go_quiet (fail)
            have HT3 := hide (HT2.out.drewN nq)
            go_wp2_with fail
            go_roundg (len - (j + 1))
            case measure => omega
            case rel => exact ⟨j + 1, by omega, Nat.le_refl _, by go_num, by rw [HJ.out]; simp, HT3.out⟩
        · have hje : j = len := by omega
          subst hje
          have e2 : l.take j = l := List.take_of_length_le (Nat.le_of_eq HL.out.size)
          rw [e2]
          clear e2
          have HR2 := hide (HR.out.keeps (Keeps.of_turned HT2.out))
          cases hq : (l.isEmpty || decide (s ∈ l))
          · rw [hq] at HE
            have HR3 : Hid (Row wr w.heap.size o (inL l (L.take (k + 1)))) := by show Row _ _ _ _; rw [HE.out]; exact HR2.out
            go_wp2_with fail
            go_roundg (n - (k + 1))
            case measure => omega
            case rel => exact ⟨k + 1, _, rfl, by omega, Nat.le_refl _, by go_num, HR3.out, HTr.out⟩
          · rw [hq] at HE
            obtain ⟨k0, k1⟩ := HC.out wr HTr.out
            obtain ⟨g3, o3, rfl, hcs⟩ := HY.out wr HTr.out
            have R1a := hide (HR2.out.keeps (Keeps.of_turned ((Turned.refl [] wr).alloc (.cells #[.int .i64 y] 3))))
            have T1a := hide (HTr.out.alloc (.cells #[.int .i64 y] 3))
            have I1a := hide (one_new wr y hy64.out)
            have BL := hide (show (inL l (L.take k)).length + 1 ≤ 17592186044416 by have := in_length (L.take k) l; rw [List.length_take, HLen.out] at this; omega)
            go_wp2_with (at_builtin; refine wpList_append_part rfl _ _ rfl w.heap.size _ _ rfl R1a.out _ _ _ [y] rfl I1a.out (by intro e; cases e) BL.out T1a.out.size ?_; intro v2 w2 hr2 hg2; have R2 := hide hr2; have T2 := hide (turned_row hg2 R1a.out T1a.out (Nat.le_refl _)); clear hr2 hg2)
            have HR3 : Hid (Row w2 w.heap.size v2 (inL l (L.take (k + 1)))) := by show Row _ _ _ _; rw [HE.out]; exact R2.out
            go_wp2_with fail
            go_roundg (n - (k + 1))
            case measure => omega
            case rel => exact ⟨k + 1, _, rfl, by omega, Nat.le_refl _, by go_num, HR3.out, T2.out⟩
    · have hke : k = n := by omega
      subst hke
      have e1 : L.take k = L := List.take_of_length_le (Nat.le_of_eq HLen.out)
      rw [e1] at HR
      clear e1
      go_wp2_with fail
      go_ret
      exact ⟨_, rfl, HR.out, HT.out⟩

theorem rreached_any (w : World) (B r : Nat) (v u : Value) (L : Th) (ar : Bool) (h : Rf w B r v u L ar) :
    Calls Try.prog 30 #[ptr r] w fun e w' => e = .returned (.bool (reach L ar)) ∧ Turned [] w w' := by
  have hc2 := h.c2
  cases ar
  · clear h
    unfold ptr
    go_enter Try.func30, Try.ntmps30
    go_wp2_with fail
    go_ret
    exact ⟨by simp [reach], Turned.refl _ _⟩
  · have ht := (Turned.refl [] w).alloc (.cells #[.int .i64 1] 3)
    have HI := hide (rin_any _ B r v u L true (some ⟨w.heap.size, 0, none⟩) 1 1 [1] (h.turned ht (by simp)) (one_new w 1 (in64_small (by omega))) (by omega))
    have HT := hide ht
    rw [show reach L true = decide (inL [1] L = []) by simp [reach, still_in]]
    clear h ht
    generalize inL [1] L = q at *
    rw [show decide (q = []) = ((q.length : Int) == 0) by cases q with | nil => rfl | cons y q => simp; omega]
    unfold ptr at HI ⊢
    go_enter Try.func30, Try.ntmps30
    go_wp2_with fail
    refine HI.out.mono ?_
    rintro e w1 ⟨x, rfl, r1, t1⟩
    obtain ⟨ao, cp, rfl⟩ := r1.size
    have HT1 := hide (HT.out.trans t1)
    clear r1 t1 HI
    go_wp2_with fail
    go_ret
    exact ⟨rfl, HT1.out⟩

set_option maxHeartbeats 4000000 in
set_option maxRecDepth 100000 in
theorem rresume_yes (w : World) (B r : Nat) (v u : Value) (L : Th) (h : Rf w B r v u L true) (hs : reach L true = true) :
    Calls Try.prog 21 #[ptr r] w fun e w' => ∃ x, e = .returned x ∧ Row w' w.heap.size x (parked L) ∧ Rf w' B r v u (resL L) false ∧ Turned (tb r v u) w w' := by
  have HRe := hide (by have := rreached_any w B r v u L true h; rw [hs] at this; exact this)
  have HS := hide h
  clear h hs
  unfold ptr at HRe ⊢
  go_enter Try.func21, Try.ntmps21
  go_wp2_with fail
  refine HRe.out.mono ?_
  rintro e w1 ⟨rfl, t1⟩
  have ht2 := t1.alloc (.cells #[.int .i64 2] 3)
  have HI := hide (rin_any _ B r v u L true (some ⟨w1.heap.size, 0, none⟩) 1 1 [2] (HS.out.turned ht2 (by simp)) (one_new w1 2 (in64_small (by omega))) (by omega))
  have HT2 := hide ht2
  have HW1 := hide t1.size
  clear t1 ht2 HRe
  unfold ptr at HI
  go_wp2_with fail
  refine HI.out.mono ?_
  rintro e w2 ⟨x, rfl, r2, t2⟩
  have HT3 := hide (HT2.out.trans t2)
  have HR2 : Hid (Row w2 w.heap.size x (parked L)) := r2.mono HT2.out.size
  have HF2 := hide (HS.out.turned HT3.out (by simp))
  have c22 := HF2.out.c2
  have z22 := HF2.out.fr 2
  have O3 := hide (heap_setCell_at w2 r 2 _ _ _ HF2.out.obj (.bool false))
  have R3 := hide (row_store (i := 2) (y := .bool false) HF2.out.obj HR2.out)
  have HF3 : Hid (Rf (w2.setCell ⟨r, 2, none⟩ (.bool false)) B r v u L false) := ⟨by rw [heap_setCell_at w2 r 2 _ _ _ HF2.out.obj]; rfl, row_store (i := 2) HF2.out.obj HF2.out.rv, row_store (i := 2) HF2.out.obj HF2.out.ru, HF2.out.ap, HF2.out.ok, HF2.out.few, HF2.out.lo⟩
  have T3 := hide ((HT3.out.mono (T := tb r v u) (by simp)).setCell (p := ⟨r, 2, none⟩) (.inl (mem_tb.2 (.inl rfl))) (.bool false))
  have HXn := hide (show ∀ q, x.ownBlock = some q → q ∉ tb r v u from fun q hq hm => by
    have h1 := (ownsRow_lt r2 q hq).1
    have h2 := (HS.out.in_lt hm).1
    have h3 := HT2.out.size
    omega)
  clear r2 t2 HI HT2 HT3
  go_upto_region 6 with fail
  clear c22 z22 HF2 HR2
  generalize w2.setCell ⟨r, 2, none⟩ (.bool false) = w3 at *
  obtain ⟨n, hn⟩ : ∃ n, n = L.length := ⟨_, rfl⟩
  have HLen : Hid (L.length = n) := hn.symm
  have hfew := HS.out.few
  rw [← hn] at hfew
  clear hn
  have H0 : Hid (Rf w3 B r v u (resK L 0) false) := by rw [resK_zero]; exact HF3
  go_wp2_with fail
  go_loopw [5] (fun s5 wr => ∃ (k : Nat), k ≤ n ∧ s5 = .int .i64 k ∧ Hid (Rf wr B r v u (resK L k) false) ∧ Hid (Row wr w.heap.size x (parked L)) ∧ Hid (Turned (tb r v u) w wr)) (fun s5 _ => n - (intOf s5).toNat)
  case atStart => exact ⟨0, Nat.zero_le _, rfl, H0, R3, T3⟩
  case round =>
    obtain ⟨k, hk, rfl, HK, HRx, HT⟩ := hrel
    have f1 := HK.out.c1
    by_cases hkn : k < n
    · have e1 : (k : Int) < (n : Int) := by omega
      obtain ⟨p, hp⟩ : ∃ p, L[k]? = some p := ⟨_, List.getElem?_eq_getElem (by rw [HLen.out]; exact hkn)⟩
      have HSuc := hide (resK_succ hp)
      have hgk := resK_get hp
      obtain ⟨g, cp, eu, -, -, -, hc, hz, -⟩ := ownsRow_open HK.out.ru (by rw [snds_length, resK_length, HLen.out]; omega)
      rw [snds_length, resK_length, HLen.out] at eu
      subst eu
      have hck := hc k (.int .i64 p.2) (by simp [snds, hgk])
      have hzk := hz k
      have HOk := hide (show Ok (resK L (k + 1)) from resK_ok HS.out.ok (k + 1))
      have HPk := hide (show k < (snds (resK L k)).length by rw [snds_length, resK_length, HLen.out]; exact hkn)
      obtain ⟨y, s⟩ := p
      simp only at hck HSuc
      clear hp hgk hc hz
      by_cases hs2 : s = 2
      · subst hs2
        rw [if_pos rfl] at HSuc
        have HK2 : Hid (Rf (wr.setCell ⟨g, k, none⟩ (.int .i64 1)) B r v (.slice (some ⟨g, 0, none⟩) n cp) (resK L (k + 1)) false) := by
          have hgr : g ≠ r := row_ne_obj (B := B) HK.out.obj HK.out.ru rfl
          refine ⟨(Below.heap_setCell _ _ _ _ (fun e => hgr e.symm)).trans HK.out.obj, ?_, ?_, HK.out.ap, HOk.out, by rw [resK_length]; exact HS.out.few, HK.out.lo⟩
          · have e := HK.out.rv
            rw [resK_fsts] at e ⊢
            exact ownsRow_keep e (fun q hq => Below.heap_setCell _ _ _ _ (fun e2 => HK.out.ap q hq (by rw [e2]; rfl)))
          · rw [HSuc.out]
            exact row_set HK.out.ru HPk.out 1
        have HRx2 := hide (HRx.out.keep (tset (r := r) (v := v) (g := g) (n := n) (cap := cp) (k := k) (x := .int .i64 1)) HXn.out)
        have HT2 := hide (HT.out.trans (tset (r := r) (v := v) (g := g) (n := n) (cap := cp) (k := k) (x := .int .i64 1)))
        go_wp2_with fail
        go_roundw
        case rel => exact ⟨k + 1, by omega, by go_num, HK2, HRx2, HT2⟩
        case measure => simp [intOf]; omega
      · have b1 : (s == 2) = false := by simp [hs2]
        rw [if_neg hs2] at HSuc
        have HK2 : Hid (Rf wr B r v (.slice (some ⟨g, 0, none⟩) n cp) (resK L (k + 1)) false) := by
          refine ⟨HK.out.obj, ?_, ?_, HK.out.ap, HOk.out, by rw [resK_length]; exact HS.out.few, HK.out.lo⟩
          · have e := HK.out.rv
            rw [resK_fsts] at e ⊢
            exact e
          · rw [HSuc.out]
            exact HK.out.ru
        go_wp2_with fail
        go_roundw
        case rel => exact ⟨k + 1, by omega, by go_num, HK2, HRx, HT⟩
        case measure => simp [intOf]; omega
    · have hke : k = n := by omega
      subst hke
      have HKe : Hid (Rf wr B r v u (resL L) false) := by rw [← resK_all, HLen.out]; exact HK
      obtain ⟨bu, du, eu⟩ := HK.out.ru.size
      rw [snds_length, resK_length, HLen.out] at eu
      rw [eu] at f1
      go_wp2_with fail
      go_ret
      exact ⟨_, rfl, HRx.out, HKe.out, HT.out⟩

theorem rresume_any (w : World) (B r : Nat) (v u : Value) (L : Th) (ar : Bool) (h : Rf w B r v u L ar) :
    Calls Try.prog 21 #[ptr r] w fun e w' => ∃ x, e = .returned x ∧ Row w' w.heap.size x (resumeT L ar) ∧ Rf w' B r v u (resumeL L ar) (resumeA L ar) ∧ Turned (tb r v u) w w' := by
  cases hr : reach L ar
  · have HRe := hide (by have := rreached_any w B r v u L ar h; rw [hr] at this; exact this)
    have HS := hide h
    have HA := hide (show resumeT L ar = [] ∧ resumeL L ar = L ∧ resumeA L ar = ar by simp [resumeT, resumeL, resumeA, hr])
    clear h hr
    unfold ptr at HRe ⊢
    go_enter Try.func21, Try.ntmps21
    go_wp2_with fail
    refine HRe.out.mono ?_
    rintro e w1 ⟨rfl, t1⟩
    have HT := hide t1
    clear t1
    go_wp2_with fail
    go_ret
    obtain ⟨q1, q2, q3⟩ := HA.out
    rw [q1, q2, q3]
    exact ⟨_, rfl, row_nil _ _, HS.out.turned HT.out (by simp), HT.out.mono (by simp)⟩
  · obtain ⟨rfl, hs⟩ : ar = true ∧ still L = true := by simpa [reach] using hr
    rw [show resumeT L true = parked L by unfold resumeT; rw [hr]; rfl, show resumeL L true = resL L by unfold resumeL; rw [hr]; rfl, show resumeA L true = false by unfold resumeA; rw [hr]; rfl]
    exact rresume_yes w B r v u L h hr
end Go.Proofs.Ytclfeafmlngpnaa

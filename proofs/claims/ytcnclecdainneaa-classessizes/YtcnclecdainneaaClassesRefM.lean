/-
  The document's own answers: May, Check, Sum, Size tell the same.
-/
import Derived.Test.YtcnclecdainneaaClassesCount
import Derived.Test.YtcnclecdainneaaClassesChk
import Derived.Test.YtcnclecdainneaaClassesSum
namespace Go.Proofs.Ytcnclecdainneaa
open Go.RowKit
set_option linter.unusedVariables false

set_option maxRecDepth 100000 in
theorem rmay_any (r v a : Int) (w : World) (h : Cls.In ⟨r, v, a⟩) :
    Calls Try.prog 27 #[.agg #[.int .i64 r, .int .i64 v, .int .i64 a]] w fun e w' => e = .returned (.bool (Cls.may ⟨r, v, a⟩)) ∧ Turned [] w w' := by
  have HT := hide (fun c => (Turned.refl [] w).alloc (.cells c 43))
  clear h
  obtain ⟨b, hb⟩ : ∃ b, b = Cls.may ⟨r, v, a⟩ := ⟨_, rfl⟩
  rw [← hb]
  have HB := hide hb
  clear hb
  by_cases h1 : a = 1
  · subst h1
    have HB0 : Hid (b = decide (r = 0 ∧ v = 0)) := by show _ = _; rw [HB.out]; unfold Cls.may; simp
    clear HB
    go_enter Try.func27, Try.ntmps27
    go_wp2_with fail
    all_goals (go_ret; refine ⟨?_, HT.out _⟩; have hb := HB0.out; clear HB0; subst hb; simp_all [Ending.returned.injEq, Value.bool.injEq]; try rfl)
  · by_cases h2 : a = 2
    · subst h2
      have HB0 : Hid (b = decide (r = 0 ∧ v = 0)) := by show _ = _; rw [HB.out]; unfold Cls.may; simp
      clear HB
      go_enter Try.func27, Try.ntmps27
      go_wp2_with fail
      all_goals (go_ret; refine ⟨?_, HT.out _⟩; have hb := HB0.out; clear HB0; subst hb; simp_all [Ending.returned.injEq, Value.bool.injEq]; try rfl)
    · by_cases h0 : a = 0
      · subst h0
        have HB0 : Hid (b = decide (0 ≤ r ∧ 0 ≤ v ∧ r + v ≤ 64)) := by show _ = _; rw [HB.out]; unfold Cls.may; simp
        clear HB
        by_cases hr : 0 ≤ r ∧ r ≤ 64
        · by_cases hv : 0 ≤ v ∧ v ≤ 64
          · obtain ⟨r0, r1⟩ := hr
            obtain ⟨v0, v1⟩ := hv
            have hb : b = decide (r + v ≤ 64) := by rw [HB0.out]; simp [r0, v0]
            subst hb
            clear HB0
            have e1 : wrap64 (r + v) = r + v := by unfold wrap64; omega
            go_enter Try.func27, Try.ntmps27
            go_wp2_with fail
            go_ret
            exact ⟨rfl, HT.out _⟩
          · have hb : b = false := by rw [HB0.out]; simp; omega
            subst hb
            clear HB0
            obtain ⟨r0, r1⟩ := hr
            by_cases v0 : 0 ≤ v
            · have v1 : ¬ (v ≤ 64) := fun hh => hv ⟨v0, hh⟩
              clear hv
              go_enter Try.func27, Try.ntmps27
              go_wp2_with fail
              go_ret
              exact ⟨rfl, HT.out _⟩
            · clear hv
              go_enter Try.func27, Try.ntmps27
              go_wp2_with fail
              go_ret
              exact ⟨rfl, HT.out _⟩
        · have hb : b = false := by rw [HB0.out]; simp; omega
          subst hb
          clear HB0
          by_cases r0 : 0 ≤ r
          · have r1 : ¬ (r ≤ 64) := fun hh => hr ⟨r0, hh⟩
            clear hr
            by_cases v0 : 0 ≤ v
            · go_enter Try.func27, Try.ntmps27
              go_wp2_with fail
              go_ret
              exact ⟨rfl, HT.out _⟩
            · go_enter Try.func27, Try.ntmps27
              go_wp2_with fail
              go_ret
              exact ⟨rfl, HT.out _⟩
          · clear hr
            go_enter Try.func27, Try.ntmps27
            go_wp2_with fail
            go_ret
            exact ⟨rfl, HT.out _⟩
      · have hb : b = false := by rw [HB.out]; unfold Cls.may; simp; omega
        subst hb
        clear HB
        have e1 : (a == 1) = false := by simp [h1]
        have e2 : (a == 2) = false := by simp [h2]
        have e0 : (a == 0) = false := by simp [h0]
        go_enter Try.func27, Try.ntmps27
        go_wp2_with fail
        go_ret
        exact ⟨rfl, HT.out _⟩

theorem rcheck_any (ao : Option Addr) (len cap : Nat) (cs : List Cls) (w : World) (h : CRd w ao len cs) :
    Calls Try.prog 15 #[.slice ao len cap] w fun e w' => e = .returned (.int .i64 (checkOf cs)) ∧ Turned [] w w' := by
  have hl := h.size
  have hr := h.room
  have H := hide h
  obtain ⟨y, hy⟩ : ∃ y, y = checkOf cs := ⟨_, rfl⟩
  rw [← hy]
  have HY := hide hy
  clear hy h
  by_cases h16 : len ≤ 16
  · have HL := hide hl
    clear hl
    go_enter Try.func15, Try.ntmps15
    go_wp2_with fail
    go_loopw [3] (fun i wr => ∃ (j : Nat), j ≤ len ∧ i = .int .i64 j ∧ Hid (∀ m c, m < j → cs[m]? = some c → c.may = true) ∧ Hid (Turned [] w wr)) (fun i _ => len - (intOf i).toNat)
    case atStart => exact ⟨0, Nat.zero_le _, rfl, fun m c hm => by omega, Turned.refl _ _⟩
    case round =>
      obtain ⟨j, hj, rfl, HP, HT⟩ := hrel
      by_cases hlt : j < len
      · obtain ⟨c, hc⟩ : ∃ c, cs[j]? = some c := ⟨_, List.getElem?_eq_getElem (by have := HL.out; omega)⟩
        obtain ⟨b, off, rfl, c0, c1, c2⟩ := (H.out.turned HT.out).cell j c hc
        have HM := hide (fun w => rmay_any c.r c.w c.a w (H.out.inn c (List.mem_of_getElem? hc)))
        have HTa := hide HT.out
        have HC := hide hc
        clear hc
        cases hm : c.may with
        | true =>
          rw [show (⟨c.r, c.w, c.a⟩ : Cls).may = true from hm] at HM
          have HP2 : Hid (∀ m c, m < j + 1 → cs[m]? = some c → c.may = true) := fun m d hmj hd => by
            by_cases he : m = j
            · subst he
              rw [HC.out] at hd
              injection hd with hd
              subst hd
              exact hm
            · exact HP.out m d (by omega) hd
          clear hm HP HC
          go_wp2_with fail
          refine (HM.out _).mono ?_
          rintro e w1 ⟨rfl, ht1⟩
          have HT1 := hide ((HTa.out).trans ht1)
          clear ht1 HM HTa
          go_wp2_with fail
          go_roundw
          case rel => exact ⟨j + 1, by omega, by go_num, HP2, HT1⟩
          case measure => simp [intOf]; omega
        | false =>
          rw [show (⟨c.r, c.w, c.a⟩ : Cls).may = false from hm] at HM
          have hy : y = 12 := by
            rw [HY.out]
            unfold checkOf
            rw [if_neg]
            intro hh
            have := hh.2 c (List.mem_of_getElem? HC.out)
            rw [hm] at this
            cases this
          subst hy
          clear hm HP HC HY
          go_wp2_with fail
          refine (HM.out _).mono ?_
          rintro e w1 ⟨rfl, ht1⟩
          have HT1 := hide ((HTa.out).trans ht1)
          clear ht1 HM HTa
          go_wp2_with fail
          go_ret
          exact ⟨rfl, HT1.out⟩
      · go_wp2_with fail
        go_ret
        refine ⟨?_, HT.out⟩
        have hy := HY.out
        have hjl : j = cs.length := by have := HL.out; omega
        have : y = 0 := by
          rw [hy]
          unfold checkOf
          rw [if_pos]
          refine ⟨by have := HL.out; omega, fun c hc => ?_⟩
          obtain ⟨m, hm⟩ := List.mem_iff_getElem?.1 hc
          exact HP.out m c (by have := (List.getElem?_eq_some_iff.1 hm).1; omega) hm
        rw [this]
        rfl
  · have hy : y = 12 := by rw [HY.out]; unfold checkOf; rw [if_neg]; intro hh; omega
    subst hy
    clear HY hl
    go_enter Try.func15, Try.ntmps15
    go_wp2_with fail
    go_ret
    exact ⟨rfl, Turned.refl _ _⟩

set_option maxRecDepth 100000 in
theorem rsum_any (ao : Option Addr) (len cap : Nat) (l : List Int) (w : World) (h : IRd w ao len l) :
    Calls Try.prog 13 #[.slice ao len cap] w fun e w' => e = .returned (.tuple #[.int .i64 (sumOf l).1, .int .i64 (sumOf l).2]) ∧ w' = w := by
  have HL := hide h.size
  have hr := h.room
  have H := hide h
  obtain ⟨y, hy⟩ : ∃ y, y = sumOf l := ⟨_, rfl⟩
  rw [← hy]
  have HY := hide hy
  clear hy h
  go_enter Try.func13, Try.ntmps13
  go_wp2_with fail
  go_loopw [4, 5] (fun s i wr => ∃ (j : Nat) (n : Int), j ≤ len ∧ i = .int .i64 j ∧ s = .int .i64 n ∧ 0 ≤ n ∧ n ≤ 65536 ∧ Hid (Fits (l.take j) ∧ (l.take j).sum = n) ∧ Hid (wr = w)) (fun _ i _ => len - (intOf i).toNat)
  case atStart => exact ⟨0, 0, Nat.zero_le _, rfl, rfl, by omega, by omega, ⟨fits_nil, by simp⟩, rfl⟩
  case round =>
    obtain ⟨j, n, hj, rfl, rfl, hn0, hn1, HF, HW⟩ := hrel
    have hW : wr = w := HW.out
    subst hW
    by_cases hlt : j < len
    · obtain ⟨x, hx⟩ : ∃ x, l[j]? = some x := ⟨_, List.getElem?_eq_getElem (by have := HL.out; omega)⟩
      obtain ⟨b, off, rfl, c0⟩ := H.out.cell j x hx
      have hxr := H.out.inn x (List.mem_of_getElem? hx)
      unfold In64 at hxr
      have HX := hide hx
      clear hx
      by_cases h1 : x < 0
      · have hy : y = (0, 11) := by
          rw [HY.out]; unfold sumOf; rw [if_neg]
          exact fits_not HX.out (.inl h1)
        subst hy
        go_wp2_with fail
        go_ret2
        exact ⟨rfl, rfl⟩
      · by_cases h2 : 65536 - n < x
        · have hy : y = (0, 11) := by
            rw [HY.out]; unfold sumOf; rw [if_neg]
            exact fits_not HX.out (.inr (by rw [HF.out.2]; exact h2))
          subst hy
          go_wp2_with fail
          go_ret2
          exact ⟨rfl, rfl⟩
        · have HF2 : Hid (Fits (l.take (j + 1)) ∧ (l.take (j + 1)).sum = n + x) := ⟨fits_snoc HX.out HF.out.1 h1 (by rw [HF.out.2]; exact h2), by rw [sum_snoc l j x HX.out, HF.out.2]⟩
          clear HX HF
          go_wp2_with fail
          go_roundw
          case rel => exact ⟨j + 1, n + x, by omega, by go_num, by go_num, by omega, by omega, HF2, by first | exact rfl | exact trivial⟩
          case measure => simp [intOf]; omega
    · have hy : y = (n, 0) := by
        rw [HY.out]
        have h1 : l.take j = l := List.take_of_length_le (by have := HL.out; omega)
        have h2 := HF.out
        rw [h1] at h2
        unfold sumOf
        rw [if_pos h2.1, h2.2]
      subst hy
      go_wp2_with fail
      go_ret2
      exact ⟨rfl, rfl⟩
end Go.Proofs.Ytcnclecdainneaa

/-
  What Check tells.
-/
import Derived.Test.YtcnclecdainneaaClassesSize
namespace Go.Proofs.Ytcnclecdainneaa
open Go.RowKit
set_option linter.unusedVariables false

def checkOf (cs : List Cls) : Int := if cs.length ≤ 16 ∧ ∀ c, c ∈ cs → c.may = true then 0 else 12

theorem check_any (ao : Option Addr) (len cap : Nat) (cs : List Cls) (w : World) (h : CRd w ao len cs) :
    Calls Try.prog 14 #[.slice ao len cap] w fun e w' => e = .returned (.int .i64 (checkOf cs)) ∧ Turned [] w w' := by
  have hl := h.size
  have hr := h.room
  have H := hide h
  obtain ⟨y, hy⟩ : ∃ y, y = checkOf cs := ⟨_, rfl⟩
  rw [← hy]
  have HY := hide hy
  clear hy h
  by_cases h16 : len ≤ 16
  · have HL := hide hl
    clear hl
    go_enter Try.func14, Try.ntmps14
    go_wp2_with fail
    go_loopw [10] (fun i wr => ∃ (j : Nat), j ≤ len ∧ i = .int .i64 j ∧ Hid (∀ m c, m < j → cs[m]? = some c → c.may = true) ∧ Hid (Turned [] w wr)) (fun i _ => len - (intOf i).toNat)
    case atStart => exact ⟨0, Nat.zero_le _, rfl, fun m c hm => by omega, Turned.refl _ _⟩
    case round =>
      obtain ⟨j, hj, rfl, HP, HT⟩ := hrel
      by_cases hlt : j < len
      · obtain ⟨c, hc⟩ : ∃ c, cs[j]? = some c := ⟨_, List.getElem?_eq_getElem (by have := HL.out; omega)⟩
        obtain ⟨b, off, rfl, c0, c1, c2⟩ := (H.out.turned HT.out).cell j c hc
        have HM := hide (fun w => may_any c.r c.w c.a w (H.out.inn c (List.mem_of_getElem? hc)))
        have HTa := hide (fun d => HT.out.alloc (.cells d 43))
        have HC := hide hc
        clear hc
        cases hm : c.may with
        | true =>
          rw [show (⟨c.r, c.w, c.a⟩ : Cls).may = true from hm] at HM
          have HP2 : Hid (∀ m c, m < j + 1 → cs[m]? = some c → c.may = true) := fun m d hmj hd => by
            by_cases he : m = j
            · subst he
              rw [HC.out] at hd
              injection hd with hd
              subst hd
              exact hm
            · exact HP.out m d (by omega) hd
          clear hm HP HC
          go_wp2_with fail
          refine (HM.out _).mono ?_
          rintro e w1 ⟨rfl, ht1⟩
          have HT1 := hide ((HTa.out _).trans ht1)
          clear ht1 HM HTa
          go_wp2_with fail
          go_roundw
          case rel => exact ⟨j + 1, by omega, by go_num, HP2, HT1⟩
          case measure => simp [intOf]; omega
        | false =>
          rw [show (⟨c.r, c.w, c.a⟩ : Cls).may = false from hm] at HM
          have hy : y = 12 := by
            rw [HY.out]
            unfold checkOf
            rw [if_neg]
            intro hh
            have := hh.2 c (List.mem_of_getElem? HC.out)
            rw [hm] at this
            cases this
          subst hy
          clear hm HP HC HY
          go_wp2_with fail
          refine (HM.out _).mono ?_
          rintro e w1 ⟨rfl, ht1⟩
          have HT1 := hide ((HTa.out _).trans ht1)
          clear ht1 HM HTa
          go_wp2_with fail
          go_ret
          exact ⟨rfl, HT1.out⟩
      · go_wp2_with fail
        go_ret
        refine ⟨?_, HT.out⟩
        have hy := HY.out
        have hjl : j = cs.length := by have := HL.out; omega
        have : y = 0 := by
          rw [hy]
          unfold checkOf
          rw [if_pos]
          refine ⟨by have := HL.out; omega, fun c hc => ?_⟩
          obtain ⟨m, hm⟩ := List.mem_iff_getElem?.1 hc
          exact HP.out m c (by have := (List.getElem?_eq_some_iff.1 hm).1; omega) hm
        rw [this]
        rfl
  · have hy : y = 12 := by rw [HY.out]; unfold checkOf; rw [if_neg]; intro hh; omega
    subst hy
    clear HY hl
    go_enter Try.func14, Try.ntmps14
    go_wp2_with fail
    go_ret
    exact ⟨rfl, Turned.refl _ _⟩
end Go.Proofs.Ytcnclecdainneaa

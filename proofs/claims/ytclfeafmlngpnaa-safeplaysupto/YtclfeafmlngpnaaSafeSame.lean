/-
  same: are two lists the same?
-/
import Derived.Test.YtclfeafmlngpnaaSafeAwake
import Derived.Deep.QuietTactic
import Derived.BigQuiet
namespace Go.Proofs.Ytclfeafmlngpnaa
open Go.RowKit Go.Maps
set_option linter.unusedVariables false

theorem eq_of_take {l r : List Int} {n : Nat} (h1 : l.length = n) (h2 : r.length = n) (h : l.take n = r.take n) : l = r := by
  rwa [List.take_of_length_le (Nat.le_of_eq h1), List.take_of_length_le (Nat.le_of_eq h2)] at h

set_option maxRecDepth 100000 in
theorem same_any (w : World) (ao bo : Option Addr) (n m c d : Nat) (l r : List Int) (hl : IRd w ao n l) (hr : IRd w bo m r) (hn : n ≤ 4611686018427387904) (hm : m ≤ 4611686018427387904) :
    Calls Try.prog 19 #[.slice ao n c, .slice bo m d] w fun e w' => e = .returned (.bool (decide (l = r))) ∧ Turned [] w w' := by
  have HL := hide hl
  have HR := hide hr
  by_cases hnm : n = m
  · subst hnm
    clear hl hr
    go_enter Try.func19, Try.ntmps19
    go_wp2_with fail
    go_loopw [5] (fun s4 wr => ∃ (k : Nat), k ≤ n ∧ s4 = .int .i64 k ∧ Hid (l.take k = r.take k) ∧ Hid (Turned [] w wr)) (fun s4 _ => n - (intOf s4).toNat)
    case atStart => exact ⟨0, Nat.zero_le _, rfl, by show _ = _; simp, Turned.refl _ _⟩
    case round =>
      obtain ⟨k, hk, rfl, HK, HT⟩ := hrel
      by_cases hlt : k < n
      · obtain ⟨x, hx⟩ : ∃ x, l[k]? = some x := ⟨_, List.getElem?_eq_getElem (by rw [HL.out.size]; exact hlt)⟩
        obtain ⟨y, hy⟩ : ∃ x, r[k]? = some x := ⟨_, List.getElem?_eq_getElem (by rw [HR.out.size]; exact hlt)⟩
        obtain ⟨g, off, rfl, hc⟩ := (HL.out.turned HT.out (by simp)).cell k x hx
        obtain ⟨g2, off2, rfl, hc2⟩ := (HR.out.turned HT.out (by simp)).cell k y hy
        by_cases hxy : x = y
        · subst hxy
          have HE : Hid (l.take (k + 1) = r.take (k + 1)) := by show _ = _; rw [take_snoc hx, take_snoc hy, HK.out]
          have hlt2 : (k : Int) < (n : Int) := by omega
          clear hx hy HK
          go_wp2_with fail
          go_quiet (fail)
          have HT2 := hide (HT.out.drewN nq)
          go_wp2_with fail
          go_roundw
          case rel => exact ⟨k + 1, by omega, by go_num, HE, HT2⟩
          case measure => simp [intOf]; omega
        · have b1 : (x == y) = false := by simp [hxy]
          have HE : Hid (decide (l = r) = false) := by
            show _ = _
            refine decide_eq_false fun e => hxy ?_
            rw [e, hy] at hx
            injection hx with hx
            exact hx.symm
          have hlt2 : (k : Int) < (n : Int) := by omega
          clear hx hy HK
          go_wp2_with fail
          go_quiet (fail)
          have HT2 := hide (HT.out.drewN nq)
          go_wp2_with fail
          go_ret
          exact ⟨by rw [HE.out]; rfl, HT2.out⟩
      · have hkl : k = n := by omega
        subst hkl
        have HE : Hid (decide (l = r) = true) := decide_eq_true (eq_of_take HL.out.size HR.out.size HK.out)
        go_wp2_with fail
        go_ret
        exact ⟨by rw [HE.out]; rfl, HT.out⟩
  · have HE : Hid (decide (l = r) = false) := by
      show _ = _
      refine decide_eq_false fun e => hnm ?_
      rw [← hl.size, ← hr.size, e]
    have b0 : ((n : Int) == (m : Int)) = false := by simp; omega
    clear hl hr
    go_enter Try.func19, Try.ntmps19
    go_wp2_with fail
    go_ret
    exact ⟨by rw [HE.out]; rfl, Turned.refl _ _⟩
/-- Of two rows. -/
theorem same_rows (w : World) (B C : Nat) (v u : Value) (l r : List Int) (hl : Row w B v l) (hr : Row w C u r) (h1 : ∀ x, x ∈ l → In64 x) (h2 : ∀ x, x ∈ r → In64 x) (hn : l.length < 17592186044416) (hm : r.length < 17592186044416) :
    Calls Try.prog 19 #[v, u] w fun e w' => e = .returned (.bool (decide (l = r))) ∧ Turned [] w w' := by
  obtain ⟨ao, c, rfl, i1⟩ := hl.ird h1
  obtain ⟨bo, d, rfl, i2⟩ := hr.ird h2
  exact same_any w ao bo _ _ c d l r i1 i2 (by omega) (by omega)
end Go.Proofs.Ytclfeafmlngpnaa

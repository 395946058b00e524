/-
  Put of the document's own memory, at whatever place and with whatever words that came in.
-/
import Derived.Test.YtelljfckffmjmaaRefCells
import Derived.Test.YtelljfckffmjmaaCellsPutAny
import Derived.Deep.QuietTactic
import Derived.BigQuiet
namespace Go.Proofs.Ytelljfckffmjmaa
open Go.RowKit

theorem over_snoc (l : List Int) (t : Nat) (m : List Int) (k : Nat) (x : Int) (h : t + m.length ≤ l.length) (hx : m[k]? = some x) : over l t (m.take (k + 1)) = (over l t (m.take k)).set (t + k) x := by
  have hk : k < m.length := (List.getElem?_eq_some_iff.1 hx).1
  apply List.ext_getElem?
  intro i
  rw [over_get _ _ _ (by simp; omega)]
  by_cases hi : i = t + k
  · subst hi
    rw [if_pos (by simp; omega), List.getElem?_take_of_lt (by omega), show t + k - t = k by omega, List.getElem?_set_self (by rw [over_length _ _ _ (by simp; omega)]; omega), hx]
  · rw [List.getElem?_set_ne (by omega), over_get _ _ _ (by simp; omega)]
    simp only [List.length_take]
    by_cases h1 : t ≤ i ∧ i < t + k
    · rw [if_pos (by omega), if_pos (by omega), List.getElem?_take_of_lt (by omega), List.getElem?_take_of_lt (by omega)]
    · rw [if_neg (by omega), if_neg (by omega)]

set_option maxRecDepth 100000 in
theorem rput_fits (p q : Nat) (l : List Int) (s : Int) (t : Nat) (a : Option Addr) (len cap : Nat) (zs : List Int) (w : World) (hl : l.length ≤ 65536) (h : Ref w p q l s) (hr : IsRow .i64 w a len cap zs) (hlen : (zs.take len).length = len)
    (hf : (t : Int) ≤ l.length) (hf2 : (len : Int) ≤ l.length - t) (hpq : ∀ b off, 0 < len → a = some ⟨b, off, none⟩ → b ≠ p ∧ b ≠ q) :
    Calls Try.prog 13 #[.pointer (some ⟨p, 0, none⟩), .int .i64 t, .slice a len cap] w fun e w' => e = .returned (.int .i64 0) ∧ Ref w' p q (over l t (zs.take len)) s ∧ Turned [p, q] w w' := by
  have h0 := h.c0
  have HH := hide h
  have HR := hide hr
  have HL := hide hlen
  have HPQ := hide hpq
  clear h hr hlen hpq
  go_enter Try.func13, Try.ntmps13
  go_wp2_with fail
  go_loopw [7] (fun i wr => ∃ k : Nat, k ≤ len ∧ i = .int .i64 k ∧ Hid (Ref wr p q (over l t ((zs.take len).take k)) s) ∧ Hid (Turned [p, q] w wr)) (fun i _ => len - (intOf i).toNat)
  case atStart => exact ⟨0, Nat.zero_le _, rfl, by show Ref _ _ _ _ _; rw [show over l t ((zs.take len).take 0) = l by simp [over]]; exact HH.out, Turned.refl _ _⟩
  case round =>
    obtain ⟨k, hk, rfl, HRr, HTr⟩ := hrel
    clear h0
    by_cases hlt : k < len
    · rcases HR.out.cases with h1 | ⟨b, off, rfl, hz, hn, hb, hc, _⟩
      · exfalso; omega
      have hne := HPQ.out b off (by omega) rfl
      obtain ⟨x, hx⟩ : ∃ x, (zs.take len)[k]? = some x := ⟨_, List.getElem?_eq_getElem (by rw [HL.out]; exact hlt)⟩
      have hcw : wr.cell? ⟨b, off + k, none⟩ = some (.int .i64 x) := by
        rw [HTr.out.cell hb (by simp; omega), hc k hlt, List.getD_eq_getElem?_getD]
        rw [List.getElem?_take_of_lt hlt] at hx
        rw [hx]
        rfl
      have HS := hide (over_snoc l t (zs.take len) k x (by rw [HL.out]; omega) hx)
      have hll : (over l t ((zs.take len).take k)).length = l.length := over_length _ _ _ (by have := HL.out; simp only [List.length_take] at this ⊢; omega)
      obtain ⟨y, hy⟩ : ∃ y, (over l t ((zs.take len).take k))[t + k]? = some y := ⟨_, List.getElem?_eq_getElem (by rw [hll]; omega)⟩
      have h0 := HRr.out.c0
      rw [hll] at h0
      have hw := HRr.out.word hy
      have hfz := HRr.out.fw (t + k)
      clear hx hy hll hc hne
      go_wp2_with fail
      go_region
      all_goals
        go_wp2_with fail
        go_roundw
        case rel => exact ⟨k + 1, by omega, by go_num, by show Ref _ _ _ _ _; rw [HS.out]; exact (HRr.out.store (t + k) x).drew, (HTr.out.setCell (by simp) _).drew⟩
        case measure => simp [intOf]; omega
    · have e : k = len := by omega
      go_wp2_with fail
      go_ret
      refine ⟨rfl, ?_, HTr.out⟩
      have h1 := HRr.out
      rw [e, List.take_of_length_le (by rw [HL.out]; omega)] at h1
      exact h1

theorem rput_out (p q : Nat) (l : List Int) (s t : Int) (a : Option Addr) (len cap : Nat) (w : World) (hl : l.length ≤ 65536) (h : Ref w p q l s) (hk : t < 0 ∨ l.length < t ∨ l.length - t < len) :
    Calls Try.prog 13 #[.pointer (some ⟨p, 0, none⟩), .int .i64 t, .slice a len cap] w fun e w' => e = .returned (.int .i64 10) ∧ w' = w := by
  have h0 := h.c0
  clear h
  by_cases h1 : t < 0
  · clear hk
    go_enter Try.func13, Try.ntmps13
    go_wp2
    go_ret
    exact ⟨rfl, rfl⟩
  · by_cases h2 : (l.length : Int) < t
    · clear hk
      go_enter Try.func13, Try.ntmps13
      go_wp2
      go_ret
      exact ⟨rfl, rfl⟩
    · have h3 : (l.length : Int) - t < len := by omega
      clear hk
      go_enter Try.func13, Try.ntmps13
      go_wp2
      go_ret
      exact ⟨rfl, rfl⟩

theorem rput_any (p q : Nat) (l : List Int) (s t : Int) (a : Option Addr) (len cap : Nat) (zs : List Int) (w : World) (hl : l.length ≤ 65536) (h : Ref w p q l s) (hr : IsRow .i64 w a len cap zs) (hpq : ∀ b off, 0 < len → a = some ⟨b, off, none⟩ → b ≠ p ∧ b ≠ q) :
    Calls Try.prog 13 #[.pointer (some ⟨p, 0, none⟩), .int .i64 t, .slice a len cap] w fun e w' => e = .returned (.int .i64 (putE l t (zs.take len))) ∧ Ref w' p q (putL l t (zs.take len)) s ∧ Turned [p, q] w w' := by
  have hlen : (zs.take len).length = len := by
    rcases hr with ⟨_, h1, _, h2⟩ | ⟨x, _, h1, _, h2, _⟩
    · simp [h1]
    · simp; omega
  by_cases hf : 0 ≤ t ∧ t + len ≤ l.length
  · have e1 : putE l t (zs.take len) = 0 := by unfold putE; rw [hlen, if_pos hf]
    have e2 : putL l t (zs.take len) = over l t.toNat (zs.take len) := by unfold putL; rw [hlen, if_pos hf]
    rw [e1, e2]
    obtain ⟨k, rfl⟩ := Int.eq_ofNat_of_zero_le hf.1
    rw [Int.toNat_natCast]
    exact rput_fits p q l s k a len cap zs w hl h hr hlen (by omega) (by omega) hpq
  · have e1 : putE l t (zs.take len) = 10 := by unfold putE; rw [hlen, if_neg hf]
    have e2 : putL l t (zs.take len) = l := by unfold putL; rw [hlen, if_neg hf]
    rw [e1, e2]
    refine (rput_out p q l s t a len cap w hl h (by omega)).mono fun e w' ⟨he, hw⟩ => ?_
    subst he hw
    exact ⟨rfl, h, Turned.refl _ _⟩
end Go.Proofs.Ytelljfckffmjmaa

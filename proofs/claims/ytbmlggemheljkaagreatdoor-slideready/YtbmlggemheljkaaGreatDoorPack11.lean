/-
  Texts of the proof, several in one: CellsPutAny.
-/
import Derived.Test.YtbmlggemheljkaaGreatDoorPack9
import Derived.Test.YtbmlggemheljkaaGreatDoorPack7
/-
  Put of package cells, at whatever place and with whatever words that came in.
-/
namespace Go.Proofs.YtbmlggemheljkaaGreatDoor
open Go.RowKit

theorem over_get (l : List Int) (k : Nat) (m : List Int) (h : k + m.length ≤ l.length) (i : Nat) : (over l k m)[i]? = if k ≤ i ∧ i < k + m.length then m[i - k]? else l[i]? := by
  unfold over
  have h1 : (l.take k).length = k := by simp; omega
  by_cases c1 : i < k
  · rw [if_neg (by omega), List.append_assoc, List.getElem?_append_left (by omega), List.getElem?_take_of_lt c1]
  · by_cases c2 : i < k + m.length
    · rw [if_pos ⟨by omega, c2⟩, List.getElem?_append_left (by simp; omega), List.getElem?_append_right (by omega), h1]
    · rw [if_neg (by omega), List.getElem?_append_right (by simp; omega), List.getElem?_drop]
      congr 1
      simp; omega

/-- What Put leaves: the words laid over, or all as it was. -/
def putL (l : List Int) (t : Int) (m : List Int) : List Int := if 0 ≤ t ∧ t + m.length ≤ l.length then over l t.toNat m else l
def putE (l : List Int) (t : Int) (m : List Int) : Int := if 0 ≤ t ∧ t + m.length ≤ l.length then 0 else 10
theorem putL_length (l : List Int) (t : Int) (m : List Int) : (putL l t m).length = l.length := by
  unfold putL
  split
  · exact over_length _ _ _ (by omega)
  · rfl

theorem put_any (p q : Nat) (l : List Int) (s t : Int) (a : Option Addr) (len cap : Nat) (zs : List Int) (w : World) (hl : l.length ≤ 65536) (h : Mem w p q l s) (hr : IsRow .i64 w a len cap zs) :
    Calls Tryz.prog 29 #[.pointer (some ⟨p, 0, none⟩), .int .i64 t, .slice a len cap] w fun e w' => e = .returned (.int .i64 (putE l t (zs.take len))) ∧ Mem w' p q (putL l t (zs.take len)) s ∧ Turned [p, q] w w' := by
  have hlen : (zs.take len).length = len := by
    rcases hr with ⟨_, h1, _, h2⟩ | ⟨x, _, h1, _, h2, _⟩
    · simp [h1]
    · simp; omega
  by_cases hf : 0 ≤ t ∧ t + len ≤ l.length
  · have e1 : putE l t (zs.take len) = 0 := by unfold putE; rw [hlen, if_pos hf]
    have e2 : putL l t (zs.take len) = over l t.toNat (zs.take len) := by unfold putL; rw [hlen, if_pos hf]
    rw [e1, e2]
    obtain ⟨k, rfl⟩ := Int.eq_ofNat_of_zero_le hf.1
    rw [Int.toNat_natCast]
    rcases hr.cases with h0 | ⟨b, off, rfl, hz, _, hb, hc, _⟩
    · subst h0
      refine (put_none p q l s k a cap w hl (by omega) h).mono fun e w' ⟨he, hw⟩ => ?_
      subst he hw
      refine ⟨rfl, ?_, Turned.refl _ _⟩
      have : over l k (zs.take 0) = l := by simp [over]
      rw [this]
      exact h
    · by_cases h0 : len = 0
      · subst h0
        refine (put_none p q l s k _ cap w hl (by omega) h).mono fun e w' ⟨he, hw⟩ => ?_
        subst he hw
        refine ⟨rfl, ?_, Turned.refl _ _⟩
        have : over l k (zs.take 0) = l := by simp [over]
        rw [this]
        exact h
      · have hp := put_in p q l s k b off cap (zs.take len) w hl (by omega) (by omega) h (fun j x hx => by
          have hj : j < len := by have := (List.getElem?_eq_some_iff.1 hx).1; omega
          rw [List.getElem?_take_of_lt hj] at hx
          rw [hc j hj, List.getD_eq_getElem?_getD, hx]
          rfl)
        rw [hlen] at hp
        exact hp
  · have e1 : putE l t (zs.take len) = 10 := by unfold putE; rw [hlen, if_neg hf]
    have e2 : putL l t (zs.take len) = l := by unfold putL; rw [hlen, if_neg hf]
    rw [e1, e2]
    refine (put_out p _ l.length _ t a len cap w hl h.c0 (by omega)).mono fun e w' ⟨he, hw⟩ => ?_
    subst he hw
    exact ⟨rfl, h, Turned.refl _ _⟩
end Go.Proofs.YtbmlggemheljkaaGreatDoor

/-
  Each access of a memory, and of the document's own one, at whatever place: both tell the same and leave the same words and the same count.
-/
import Derived.Test.YthkdikdhceibnaaRefCells
namespace Go.Proofs.Ythkdikdhceibnaa
open Go.RowKit
set_option linter.unusedSimpArgs false
set_option linter.unusedVariables false

def inR (l : List Int) (t : Int) : Bool := decide (0 ≤ t ∧ t < l.length)
def stS (l : List Int) (t s : Int) : Int := if inR l t then wrap64 (s + 1) else s
def ldV (l : List Int) (t : Int) : Int := if inR l t then l.getD t.toNat 0 else 0
def ldE (l : List Int) (t : Int) : Int := if inR l t then 0 else 10
def setL (l : List Int) (t v : Int) : List Int := if inR l t then l.set t.toNat v else l
def swB (l : List Int) (t o : Int) : Bool := inR l t && decide (l.getD t.toNat 0 = o)
def swL (l : List Int) (t o v : Int) : List Int := if swB l t o then l.set t.toNat v else l
def addL (l : List Int) (t v : Int) : List Int := if inR l t then l.set t.toNat (wrap64 (l.getD t.toNat 0 + v)) else l
def Ranged (l : List Int) : Prop := ∀ (i : Nat) (x : Int), l[i]? = some x → -9223372036854775808 ≤ x ∧ x ≤ 9223372036854775807

theorem inR_cases (l : List Int) (t : Int) : (inR l t = false ∧ (t < 0 ∨ (l.length : Int) ≤ t)) ∨ (inR l t = true ∧ ∃ k x, t = ((k : Nat) : Int) ∧ l[k]? = some x ∧ l.getD k 0 = x) := by
  unfold inR
  by_cases h : 0 ≤ t ∧ t < l.length
  · right
    refine ⟨decide_eq_true h, t.toNat, l.getD t.toNat 0, by omega, ?_, rfl⟩
    rw [List.getD_eq_getElem?_getD, List.getElem?_eq_getElem (by omega)]
    rfl
  · left
    exact ⟨decide_eq_false h, by omega⟩

theorem ranged_set {l : List Int} (h : Ranged l) (k : Nat) (v : Int) (hv : -9223372036854775808 ≤ v ∧ v ≤ 9223372036854775807) : Ranged (l.set k v) := by
  intro i x hx
  by_cases hi : k = i
  · subst hi
    by_cases hk : k < l.length
    · rw [List.getElem?_set_self hk] at hx
      injection hx with hx
      subst hx
      exact hv
    · rw [List.set_eq_of_length_le (by omega)] at hx
      exact h _ x hx
  · rw [List.getElem?_set_ne hi] at hx
    exact h i x hx
theorem setL_ranged {l : List Int} (h : Ranged l) (t v : Int) (hv : -9223372036854775808 ≤ v ∧ v ≤ 9223372036854775807) : Ranged (setL l t v) := by
  unfold setL; split
  · exact ranged_set h _ _ hv
  · exact h
theorem swL_ranged {l : List Int} (h : Ranged l) (t o v : Int) (hv : -9223372036854775808 ≤ v ∧ v ≤ 9223372036854775807) : Ranged (swL l t o v) := by
  unfold swL; split
  · exact ranged_set h _ _ hv
  · exact h
theorem addL_ranged {l : List Int} (h : Ranged l) (t v : Int) : Ranged (addL l t v) := by
  unfold addL; split
  · exact ranged_set h _ _ (by unfold wrap64; omega)
  · exact h
theorem setL_length (l : List Int) (t v : Int) : (setL l t v).length = l.length := by unfold setL; split <;> simp
theorem swL_length (l : List Int) (t o v : Int) : (swL l t o v).length = l.length := by unfold swL; split <;> simp
theorem addL_length (l : List Int) (t v : Int) : (addL l t v).length = l.length := by unfold addL; split <;> simp

theorem load_any (p q : Nat) (l : List Int) (s t : Int) (w : World) (h : Mem w p q l s) :
    Calls Try.prog 13 #[.pointer (some ⟨p, 0, none⟩), .int .i64 t] w fun e w' => e = .returned (.tuple #[.int .i64 (ldV l t), .int .i64 (ldE l t)]) ∧ Mem w' p q l (stS l t s) ∧ Turned [p, q] w w' := by
  rcases inR_cases l t with ⟨e1, h1⟩ | ⟨e1, k, x, rfl, hx, hg⟩
  · simp only [ldV, ldE, setL, swB, swL, addL, stS, e1, Bool.false_and, if_neg Bool.false_ne_true]
    exact (load_out p _ _ _ w t h1 h.c0).mono fun e w' ⟨he, hw⟩ => by subst he hw; exact ⟨rfl, h, Turned.refl _ _⟩
  · simp only [ldV, ldE, setL, swB, swL, addL, stS, e1, Bool.true_and, if_true, Int.toNat_natCast, hg]
    exact load_in p q l s w k x hx h

theorem store_any (p q : Nat) (l : List Int) (s t v : Int) (w : World) (h : Mem w p q l s) :
    Calls Try.prog 24 #[.pointer (some ⟨p, 0, none⟩), .int .i64 t, .int .i64 v] w fun e w' => e = .returned (.int .i64 (ldE l t)) ∧ Mem w' p q (setL l t v) (stS l t s) ∧ Turned [p, q] w w' := by
  rcases inR_cases l t with ⟨e1, h1⟩ | ⟨e1, k, x, rfl, hx, hg⟩
  · simp only [ldV, ldE, setL, swB, swL, addL, stS, e1, Bool.false_and, if_neg Bool.false_ne_true]
    exact (store_out p _ _ _ w t v h1 h.c0).mono fun e w' ⟨he, hw⟩ => by subst he hw; exact ⟨rfl, h, Turned.refl _ _⟩
  · simp only [ldV, ldE, setL, swB, swL, addL, stS, e1, Bool.true_and, if_true, Int.toNat_natCast, hg]
    exact store_in p q l s w k x v hx h

theorem swap_any (p q : Nat) (l : List Int) (s t o v : Int) (w : World) (h : Mem w p q l s) :
    Calls Try.prog 15 #[.pointer (some ⟨p, 0, none⟩), .int .i64 t, .int .i64 o, .int .i64 v] w fun e w' => e = .returned (.tuple #[.bool (swB l t o), .int .i64 (ldE l t)]) ∧ Mem w' p q (swL l t o v) (stS l t s) ∧ Turned [p, q] w w' := by
  rcases inR_cases l t with ⟨e1, h1⟩ | ⟨e1, k, x, rfl, hx, hg⟩
  · simp only [ldV, ldE, setL, swB, swL, addL, stS, e1, Bool.false_and, if_neg Bool.false_ne_true]
    exact (swap_out p _ _ _ w t o v h1 h.c0).mono fun e w' ⟨he, hw⟩ => by subst he hw; exact ⟨rfl, h, Turned.refl _ _⟩
  · by_cases ho : x = o
    · subst ho
      simp only [ldE, swB, swL, stS, e1, Bool.true_and, if_true, Int.toNat_natCast, hg, decide_true]
      exact swap_hit p q l s w k x v hx h
    · simp only [ldE, swB, swL, stS, e1, Bool.true_and, if_true, Int.toNat_natCast, hg, decide_eq_false ho, if_neg Bool.false_ne_true]
      exact swap_miss p q l s w k x o v hx ho h

theorem add_any (p q : Nat) (l : List Int) (s t v : Int) (w : World) (hr : Ranged l) (h : Mem w p q l s) :
    Calls Try.prog 17 #[.pointer (some ⟨p, 0, none⟩), .int .i64 t, .int .i64 v] w fun e w' => e = .returned (.tuple #[.int .i64 (ldV l t), .int .i64 (ldE l t)]) ∧ Mem w' p q (addL l t v) (stS l t s) ∧ Turned [p, q] w w' := by
  rcases inR_cases l t with ⟨e1, h1⟩ | ⟨e1, k, x, rfl, hx, hg⟩
  · simp only [ldV, ldE, setL, swB, swL, addL, stS, e1, Bool.false_and, if_neg Bool.false_ne_true]
    exact (add_out p _ _ _ w t v h1 h.c0).mono fun e w' ⟨he, hw⟩ => by subst he hw; exact ⟨rfl, h, Turned.refl _ _⟩
  · simp only [ldV, ldE, setL, swB, swL, addL, stS, e1, Bool.true_and, if_true, Int.toNat_natCast, hg]
    have hb := hr k x hx
    have e2 : wrap64 (wrap64 (x + v) - v) = x := by unfold wrap64; omega
    have h3 := add_in p q l s w k x v hx h
    rw [e2] at h3
    exact h3

theorem rload_any (p q : Nat) (l : List Int) (s t : Int) (w : World) (h : Ref w p q l s) :
    Calls Try.prog 14 #[.pointer (some ⟨p, 0, none⟩), .int .i64 t] w fun e w' => e = .returned (.tuple #[.int .i64 (ldV l t), .int .i64 (ldE l t)]) ∧ Ref w' p q l (stS l t s) ∧ Turned [p, q] w w' := by
  rcases inR_cases l t with ⟨e1, h1⟩ | ⟨e1, k, x, rfl, hx, hg⟩
  · simp only [ldV, ldE, setL, swB, swL, addL, stS, e1, Bool.false_and, if_neg Bool.false_ne_true]
    exact (rload_out p q l s w t h1 h).mono fun e w' ⟨he, hw⟩ => by subst he hw; exact ⟨rfl, h, Turned.refl _ _⟩
  · simp only [ldV, ldE, setL, swB, swL, addL, stS, e1, Bool.true_and, if_true, Int.toNat_natCast, hg]
    exact rload_in p q l s w k x hx h

theorem rstore_any (p q : Nat) (l : List Int) (s t v : Int) (w : World) (h : Ref w p q l s) :
    Calls Try.prog 25 #[.pointer (some ⟨p, 0, none⟩), .int .i64 t, .int .i64 v] w fun e w' => e = .returned (.int .i64 (ldE l t)) ∧ Ref w' p q (setL l t v) (stS l t s) ∧ Turned [p, q] w w' := by
  rcases inR_cases l t with ⟨e1, h1⟩ | ⟨e1, k, x, rfl, hx, hg⟩
  · simp only [ldV, ldE, setL, swB, swL, addL, stS, e1, Bool.false_and, if_neg Bool.false_ne_true]
    exact (rstore_out p q l s w t v h1 h).mono fun e w' ⟨he, hw⟩ => by subst he hw; exact ⟨rfl, h, Turned.refl _ _⟩
  · simp only [ldV, ldE, setL, swB, swL, addL, stS, e1, Bool.true_and, if_true, Int.toNat_natCast, hg]
    exact rstore_in p q l s w k x v hx h

theorem rswap_any (p q : Nat) (l : List Int) (s t o v : Int) (w : World) (h : Ref w p q l s) :
    Calls Try.prog 16 #[.pointer (some ⟨p, 0, none⟩), .int .i64 t, .int .i64 o, .int .i64 v] w fun e w' => e = .returned (.tuple #[.bool (swB l t o), .int .i64 (ldE l t)]) ∧ Ref w' p q (swL l t o v) (stS l t s) ∧ Turned [p, q] w w' := by
  rcases inR_cases l t with ⟨e1, h1⟩ | ⟨e1, k, x, rfl, hx, hg⟩
  · simp only [ldV, ldE, setL, swB, swL, addL, stS, e1, Bool.false_and, if_neg Bool.false_ne_true]
    exact (rswap_out p q l s w t o v h1 h).mono fun e w' ⟨he, hw⟩ => by subst he hw; exact ⟨rfl, h, Turned.refl _ _⟩
  · by_cases ho : x = o
    · subst ho
      simp only [ldE, swB, swL, stS, e1, Bool.true_and, if_true, Int.toNat_natCast, hg, decide_true]
      exact rswap_hit p q l s w k x v hx h
    · simp only [ldE, swB, swL, stS, e1, Bool.true_and, if_true, Int.toNat_natCast, hg, decide_eq_false ho, if_neg Bool.false_ne_true]
      exact rswap_miss p q l s w k x o v hx ho h

theorem radd_any (p q : Nat) (l : List Int) (s t v : Int) (w : World) (h : Ref w p q l s) :
    Calls Try.prog 18 #[.pointer (some ⟨p, 0, none⟩), .int .i64 t, .int .i64 v] w fun e w' => e = .returned (.tuple #[.int .i64 (ldV l t), .int .i64 (ldE l t)]) ∧ Ref w' p q (addL l t v) (stS l t s) ∧ Turned [p, q] w w' := by
  rcases inR_cases l t with ⟨e1, h1⟩ | ⟨e1, k, x, rfl, hx, hg⟩
  · simp only [ldV, ldE, setL, swB, swL, addL, stS, e1, Bool.false_and, if_neg Bool.false_ne_true]
    exact (radd_out p q l s w t v h1 h).mono fun e w' ⟨he, hw⟩ => by subst he hw; exact ⟨rfl, h, Turned.refl _ _⟩
  · simp only [ldV, ldE, setL, swB, swL, addL, stS, e1, Bool.true_and, if_true, Int.toNat_natCast, hg]
    exact radd_in p q l s w k x v hx h

end Go.Proofs.Ythkdikdhceibnaa

/-
  Calls of package plan on bits: lives, past, cut.
-/
import Derived.Test.YtcckflcjjgckoaaDoorPlanSmall
namespace Go.Proofs.YtcckflcjjgckoaaDoor
open Go.RowKit Bt
set_option linter.unusedVariables false

/-- Does the word x live? -/
noncomputable def lvI (S : Nat → Nat) (x : Int) : Bool := decide (0 ≤ x) && live S x.toNat
theorem lvI_nat (S : Nat → Nat) (x : Nat) : lvI S (x : Int) = live S x := by unfold lvI; simp
theorem over_lv {S : Nat → Nat} {x a z : Int} {t : Bool} (h : IsOver S x a z t) : t = lvI S x := by
  rcases h with ⟨k, j, rfl, hc, _, _, rfl⟩ | ⟨h1, _, _, rfl⟩
  · rw [lvI_nat]
    symm
    unfold live
    rw [bo_true]
    exact ⟨k, hc⟩
  · unfold lvI
    by_cases h0 : 0 ≤ x
    · obtain ⟨j, rfl⟩ := Int.eq_ofNat_of_zero_le h0
      have : live S j = false := by
        unfold live
        rw [bo_false]
        rintro ⟨k, hk⟩
        exact h1 k j rfl hk
      simp [this]
    · simp [h0]

theorem lives_any (ov : Option Addr) (n : Nat) (S : Nat → Nat) (x : Int) (w : World) (h : Brd w ov n (sidesOf S)) (hs : Bl n S) :
    Calls Tryd.prog 41 #[.pointer ov, .int .i64 x] w fun e w' => e = .returned (.bool (lvI S x)) ∧ Turned [] w w' := by
  have H := hide (over_any ov n S x w h hs)
  clear h hs
  go_enter Tryd.func41, Tryd.ntmps41
  go_wp2_with fail
  refine (H.out).mono ?_
  rintro e w1 ⟨a, z, t, rfl, hr, m, rfl⟩
  have HL := hide (over_lv hr)
  clear hr
  go_wp2_with fail
  go_ret
  exact ⟨by rw [← HL.out]; rfl, (Turned.refl _ _).drewN _⟩

/-- What past tells: the end of the block that has words on both sides of x. -/
def IsPast (S : Nat → Nat) (x : Nat) (r : Nat) : Prop := (∃ a, a < x ∧ x < a + S a ∧ r = a + S a) ∨ ((∀ a, a < x → ¬ x < a + S a) ∧ r = x)
theorem IsPast.uniq {n : Nat} {S : Nat → Nat} (hs : Bl n S) {x r s : Nat} (h : IsPast S x r) (k : IsPast S x s) : r = s := by
  rcases h with ⟨a, h1, h2, rfl⟩ | ⟨h1, rfl⟩ <;> rcases k with ⟨b, k1, k2, rfl⟩ | ⟨k1, rfl⟩
  · have : a = b := hs.one (k := x) ⟨by omega, h2⟩ ⟨by omega, k2⟩
    rw [this]
  · exact absurd h2 (k1 a h1)
  · exact absurd k2 (h1 b k1)
  · rfl
theorem IsPast.ge {S : Nat → Nat} {x r : Nat} (h : IsPast S x r) : x ≤ r := by rcases h with ⟨a, h1, h2, rfl⟩ | ⟨h1, rfl⟩ <;> omega
theorem IsPast.le {n : Nat} {S : Nat → Nat} (hs : Bl n S) {x r : Nat} (h : IsPast S x r) (hx : x ≤ n) : r ≤ n := by
  rcases h with ⟨a, h1, h2, rfl⟩ | ⟨h1, rfl⟩
  · exact hs.into a (by omega)
  · exact hx
/-- All between is live. -/
theorem IsPast.live {S : Nat → Nat} {x r : Nat} (h : IsPast S x r) {k : Nat} (h1 : x ≤ k) (h2 : k < r) : live S k = true := by
  rcases h with ⟨a, h3, h4, rfl⟩ | ⟨h3, rfl⟩
  · unfold Bt.live; rw [bo_true]; exact ⟨a, by unfold Cov; omega⟩
  · omega

theorem past_any (ov : Option Addr) (n : Nat) (S : Nat → Nat) (x : Nat) (w : World) (h : Brd w ov n (sidesOf S)) (hs : Bl n S) :
    Calls Tryd.prog 26 #[.pointer ov, .int .i64 (x : Int)] w fun e w' => ∃ r : Nat, e = .returned (.int .i64 (r : Int)) ∧ IsPast S x r ∧ Turned [] w w' := by
  have H := hide (over_any ov n S x w h hs)
  have hn := h.few
  have HS := hide hs
  clear h hs
  go_enter Tryd.func26, Tryd.ntmps26
  go_wp2_with fail
  refine (H.out).mono ?_
  rintro e w1 ⟨a, z, t, rfl, hr, m, rfl⟩
  rcases hr with ⟨k, j, hj, hc, rfl, rfl, rfl⟩ | ⟨hno, rfl, rfl, rfl⟩
  · have hjx : j = x := by omega
    subst hjx
    unfold Cov at hc
    have hz := HS.out.into k (by omega)
    by_cases hk : k < j
    · have hki : (k : Int) < j := by omega
      have HP : Hid (IsPast S j (k + S k)) := hide (.inl ⟨k, hk, hc.2, rfl⟩)
      have hw : wrap64 ((k : Int) + (S k : Int)) = ((k + S k : Nat) : Int) := by unfold wrap64; omega
      generalize S k = z at *
      clear hc hz hj H hn HS
      go_wp2_with fail
      go_ret
      exact ⟨_, by first | rfl | (rw [hw]; rfl), HP.out, (Turned.refl _ _).drewN _⟩
    · have hki : ¬ (k : Int) < j := by omega
      have HP : Hid (IsPast S j j) := hide (.inr ⟨fun a h1 h2 => by
        have := HS.out.one (k := j) (a := a) (b := k) ⟨by omega, h2⟩ hc
        omega, rfl⟩)
      generalize S k = z at *
      clear hc hz hj H hn HS
      go_wp2_with fail
      go_ret
      exact ⟨_, rfl, HP.out, (Turned.refl _ _).drewN _⟩
  · have HP : Hid (IsPast S x x) := hide (.inr ⟨fun a h1 h2 => hno a x rfl ⟨by omega, h2⟩, rfl⟩)
    clear hno H hn HS
    go_wp2_with fail
    go_ret
    exact ⟨_, rfl, HP.out, (Turned.refl _ _).drewN _⟩

/-- No block has words on both sides of x. -/
def NoCut (S : Nat → Nat) (x : Nat) : Prop := ∀ a, a < x → ¬ x < a + S a
theorem cut_not (ov : Option Addr) (n : Nat) (S : Nat → Nat) (x : Nat) (w : World) (h : Brd w ov n (sidesOf S)) (hs : Bl n S) (hx : NoCut S x) :
    Calls Tryd.prog 21 #[.pointer ov, .int .i64 (x : Int)] w fun e w' => e = .returned (.bool false) ∧ Turned [] w w' := by
  have H := hide (past_any ov n S x w h hs)
  have HU := hide (fun r hr => IsPast.uniq hs (x := x) (r := r) (s := x) hr (.inr ⟨hx, rfl⟩))
  clear h hs hx
  go_enter Tryd.func21, Tryd.ntmps21
  go_wp2_with fail
  refine (H.out).mono ?_
  rintro e w1 ⟨r, rfl, hr, ht⟩
  have hrx := HU.out r hr
  subst hrx
  have HT := hide ht
  clear hr ht HU H
  go_wp2_with fail
  go_ret
  exact ⟨by simp, HT.out⟩
end Go.Proofs.YtcckflcjjgckoaaDoor

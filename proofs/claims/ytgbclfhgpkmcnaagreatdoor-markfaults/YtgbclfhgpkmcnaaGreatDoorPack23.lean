/-
  Texts of the proof, several in one: DequeRun.
-/
import Derived.Test.YtgbclfhgpkmcnaaGreatDoorPack11
import Derived.Test.YtgbclfhgpkmcnaaGreatDoorPack21
import Derived.Test.YtgbclfhgpkmcnaaGreatDoorPack4
/-
  Run of package deque: steps by turns; and 'done' of the laws: one operation to its end.
-/
namespace Go.Proofs.YtgbclfhgpkmcnaaGreatDoor
open Go.RowKit

theorem PR.less {w : World} {g n n' : Nat} {xs : List (Option Nat)} (h : PR w g n xs) (hn : n' ≤ n) : PR w g n' xs := ⟨h.at_, fun i hi => h.there i (by omega), h.fz, h.lt⟩

/-- A deque and the operations at it (by their blocks). -/
structure Al (w : World) (d p q : Nat) (C : Cfg) (l : List Int) (s : Int) (bs : List Nat) (m : Nat → OpS) : Prop where
  dq : Dq w d p q C l s
  ops : ∀ b, b ∈ bs → OpB w b d (m b)
  ne : ∀ b, b ∈ bs → b ≠ d ∧ b ≠ p ∧ b ≠ q

section
variable {w : World} {d p q : Nat} {C : Cfg} {l : List Int} {s : Int} {bs : List Nat} {m : Nat → OpS}
theorem Al.turned (h : Al w d p q C l s bs m) {S : List Nat} {w' : World} (t : Turned S w w') (hd : d ∉ S) (hp : p ∉ S) (hq : q ∉ S) (hb : ∀ b, b ∈ bs → b ∉ S) : Al w' d p q C l s bs m :=
  ⟨h.dq.turned t hd hp hq, fun b hm => (h.ops b hm).turned t (hb b hm), h.ne⟩
theorem Al.turned0 (h : Al w d p q C l s bs m) {w' : World} (t : Turned [] w w') : Al w' d p q C l s bs m := h.turned t (by simp) (by simp) (by simp) (by simp)
theorem Al.step (h : Al w d p q C l s bs m) {w' : World} {l' : List Int} {s' : Int} {b : Nat} {o' : OpS} (hd : Dq w' d p q C l' s') (ho : OpB w' b d o') (t : Turned [p, q, b] w w') : Al w' d p q C l' s' bs (upd m b o') := by
  refine ⟨hd, fun c hc => ?_, h.ne⟩
  unfold upd
  split
  · rename_i e; subst e; exact ho
  · rename_i e
    exact (h.ops c hc).turned t (by simp; exact ⟨(h.ne c hc).2.1, (h.ne c hc).2.2, e⟩)
end

theorem Tryz.infoOp : (Tryz.prog.info? 85).map (fun i => (i.zero, i.size, i.bytes)) = some (some (.pointer none), 1, 8) := by kernel_rfl

section
variable (w : World) (d p q g cap : Nat) (C : Cfg) (l : List Int) (s : Int) (bs : List Nat) (m : Nat → OpS) (ps : List (Option Nat))

theorem Al.done (h : Al w d p q C l s bs m) (x : Option Nat) (hx : ∀ b, x = some b → b ∈ bs) :
    Calls Tryz.prog 99 #[pv x] w fun e w' => e = .returned (.bool (dnOf m x)) ∧ w' = w := by
  cases x with
  | none => exact done_nil w
  | some b => exact done_any w d b (m b) (h.ops b (hx b rfl))

end

/-- An operation alone, so many steps. -/
def goes (C : Cfg) : Nat → List Int × OpS → List Int × OpS
  | 0, r => r
  | k + 1, r => goes C k (stepOf C r.1 r.2)

theorem goes_done (C : Cfg) (k : Nat) (r : List Int × OpS) (h : r.2.done = true) : goes C k r = r := by
  induction k with
  | zero => rfl
  | succ k ih =>
    rw [goes, show stepOf C r.1 r.2 = r by rw [stepOf_done C r.1 h], ih]

theorem rounds_one (C : Cfg) (b : Nat) (k : Nat) : ∀ (l : List Int) (m : Nat → OpS) (n : Nat), n + k < 100000 → (rounds C [some b] k ⟨l, m, n⟩).l = (goes C k (l, m b)).1 ∧ (rounds C [some b] k ⟨l, m, n⟩).m b = (goes C k (l, m b)).2 ∧ (rounds C [some b] k ⟨l, m, n⟩).n ≤ n + k := by
  induction k with
  | zero => intro l m n _; exact ⟨rfl, rfl, by simp [rounds]⟩
  | succ k ih =>
    intro l m n hn
    rw [rounds]
    by_cases hd : (m b).done = true
    · have e : roundR C [some b] ⟨l, m, n⟩ = ⟨l, m, n⟩ := round_all_done C _ _ (fun x hx => by simp at hx; subst hx; exact hd)
      rw [e, goes_done C (k + 1) (l, m b) hd]
      have := ih l m n (by omega)
      rw [goes_done C k (l, m b) hd] at this
      exact ⟨this.1, this.2.1, by omega⟩
    · have hd' : (m b).done = false := by simpa using hd
      have e : roundR C [some b] ⟨l, m, n⟩ = ⟨(stepOf C l (m b)).1, upd m b (stepOf C l (m b)).2, n + 1⟩ := by
        simp [roundR, turn, hd', show n < 100000 by omega]
      rw [e]
      have := ih (stepOf C l (m b)).1 (upd m b (stepOf C l (m b)).2) (n + 1) (by omega)
      rw [show upd m b (stepOf C l (m b)).2 b = (stepOf C l (m b)).2 by simp [upd]] at this
      exact ⟨this.1, this.2.1, by omega⟩

section
variable (w : World) (d p q b : Nat) (C : Cfg) (l : List Int) (s : Int) (o : OpS)

end
end Go.Proofs.YtgbclfhgpkmcnaaGreatDoor

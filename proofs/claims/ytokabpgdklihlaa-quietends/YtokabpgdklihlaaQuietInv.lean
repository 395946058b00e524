/-
  The crew of QuietEnds without memory: all that holds at every step ('AllG'), from the start on ('AllG.start', 'AllG.step'). No Go is walked here.
-/
import Derived.Test.YtokabpgdklihlaaQuietFull
namespace Go.Proofs.Ytokabpgdklihlaa
set_option linter.unusedVariables false

structure AllG (n : Nat) (S : GS) : Prop where
  crew : Crew n S
  emp : Emp n S
  cnt : Cnt n S
  cap : Cap n S
  out : totF outF n S.l S.X = 0

theorem AllG.step {n : Nat} {S : GS} (h : AllG n S) {k : Nat} (hk : k < n) : AllG n (stepG (QE n) n S k) := by
  have hf := Cap.noFull h.crew h.cap hk
  exact ⟨h.crew.step hk hf, Emp.step h.crew h.emp hk hf, Cnt.step h.crew h.cnt hk hf, Cap.step h.crew h.emp h.out h.cap hk, (h.crew.inside hk hf h.out).1⟩

theorem rd_zero (C : Cfg) (i : Nat) : rd C (List.replicate 400 0) i = 0 := by
  unfold rd
  rw [List.getD_eq_getElem?_getD, List.getElem?_replicate]
  split <;> rfl
theorem view_zero (C : Cfg) : viewOf C (List.replicate 400 0) = ⟨0, 0, 0, 0, fun _ => 0, fun _ => 0⟩ := by
  unfold viewOf
  simp only [rd_zero]
  simp

theorem sumL_zero {f : Int → Int} : ∀ {l : List Int}, (∀ x, x ∈ l → f x = 0) → sumL f l = 0
  | [], _ => rfl
  | x :: xs, h => by
    show f x + sumL f xs = 0
    rw [h x (by simp), sumL_zero (fun y hy => h y (by simp [hy]))]
    rfl
theorem sumTo_zero {g : Nat → Int} : ∀ {n : Nat}, (∀ j, j < n → g j = 0) → sumTo g n = 0
  | 0, _ => rfl
  | n + 1, h => by
    show sumTo g n + g n = 0
    rw [sumTo_zero (fun j hj => h j (by omega)), h n (by omega)]
    rfl

theorem tot_start (f : Int → Int) (n : Nat) (H : Nat → List Int) : totF f n (startG H).l (startG H).X = sumTo (fun k => sumL f (H k)) n := by
  unfold totF
  have e1 : sumTo (fun k => hasW f ((startG H).X k)) n = sumTo (fun k => sumL f (H k)) n := sumTo_congr fun j hj => by
    show sumL f (H j) + 0 = sumL f (H j)
    omega
  have e2 : sumTo (hasD f n (startG H).l (startG H).X) n = 0 := sumTo_zero fun j hj => by
    unfold hasD
    rw [show (startG H).l = List.replicate 400 0 from rfl, view_zero]
    rw [show partOf (startG H).X j none = opDone from rfl]
    simp [worth, ringW, stackW, bot, opDone, sumTo]
  rw [e1, e2]
  omega

theorem AllG.start {n : Nat} (h1 : 1 ≤ n) (h4 : n ≤ 4) {H : Nat → List Int} (hl : ∀ k, (H k).length ≤ 8) (hv : ∀ k x, x ∈ H k → 0 ≤ x ∧ x ≤ 4) : AllG n (startG H) := by
  have hz : ∀ j, viewOf (cOf (QE n) j) (startG H).l = ⟨0, 0, 0, 0, fun _ => 0, fun _ => 0⟩ := fun j => view_zero _
  have hp : ∀ j a, partOf (startG H).X j a = opDone := fun j a => by cases a <;> rfl
  have hd : ∀ j a, (partOf (startG H).X j a).done = true := fun j a => by rw [hp]; rfl
  have hf : ∀ j a, (partOf (startG H).X j a).done = false → False := fun j a g => by rw [hd] at g; cases g
  refine ⟨⟨h1, h4, List.length_replicate, fun j hj => ?_, fun k hk => rfl⟩, fun k hk => trivial, ?_, fun k hk => ?_, ?_⟩
  · rw [hz]
    refine ⟨by rw [cOf_QE hj]; simp, .inl rfl, fun _ a => hn_done (hd j a), fun g => absurd g (by decide), fun a b g _ => ?_, fun g => (hf j _ g).elim, fun i g => (hf j _ g).elim, ?_, fun g => (hf j _ g).elim, ?_, fun i g => (hf j _ g).elim, fun i g => (hf j _ g).elim, ⟨Int.le_refl _, ?_⟩, fun a g => (hf j _ g).elim⟩
    · rw [hn_done (hd j a)] at g; cases g
    · unfold OwnI; rw [hd, if_pos rfl]; exact Int.le_refl _
    · rw [bot_done (hd j none)]; simp
    · simp
  · unfold Cnt
    rw [show sumTo (fun k => inC ((startG H).X k)) n = 0 from sumTo_zero (fun j hj => rfl)]
    show (List.replicate 400 (0 : Int)).getD 0 0 = 0
    rw [List.getD_eq_getElem?_getD, List.getElem?_replicate]
    rfl
  · unfold CapW
    rw [hz]
    exact ⟨rfl, hl k⟩
  · rw [tot_start]
    refine sumTo_zero fun j hj => sumL_zero fun x hx => ?_
    obtain ⟨a, b⟩ := hv j x hx
    unfold outF
    rw [if_neg (by omega), if_pos b]
end Go.Proofs.Ytokabpgdklihlaa

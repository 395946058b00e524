/-
  The crew of QuietEnds without memory: some steps one after the other ('runL'); a round of all others makes what they have left at a worker's lock less ('sumC_round'). No Go is walked here.
-/
import Derived.Test.YtokabpgdklihlaaQuietWait
namespace Go.Proofs.Ytokabpgdklihlaa
set_option linter.unusedVariables false

def runL (n : Nat) (S : GS) (L : List Nat) : GS := L.foldl (stepG (QE n) n) S
/-- No step of these is an event. -/
def NoEv (n : Nat) : GS → List Nat → Prop
  | _, [] => True
  | S, k :: L => ¬ EvW n S.l (S.X k) ∧ NoEv n (stepG (QE n) n S k) L

theorem AllG.push {n : Nat} {S : GS} (h : AllG n S) {k : Nat} (hk : k < n) : NoFull n S k := Cap.noFull h.crew h.cap hk
theorem AllG.run {n : Nat} : ∀ {L : List Nat} {S : GS}, AllG n S → (∀ k, k ∈ L → k < n) → AllG n (runL n S L)
  | [], _, h, _ => h
  | k :: L, S, h, hL => AllG.run (L := L) (h.step (hL k (by simp))) (fun j hj => hL j (by simp [hj]))

theorem run_other {n : Nat} : ∀ {L : List Nat} {S : GS} {i : Nat}, i ∉ L → (runL n S L).X i = S.X i
  | [], _, _, _ => rfl
  | k :: L, S, i, h => by
    show (runL n (stepG (QE n) n S k) L).X i = S.X i
    rw [run_other (L := L) (fun g => h (by simp [g])), move_other n S (fun e => h (by simp [e]))]

theorem c_run {n W m : Nat} (hn : 2 ≤ n) (hn4 : n ≤ 4) (hW : W < n) (hm : m ≤ 15) : ∀ {L : List Nat} {S : GS}, AllG n S → L.Nodup → (∀ k, k ∈ L → k < n ∧ k ≠ W) → NoEv n S L → ∀ i, i ∈ L →
    cW n W m ((runL n S L).X i) + (if hasL W (S.X i) then 1 else 0) ≤ cW n W (m + 1) (S.X i)
  | [], _, _, _, _, _, _, hi => by cases hi
  | k :: L, S, h, hnd, hL, hev, i, hi => by
    show cW n W m ((runL n (stepG (QE n) n S k) L).X i) + _ ≤ _
    obtain ⟨hk, hkW⟩ := hL k (by simp)
    obtain ⟨hnk, hnd'⟩ := List.nodup_cons.1 hnd
    rcases List.mem_cons.1 hi with rfl | hi'
    · rw [run_other hnk, move_eq]
      exact cW_move hn hn4 hk hW hkW (h.crew.shape i hk) hev.1 (fun a o ha => h.push hk a o ha) hm
    · have hik : i ≠ k := fun e => hnk (e ▸ hi')
      have := c_run hn hn4 hW hm (L := L) (h.step hk) hnd' (fun j hj => hL j (by simp [hj])) hev.2 i hi'
      rw [move_other n S hik] at this
      exact this

def sumN (g : Nat → Nat) : Nat → Nat
  | 0 => 0
  | n + 1 => sumN g n + g n
theorem sumN_le {g h : Nat → Nat} : ∀ {n : Nat}, (∀ j, j < n → g j ≤ h j) → sumN g n ≤ sumN h n
  | 0, _ => Nat.le_refl _
  | n + 1, e => Nat.add_le_add (sumN_le (fun j hj => e j (by omega))) (e n (by omega))
theorem sumN_lt {g h : Nat → Nat} : ∀ {n k : Nat}, k < n → (∀ j, j < n → g j ≤ h j) → g k + 1 ≤ h k → sumN g n + 1 ≤ sumN h n
  | 0, _, hk, _, _ => by omega
  | n + 1, k, hk, e, hs => by
    show sumN g n + g n + 1 ≤ sumN h n + h n
    by_cases hkn : k = n
    · subst hkn
      have := sumN_le (n := k) (fun j hj => e j (by omega))
      omega
    · have := sumN_lt (n := n) (k := k) (by omega) (fun j hj => e j (by omega)) hs
      have := e n (by omega)
      omega
/-- What all others have left at W's lock. -/
def sumC (n W m : Nat) (X : Nat → WkS) : Nat := sumN (fun i => if i = W then 0 else cW n W m (X i)) n

theorem cW_five (n W m : Nat) (x : WkS) : cW n W m x ≤ 5 := by
  unfold cW
  split
  · split
    · rename_i o _ _
      cases o.at_ <;> simp [sess]
    · split <;> omega
  · split <;> omega
theorem sumC_15 {n W m : Nat} (hn4 : n ≤ 4) (hW : W < n) (X : Nat → WkS) : sumC n W m X ≤ 15 := by
  obtain ⟨g, hg⟩ : ∃ g : Nat → Nat, g = fun i => if i = W then 0 else cW n W m (X i) := ⟨_, rfl⟩
  have h5 : ∀ i, g i ≤ 5 := fun i => by
    rw [hg]
    dsimp only
    split
    · omega
    · exact cW_five _ _ _ _
  have hz : g W = 0 := by rw [hg]; simp
  rw [show sumC n W m X = sumN g n by rw [hg]; rfl]
  clear hg
  have a := h5 0; have b := h5 1; have c := h5 2; have d := h5 3
  have hW4 : W = 0 ∨ W = 1 ∨ W = 2 ∨ W = 3 := by omega
  have hn : n = 1 ∨ n = 2 ∨ n = 3 ∨ n = 4 := by omega
  rcases hn with rfl | rfl | rfl | rfl <;> rcases hW4 with rfl | rfl | rfl | rfl <;> simp only [sumN] <;> omega

theorem sumC_round {n W m : Nat} (hn : 2 ≤ n) (hn4 : n ≤ 4) (hW : W < n) (hm : m ≤ 15) {L : List Nat} {S : GS} (h : AllG n S) (hnd : L.Nodup) (hL : ∀ k, k ∈ L ↔ k < n ∧ k ≠ W) (hev : NoEv n S L) (hh : ∃ i, i < n ∧ i ≠ W ∧ hasL W (S.X i) = true) :
    sumC n W m (runL n S L).X + 1 ≤ sumC n W (m + 1) S.X := by
  have hc := c_run hn hn4 hW hm h hnd (fun k hk => (hL k).1 hk) hev
  obtain ⟨i, hi, hiW, hl⟩ := hh
  unfold sumC
  refine sumN_lt hi (fun j hj => ?_) ?_
  · by_cases e : j = W
    · simp [e]
    · simp only [e, if_false]
      have := hc j ((hL j).2 ⟨hj, e⟩)
      omega
  · simp only [hiW, if_false]
    have := hc i ((hL i).2 ⟨hi, hiW⟩)
    rw [hl] at this
    simpa using this
end Go.Proofs.Ytokabpgdklihlaa

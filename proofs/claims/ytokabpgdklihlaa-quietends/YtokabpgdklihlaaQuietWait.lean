/-
  The crew of QuietEnds without memory: what a step of another worker does to its way to a lock ('cW_move'); how a round of the others makes the sum of these less ('sumC_round'). No Go is walked here.
-/
import Derived.Test.YtokabpgdklihlaaQuietEv
namespace Go.Proofs.Ytokabpgdklihlaa
set_option linter.unusedVariables false

theorem cW_far {n W m : Nat} {x : WkS} (h : m < farW n W x) (hs : ∀ i o, x.act = .op i o → sess o.at_ = 0 ∨ i ≠ W ∨ x.kind = 0) : cW n W m x = 0 := by
  unfold cW
  split
  · rename_i i o ha
    have := hs i o ha
    rw [if_neg (by omega), if_neg (by omega)]
  · rw [if_neg (by omega)]
theorem cW_le {n W m : Nat} {x : WkS} (hs : ∀ i o, x.act = .op i o → sess o.at_ = 0 ∨ i ≠ W ∨ x.kind = 0) : cW n W m x = if farW n W x ≤ m then 5 else 0 := by
  unfold cW
  split
  · rename_i i o ha
    have := hs i o ha
    rw [if_neg (by omega)]
  · rfl

/-- A fresh operation has no lock. -/
theorem next_fresh {n k W : Nat} (x : WkS) (af : Int) : ∀ i o, (nextS n k x af).act = .op i o → sess o.at_ = 0 ∨ i ≠ W ∨ (nextS n k x af).kind = 0 := by
  intro i o h
  left
  unfold nextS at h
  split at h
  · cases h; rfl
  · split at h
    · cases h; rfl
    · split at h
      · cases h; rfl
      · cases h
theorem far_push {n k W : Nat} {x : WkS} {af : Int} {y : Int} {ys : List Int} (hh : x.hands = y :: ys) : farW n W (nextS n k x af) = 100 := by
  unfold nextS
  rw [hh]
  simp only [farW]
  split <;> simp

/-- Steps to the lock from the beginning of a theft at deque i (i = n: of an offer). -/
def startF (n W i : Nat) : Nat := if i < W then 5 + (5 * (W - i - 1) + 2) else if i = W then 2 else if i < n then 5 + 5 * (n - 1 - i) + 5 + popP W else 5 + popP W
theorem far_start {n k W i : Nat} {x : WkS} (he : x.ended = false) (hn : 1 ≤ n) (hW : W < n) (hi : i ≤ n) (hh : x.hands = []) : farW n W (nextS n k x ((i : Int) + 1)) = startF n W i := by
  rw [far_next he hn (by omega) hh, if_neg (by omega)]
  unfold startF
  rw [show ((i : Int) + 1 - 1).toNat = i by omega]
  by_cases h1 : i < n
  · rw [if_pos (by omega)]
    by_cases h2 : i < W
    · rw [if_pos (by omega), if_pos h2]
    · rw [if_neg (by omega), if_neg h2]
      by_cases h3 : i = W
      · rw [if_pos (by omega), if_pos h3]
      · rw [if_neg (by omega), if_neg h3, if_pos h1]
  · rw [if_neg (by omega), if_neg (by omega), if_neg (by omega), if_neg h1]
theorem far_steal {n W i : Nat} {x : WkS} {o : OpS} (ha : x.act = .op i o) (he : x.ended = false) (hk : x.kind = (i : Int) + 2) : farW n W x = if i < W then remT o.at_ + (5 * (W - i - 1) + 2) else if i = W then remL o.at_ else remT o.at_ + 5 * (n - 1 - i) + 5 + popP W := by
  unfold farW
  rw [ha, he]
  simp only [Bool.false_eq_true, if_false]
  rw [if_neg (by omega), if_neg (by omega)]
theorem far_pop {n W i : Nat} {x : WkS} {o : OpS} (ha : x.act = .op i o) (he : x.ended = false) (hk : x.kind = 1) : farW n W x = remT o.at_ + (5 * W + 2) := by
  unfold farW
  rw [ha, he, hk]
  simp

theorem cW_move {n k W m : Nat} {l : List Int} {x : WkS} (hn : 2 ≤ n) (hn4 : n ≤ 4) (hk : k < n) (hW : W < n) (hkW : k ≠ W) (hs : ShapeW n k x) (hne : ¬ EvW n l x)
    (hf : ∀ i o, x.act = .op i o → x.kind = 0 → (stepOf (cOf (QE n) i) l o).2.done = true → (stepOf (cOf (QE n) i) l o).2.errno = 0) (hm : m ≤ 15) :
    cW n W m (moveW n k l x) + (if hasL W x then 1 else 0) ≤ cW n W (m + 1) x := by
  have key : ∀ x' : WkS, (∀ i o, x'.act = .op i o → sess o.at_ = 0 ∨ i ≠ W ∨ x'.kind = 0) → (∀ i o, x.act = .op i o → sess o.at_ = 0 ∨ i ≠ W ∨ x.kind = 0) → farW n W x ≤ farW n W x' + 1 → hasL W x = false → cW n W m x' + (if hasL W x then 1 else 0) ≤ cW n W (m + 1) x := by
    intro x' h1 h2 h3 h4
    rw [cW_le h1, cW_le h2, h4]
    simp only [Bool.false_eq_true, if_false, Nat.add_zero]
    by_cases g : farW n W x' ≤ m
    · rw [if_pos g, if_pos (by omega)]
      exact Nat.le_refl _
    · rw [if_neg g]
      exact Nat.zero_le _
  unfold moveW stepG
  simp only
  by_cases he : x.ended = true
  · rw [if_pos he]
    unfold ShapeW at hs
    simp only
    cases ha : x.act with
    | none => rw [ha] at hs; simp only at hs; rw [he] at hs; cases hs
    | op i o => rw [ha] at hs; simp only at hs; rw [he] at hs; cases hs.1
    | offer o =>
      exact key x (fun i o g => by rw [ha] at g; cases g) (fun i o g => by rw [ha] at g; cases g) (by omega) (by simp [hasL, ha])
  rw [if_neg he]
  have he' : x.ended = false := by simpa using he
  unfold ShapeW at hs
  cases ha : x.act with
  | none =>
    simp only
    rw [updX_at]
    refine key _ (next_fresh x 0) (fun i o g => by rw [ha] at g; cases g) ?_ (by simp [hasL, ha])
    have hx : farW n W x = popP W + 1 := by unfold farW; rw [ha, he']; simp
    cases hh : x.hands with
    | cons y ys =>
      rw [far_push hh, hx]
      unfold popP
      omega
    | nil => rw [far_next he' (by omega) (by omega) hh, hx]; simp
  | offer o =>
    rw [ha] at hs
    simp only at hs ⊢
    rw [updX_at]
    obtain ⟨hh, hs⟩ := hs
    have h0 : o.state = 0 := by
      rcases hs with g | g
      · exact g.1
      · rw [he'] at g; cases g.2
    have hx : farW n W x = offD o.at_ + popP W := by unfold farW; rw [ha, he']; simp
    have hx5 : offD o.at_ ≤ 5 := by cases o.at_ <;> decide
    by_cases e2 : (stepQ (QE n) l o).2.state = 2
    · rw [if_pos e2]
      refine key _ (fun i o g => by cases g) (fun i o g => by rw [ha] at g; cases g) ?_ (by simp [hasL, ha])
      rw [hx]
      simp only [farW, if_true]
      unfold popP
      omega
    · rw [if_neg e2]
      by_cases e1 : (stepQ (QE n) l o).2.state = 1
      · rw [if_pos e1]
        refine key _ (next_fresh _ 0) (fun i o g => by rw [ha] at g; cases g) ?_ (by simp [hasL, ha])
        rw [far_next (by exact he') (by omega) (by omega) (by exact hh), hx, off_one h0 e1]
        simp [offD]
        omega
      · rw [if_neg e1]
        refine key _ (fun i o g => by cases g) (fun i o g => by rw [ha] at g; cases g) ?_ (by simp [hasL, ha])
        have := off_step h0 e1 e2
        rw [hx]
        simp only [farW, he', Bool.false_eq_true, if_false]
        omega
  | op i o =>
    rw [ha] at hs
    simp only at hs ⊢
    obtain ⟨_, hd, hi, hc, hki, hei, hway⟩ := hs
    have hf' := hf i o ha
    have hev : ¬ ((stepOf (cOf (QE n) i) l o).2.done = true ∧ (stepOf (cOf (QE n) i) l o).2.errno = 0) := fun g => hne ⟨he', i, o, ha, g.1, g.2⟩
    by_cases k0 : x.kind = 0
    · have hx0 : hasL W x = false := by simp [hasL, ha, k0]
      have hnd : ¬ (stepOf (cOf (QE n) i) l o).2.done = true := fun g => hev ⟨g, hf' k0 g⟩
      rw [if_neg hnd]
      simp only
      rw [updX_at]
      refine key _ (fun i2 o2 g => .inr (.inr k0)) (fun i2 o2 g => .inr (.inr k0)) ?_ hx0
      simp only [farW, he', ha, k0, Bool.false_eq_true, if_false, if_true]
      omega
    have hn0 : ((x.kind == 0) : Bool) = false := by simp [k0]
    rw [hn0] at hki hei
    have ht : takeAt o.at_ = true := by have := (hki hd).1; simpa using this
    have her : o.at_ = .free → o.errno = 0 ∨ o.errno = 15 := fun g => by have := hei.2 hd g; simpa using this
    have hh : x.hands = [] := by
      rcases hway with ⟨g1, _⟩ | ⟨_, _, g3⟩ | ⟨_, g3⟩
      · exact absurd g1 k0
      · exact g3
      · exact g3
    by_cases hdn : (stepOf (cOf (QE n) i) l o).2.done = true
    · rw [if_pos hdn]
      simp only
      rw [updX_at]
      have he0 : (stepOf (cOf (QE n) i) l o).2.errno ≠ 0 := fun g => hev ⟨hdn, g⟩
      have hfail := step_fails hd ht her hdn he0
      have hv : valOf (stepOf (cOf (QE n) i) l o).2 = (0, (stepOf (cOf (QE n) i) l o).2.errno) := by simp [valOf, hdn, he0]
      rw [hv]
      unfold overS
      simp only [k0, if_false, he0]
      rcases hfail with ⟨f1, f2⟩ | ⟨f1, f2⟩
      · rw [if_pos f2]
        refine key _ (next_fresh _ _) (fun i2 o2 g => by rw [ha] at g; cases g; rw [f1]; exact .inl rfl) ?_ (by simp [hasL, ha, f1, sess])
        rcases hway with g | g | g
        · exact absurd g.1 k0
        · rw [far_pop ha he' g.1, f1, g.1, far_next (by exact he') (by omega) (by omega) (by exact hh), if_pos (by omega)]
          simp only [remT, popP]
          omega
        · rw [far_steal ha he' g.1, f1, g.1, show ((i : Int) + 2 - 1) = (i : Int) + 1 by omega, far_start (by exact he') (by omega) hW (by omega) (by exact hh)]
          unfold startF
          simp only [remT, remL]
          split
          · omega
          · split
            · omega
            · omega
      · rw [if_neg (by omega)]
        by_cases hiW : i = W
        · -- the session at the lock ends
          subst hiW
          have hkd : x.kind = (i : Int) + 2 := by
            rcases hway with g | g | g
            · exact absurd g.1 k0
            · exact absurd g.2.1.symm hkW
            · exact g.1
          have hc1 : cW n i (m + 1) x = 1 := by
            unfold cW
            rw [ha]
            simp only
            rw [if_pos ⟨trivial, k0, by rw [f1]; decide, he'⟩, f1]
            rfl
          have hfr : cW n i m (nextS n k { x with act := .op i (stepOf (cOf (QE n) i) l o).2 } x.kind) = 0 := by
            refine cW_far ?_ (next_fresh _ _)
            rw [hkd, show ((i : Int) + 2) = ((i + 1 : Nat) : Int) + 1 by omega, far_start (by exact he') (by omega) hW (by omega) (by exact hh)]
            unfold startF popP
            rw [if_neg (by omega), if_neg (by omega)]
            split <;> omega
          rw [hfr, hc1]
          split <;> omega
        · refine key _ (next_fresh _ _) (fun i2 o2 g => by rw [ha] at g; cases g; exact .inr (.inl hiW)) ?_ (by simp [hasL, ha, hiW])
          rcases hway with g | g | g
          · exact absurd g.1 k0
          · rw [far_pop ha he' g.1, f1, g.1, show (1 : Int) = ((0 : Nat) : Int) + 1 by omega, far_start (by exact he') (by omega) hW (by omega) (by exact hh)]
            unfold startF
            simp only [remT]
            split
            · omega
            · rw [if_pos (by omega)]; omega
          · rw [far_steal ha he' g.1, f1, g.1, show ((i : Int) + 2) = ((i + 1 : Nat) : Int) + 1 by omega, far_start (by exact he') (by omega) hW (by omega) (by exact hh)]
            unfold startF
            simp only [remT]
            split
            · split
              · omega
              · rw [if_pos (by omega)]; omega
            · rw [if_neg (by omega), if_neg (by omega)]
              split <;> omega
    · rw [if_neg hdn]
      simp only
      rw [updX_at]
      have hdn' : (stepOf (cOf (QE n) i) l o).2.done = false := by simpa using hdn
      obtain ⟨r1, r2, r3, r4⟩ := step_rem hd ht hdn'
      generalize (stepOf (cOf (QE n) i) l o).2 = o' at *
      by_cases hiW : i = W ∧ 0 < sess o.at_
      · -- within a session
        obtain ⟨rfl, hse⟩ := hiW
        obtain ⟨q1, q2⟩ := r4 hse
        have hc1 : cW n i (m + 1) x = sess o.at_ := by
          unfold cW
          rw [ha]
          simp only
          rw [if_pos ⟨trivial, k0, hse, he'⟩]
        have hc2 : cW n i m { x with act := .op i o' } = sess o'.at_ := by
          unfold cW
          simp only
          rw [if_pos ⟨trivial, k0, q1, he'⟩]
        rw [hc1, hc2]
        split <;> omega
      · have hL : hasL W x = false := by
          simp only [hasL, ha]
          by_cases e : i = W
          · have : ¬ 0 < sess o.at_ := fun g => hiW ⟨e, g⟩
            simp [this]
          · simp [e]
        by_cases hse' : i = W ∧ 0 < sess o'.at_
        · -- it gets the lock
          obtain ⟨rfl, hse'⟩ := hse'
          have hs0 : sess o.at_ = 0 := by
            have : ¬ 0 < sess o.at_ := fun g => hiW ⟨rfl, g⟩
            omega
          have htl := r3 hs0 hse'
          have hc1 : cW n i (m + 1) x = 5 := by
            unfold cW
            rw [ha]
            simp only
            rw [if_neg (by omega), if_pos]
            unfold farW
            rw [ha, he']
            simp only [Bool.false_eq_true, if_false, k0]
            have e1 : ¬ x.kind = 1 := by
              rcases hway with g | g | g
              · omega
              · exact absurd g.2.1.symm hkW
              · omega
            rw [if_neg e1, if_neg (by omega), htl]
            simp [remL]
          have hc2 : cW n i m { x with act := .op i o' } ≤ 5 := by
            unfold cW
            simp only
            split
            · cases o'.at_ <;> simp [sess]
            · split <;> omega
          rw [hc1, hL]
          simp
          exact hc2
        · have f1 : sess o'.at_ = 0 ∨ i ≠ W := by
            by_cases e : i = W
            · have : ¬ 0 < sess o'.at_ := fun g => hse' ⟨e, g⟩
              left; omega
            · exact .inr e
          have f2 : sess o.at_ = 0 ∨ i ≠ W := by
            by_cases e : i = W
            · have : ¬ 0 < sess o.at_ := fun g => hiW ⟨e, g⟩
              left; omega
            · exact .inr e
          refine key _ (fun i2 o2 g => by cases g; rcases f1 with e | e; exact .inl e; exact .inr (.inl e)) (fun i2 o2 g => by rw [ha] at g; cases g; rcases f2 with e | e; exact .inl e; exact .inr (.inl e)) ?_ hL
          unfold farW
          simp only [ha, he', Bool.false_eq_true, if_false, k0]
          by_cases e1 : x.kind = 1
          · simp only [e1, if_true]; omega
          · simp only [e1, if_false]
            by_cases e2 : i < W
            · simp only [e2, if_true]; omega
            · simp only [e2, if_false]
              by_cases e3 : i = W
              · simp only [e3, if_true]
                have : ¬ 0 < sess o'.at_ := fun g => hse' ⟨e3, g⟩
                have := r2 (by omega)
                omega
              · simp only [e3, if_false]; omega
end Go.Proofs.Ytokabpgdklihlaa

/-
  Texts of the proof, several in one: AdjMarks.
-/
import Derived.Test.YtgbclfhgpkmcnaaGreatDoorPack24
import Derived.Test.YtgbclfhgpkmcnaaGreatDoorPack14
import Derived.Test.YtgbclfhgpkmcnaaGreatDoorPack30
/-
  The marks of blocks that lie one behind the other: each is marked, as it is. No Go is walked here.
-/
namespace Go.Proofs.YtgbclfhgpkmcnaaGreatDoor
open Go.RowKit Bt
set_option linter.unusedVariables false

noncomputable def mkL (n : Nat) (V : List Blk) : Nat → Nat → Nat
  | 0 => fun _ => 0
  | m + 1 => match V[m]? with
    | some b => (markT n (mkL n V m) b.t b.s).2.2
    | none => mkL n V m
theorem mkL_next {n : Nat} {V : List Blk} {m : Nat} {b : Blk} (h : V[m]? = some b) : mkL n V (m + 1) = (markT n (mkL n V m) b.t b.s).2.2 := by
  show (match V[m]? with | some b => _ | none => _) = _
  rw [h]
theorem mkL_bl (n : Nat) (V : List Blk) (m : Nat) : Bl n (mkL n V m) := by
  induction m with
  | zero => exact Bl.none n
  | succ m ih =>
    cases h : V[m]? with
    | none =>
      have : mkL n V (m + 1) = mkL n V m := by show (match V[m]? with | some b => _ | none => _) = _; rw [h]
      rw [this]; exact ih
    | some b => rw [mkL_next h]; exact markT_bl ih _ _
/-- Blocks one behind the other, in so many words. -/
structure Rowed (n : Nat) (V : List Blk) : Prop where
  each : ∀ (i : Nat) b, V[i]? = some b → 1 ≤ b.t ∧ 1 ≤ b.s ∧ b.t + b.s ≤ n
  rise : ∀ (i j : Nat) (a b : Blk), i < j → V[i]? = some a → V[j]? = some b → a.t + a.s ≤ b.t
/-- Which blocks are marked. -/
structure Marked (S : Nat → Nat) (V : List Blk) (m : Nat) : Prop where
  on : ∀ (k : Nat) b, k < m → V[k]? = some b → S b.t.toNat = b.s.toNat
  off : ∀ i, 0 < S i → ∃ (k : Nat) (b : Blk), k < m ∧ V[k]? = some b ∧ b.t = (i : Int) ∧ b.s = (S i : Nat)
theorem mkL_marked {n : Nat} {V : List Blk} (h : Rowed n V) : ∀ m, m ≤ V.length → Marked (mkL n V m) V m := by
  intro m
  induction m with
  | zero => intro _; exact ⟨fun k b hk => absurd hk (Nat.not_lt_zero k), fun i hi => absurd hi (Nat.lt_irrefl 0)⟩
  | succ m ih =>
    intro hm
    have ih := ih (by omega)
    obtain ⟨b, hb⟩ : ∃ b, V[m]? = some b := ⟨_, List.getElem?_eq_getElem (by omega)⟩
    obtain ⟨b1, b2, b3⟩ := h.each m b hb
    obtain ⟨t, ht⟩ : ∃ t : Nat, b.t = (t : Int) := ⟨b.t.toNat, by omega⟩
    obtain ⟨z, hz⟩ : ∃ z : Nat, b.s = (z : Int) := ⟨b.s.toNat, by omega⟩
    have hno : ¬ 0 < mkL n V m t := fun h0 => by
      obtain ⟨k, a, k1, k2, k3, k4⟩ := ih.off t h0
      have := h.rise k m a b k1 k2 hb
      have := (h.each k a k2).2.1
      omega
    have hfree : Free (mkL n V m) t z := fun k k1 k2 => by
      unfold live
      rw [bo_false]
      rintro ⟨a, c1, c2⟩
      obtain ⟨k', a', g1, g2, g3, g4⟩ := ih.off a (by omega)
      have := h.rise k' m a' b g1 g2 hb
      omega
    have hS : mkL n V (m + 1) = Bt.upd (mkL n V m) t z := by
      rw [mkL_next hb]
      unfold markT
      rw [if_neg (by omega), if_neg (by omega), ht, hz, Int.toNat_natCast, Int.toNat_natCast, if_neg hno, if_pos hfree]
    rw [hS]
    refine ⟨fun k a hk ha => ?_, fun i hi => ?_⟩
    · by_cases e : k = m
      · subst e
        rw [hb] at ha
        cases ha
        rw [ht, hz, Int.toNat_natCast, Int.toNat_natCast, upd_at]
      · have h1 := h.rise k m a b (by omega) ha hb
        have h2 := h.each k a ha
        rw [upd_ne _ (by omega)]
        exact ih.on k a (by omega) ha
    · by_cases e : i = t
      · subst e
        rw [upd_at]
        exact ⟨m, b, by omega, hb, ht, hz⟩
      · rw [upd_ne _ e] at hi ⊢
        obtain ⟨k, a, k1, k2⟩ := ih.off i hi
        exact ⟨k, a, by omega, k2⟩
/-- The blocks of what is reached lie one behind the other. -/
theorem conn_rise : ∀ (bs : List Blk) (t top : Int), conn t bs top → (∀ b, b ∈ bs → 1 ≤ b.s) → bs.Pairwise (fun a b => a.t + a.s ≤ b.t) ∧ ∀ b, b ∈ bs → t ≤ b.t ∧ b.t + b.s ≤ top
  | [], t, top, h, _ => ⟨List.Pairwise.nil, by simp⟩
  | b :: bs, t, top, ⟨h1, h2, h3⟩, hs => by
    obtain ⟨p1, p2⟩ := conn_rise bs _ top h3 (fun c hc => hs c (by simp [hc]))
    have hb := hs b (by simp)
    have h4 := (conn_le _ _ _ h3).1
    refine ⟨List.Pairwise.cons (fun c hc => by have := (p2 c hc).1; omega) p1, fun c hc => ?_⟩
    rcases List.mem_cons.1 hc with rfl | hc
    · omega
    · have := p2 c hc; omega
theorem live_rowed {N : Nat} {L : List Int} {top : Int} {bs : List Blk} (h : Hd N L top bs) (R : List Int) : Rowed N (liveBs bs R) := by
  have hs : ∀ b, b ∈ bs → 1 ≤ b.s := fun b hb => by
    have := (readOf_some (h.chain.read b hb).1)
    omega
  obtain ⟨p1, p2⟩ := conn_rise bs 1 top h.chain.chain hs
  have hlow := h.chain.low
  have hp : (liveBs bs R).Pairwise (fun a b => a.t + a.s ≤ b.t) := p1.filter _
  refine ⟨fun i b hb => ?_, fun i j a b hij ha hb => ?_⟩
  · have hm := (List.mem_filter.1 (List.mem_of_getElem? hb)).1
    have := p2 b hm
    have := hs b hm
    omega
  · obtain ⟨hi, e1⟩ := List.getElem?_eq_some_iff.1 ha
    obtain ⟨hj, e2⟩ := List.getElem?_eq_some_iff.1 hb
    have := List.pairwise_iff_getElem.1 hp i j hi hj hij
    rw [e1, e2] at this
    exact this
end Go.Proofs.YtgbclfhgpkmcnaaGreatDoor

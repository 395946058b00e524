/-
  The theorem of the end, without memory ('ends_p : EndsP'). No Go is walked here.
-/
import Derived.Test.YtokabpgdklihlaaQuietFin
namespace Go.Proofs.Ytokabpgdklihlaa
set_option linter.unusedVariables false

theorem sumL_snoc (f : Int → Int) (x : Int) : ∀ l : List Int, sumL f (l ++ [x]) = sumL f l + f x
  | [] => by simp [sumL]
  | y :: l => by
    show f y + sumL f (l ++ [x]) = f y + sumL f l + f x
    rw [sumL_snoc f x l]
    omega
def wantF (f : Int → Int) (vs : Nat → Nat) : Nat → Int
  | 0 => 0
  | m + 1 => wantF f vs m + f (vs m : Int)
theorem hands_sum (f : Int → Int) {n : Nat} (hn : 1 ≤ n) (vs : Nat → Nat) : ∀ a, sumTo (fun k => sumL f (handsG n vs a k)) n = wantF f vs a
  | 0 => sumTo_zero (fun j hj => rfl)
  | a + 1 => by
    have hk : a % n < n := Nat.mod_lt _ (by omega)
    rw [sumTo_upd (g := fun k => sumL f (handsG n vs a k)) hk (fun j hj hjk => by simp only [handsG, dealG, hjk, if_false]), hands_sum f hn vs a]
    simp only [handsG, dealG, if_true, wantF]
    rw [sumL_snoc]
    omega
theorem hands_len {n : Nat} (vs : Nat → Nat) (k : Nat) : ∀ a, (handsG n vs a k).length ≤ a
  | 0 => Nat.le_refl _
  | a + 1 => by
    have := hands_len (n := n) vs k a
    simp only [handsG, dealG]
    split
    · simp; exact this
    · omega
theorem hands_in {n : Nat} {vs : Nat → Nat} (hv : ∀ i, vs i ≤ 4) (k : Nat) : ∀ a x, x ∈ handsG n vs a k → 0 ≤ x ∧ x ≤ 4
  | 0, x, h => by cases h
  | a + 1, x, h => by
    simp only [handsG, dealG] at h
    split at h
    · rcases List.mem_append.1 h with g | g
      · exact hands_in hv k a x g
      · simp at g
        subst g
        have := hv a
        omega
    · exact hands_in hv k a x h
theorem wantF_le {f : Int → Int} {c : Int} {vs : Nat → Nat} (h : ∀ i, f (vs i : Int) ≤ c) : ∀ a : Nat, wantF f vs a ≤ c * a
  | 0 => by simp [wantF]
  | a + 1 => by
    have h1 := wantF_le h a
    have h2 := h a
    show wantF f vs a + f (vs a : Int) ≤ c * ((a + 1 : Nat) : Int)
    rw [show ((a + 1 : Nat) : Int) = (a : Int) + 1 by omega, Int.mul_add]
    omega
theorem f1_nat (v : Nat) : f1 (v : Int) = 2 ^ (v + 1) - 1 := by
  unfold f1
  rw [if_pos (by omega)]
  simp
theorem wantG_F (vs : Nat → Nat) : ∀ a, wantG vs a = wantF f1 vs a
  | 0 => rfl
  | a + 1 => by simp only [wantG, wantF]; rw [wantG_F vs a, f1_nat]
theorem f1_31 {v : Nat} (h : v ≤ 4) : f1 (v : Int) ≤ 31 := by
  rw [f1_nat]
  have : v = 0 ∨ v = 1 ∨ v = 2 ∨ v = 3 ∨ v = 4 := by omega
  rcases this with rfl | rfl | rfl | rfl | rfl <;> decide
theorem sumL_len : ∀ l : List Int, sumL oneF l = (l.length : Int)
  | [] => rfl
  | x :: l => by
    show oneF x + sumL oneF l = _
    rw [sumL_len l]
    simp [oneF]
    omega

/-- What is worked off, and what is to come. -/
def InvP (n : Nat) (S : GS) (M want : Int) : Prop := AllG n S ∧ Idle n S ∧ Bnd n M S ∧ 0 ≤ S.dn ∧ S.dn + totF f1 n S.l S.X = want ∧ evE n S ≤ 496
theorem InvP.step {n : Nat} {S : GS} {M want : Int} (h : InvP n S M want) {k : Nat} (hk : k < n) : InvP n (stepG (QE n) n S k) (M + 1) want := by
  obtain ⟨h1, h2, h3, h4, h5, h6⟩ := h
  obtain ⟨w, q1, q2, _⟩ := h1.crew.sum hk (h1.push hk)
  have hf := q2 f1
  refine ⟨h1.step hk, h2.step hk, Bnd.step h1.crew h3 hk (h1.push hk), ?_, ?_, ?_⟩
  · rw [q1]
    cases w <;> simp [one01] <;> omega
  · rw [q1, hf]
    cases w with
    | none => simp only [one01, gain]; omega
    | some v => rw [gain_f1]; simp only [one01]; omega
  · obtain ⟨e1, e2⟩ := evE_step h1.crew hk (h1.push hk)
    by_cases g : EvW n S.l (S.X k)
    · rw [e1 g]; omega
    · rw [e2 g]; exact h6
theorem InvP.may {n : Nat} {S : GS} {M want : Int} (h : InvP n S M want) (hM : M ≤ 900000) (hw : want ≤ 100000) {k : Nat} (hk : k < n) : MayG (QE n) n S k := by
  obtain ⟨h1, h2, h3, h4, h5, h6⟩ := h
  have := h1.crew.tot_nn (f := f1) (fun x => by have := f1_nn x; omega)
  exact may_all h1 h3 hM ⟨h4, by omega⟩ hk

theorem start_inv {n a : Nat} {vs : Nat → Nat} (hn : 1 ≤ n) (hn4 : n ≤ 4) (ha : a ≤ 8) (hv : ∀ i, vs i ≤ 4) : InvP n (startG (handsG n vs a)) 0 (wantG vs a) := by
  have hl : ∀ k, (handsG n vs a k).length ≤ 8 := fun k => by have := hands_len (n := n) vs k a; omega
  refine ⟨AllG.start hn hn4 hl (fun k x hx => hands_in hv k a x hx), fun i hi => rfl, ⟨by omega, fun j hj => ?_, fun k hk i o g => by cases g⟩, by show (0 : Int) ≤ 0; omega, ?_, ?_⟩
  · show (-0 ≤ rd (cOf (QE n) j) (List.replicate 400 0) 0 ∧ _) ∧ _
    have h0 := rd_zero (cOf (QE n) j) 0
    have h1 := rd_zero (cOf (QE n) j) 1
    show (-0 ≤ rd (cOf (QE n) j) (List.replicate 400 0) 0 ∧ rd (cOf (QE n) j) (List.replicate 400 0) 0 ≤ 0) ∧ (-0 ≤ rd (cOf (QE n) j) (List.replicate 400 0) 1 ∧ rd (cOf (QE n) j) (List.replicate 400 0) 1 ≤ 0)
    omega
  · rw [tot_start, hands_sum f1 hn, wantG_F]
    show (0 : Int) + _ = _
    omega
  · unfold evE
    rw [tot_start, hands_sum gW hn]
    have hlen : lenH n (startG (handsG n vs a)).X = wantF oneF vs a := by
      rw [← hands_sum oneF hn vs a]
      unfold lenH
      exact sumTo_congr (fun k hk => (sumL_len _).symm)
    rw [hlen]
    have h1 := wantF_le (f := gW) (c := 61) (vs := vs) (fun i => by have := f1_31 (hv i); unfold gW; omega) a
    have h2 := wantF_le (f := oneF) (c := 1) (vs := vs) (fun i => Int.le_refl _) a
    omega

theorem ends_p : EndsP := by
  intro n a m vs pk hn hn4 ha hv hm hpk
  have hw : wantG vs a ≤ 100000 := by
    rw [wantG_F]
    have := wantF_le (f := f1) (c := 31) (vs := vs) (fun i => f1_31 (hv i)) a
    omega
  have hp : ∀ j : Nat, InvP n (pickG n pk (startG (handsG n vs a)) j) (j : Int) (wantG vs a) := fun j => by
    induction j with
    | zero => exact start_inv hn hn4 ha hv
    | succ j ih =>
      have := ih.step (hpk j)
      rw [show ((j + 1 : Nat) : Int) = (j : Int) + 1 by omega]
      exact this
  obtain ⟨T, hTd⟩ : ∃ T : Nat → GS, T = turnG n (pickG n pk (startG (handsG n vs a)) m) := ⟨_, rfl⟩
  have hT : ByTurns n T := fun t => by rw [hTd]; rfl
  have hT0 : T 0 = pickG n pk (startG (handsG n vs a)) m := by rw [hTd]; rfl
  have hq : ∀ j : Nat, InvP n (T j) ((m : Int) + j) (wantG vs a) := fun j => by
    induction j with
    | zero => rw [hT0]; simpa using hp m
    | succ j ih =>
      have := ih.step (k := j % n) (Nat.mod_lt _ (by omega))
      rw [hT, show ((m : Int) + ((j + 1 : Nat) : Int)) = (m : Int) + j + 1 by omega]
      exact this
  rw [← hTd]
  -- all events, all ends
  have h0 := hq 0
  have hnn := evE_nn h0.1
  obtain ⟨t, _, ht, hz⟩ := ev_over hT hn hn4 (evE n (T 0)).toNat 0 h0.1 h0.2.1 (by omega)
  have ht2 : t ≤ 55552 := by
    have h1 := h0.2.2.2.2.2
    have : 28 * n * (evE n (T 0)).toNat ≤ 28 * 4 * 496 := Nat.mul_le_mul (by omega) (by omega)
    omega
  have hC : Calm n T t := ⟨hT, hn, hn4, (hq t).1, (hq t).2.1, hz⟩
  have hend : ∀ k, k < n → ((T 60000).X k).ended = true := fun k hk => hC.ends 60000 (by omega) k hk
  have hA := (hq 60000).1
  have hcnt : cnt (QE n) (T 60000).l = n := by
    have hCn := hA.cnt
    unfold Cnt at hCn
    rw [hCn, sumTo_congr (h := fun _ => (1 : Int)) (fun k hk => ?_), sumTo_const _ 1 n (fun _ => rfl)]
    · omega
    · have hs := hA.crew.shape k hk
      have g := hend k hk
      unfold ShapeW at hs
      unfold inC
      cases hx : ((T 60000).X k).act with
      | none => rw [hx] at hs; simp only at hs; rw [g] at hs; cases hs
      | op i o => rw [hx] at hs; simp only at hs; rw [g] at hs; cases hs.1
      | offer o =>
        rw [hx] at hs
        simp only at hs ⊢
        rcases hs.2 with q | q
        · rw [g] at q; cases q.2.1
        · rw [if_neg (by omega)]
  have hnone := hA.crew.none hA.emp hA.cnt hcnt
  refine ⟨fun j hj => (hp j).may (by omega) hw (hpk j), fun j hj => (hq j).may (by omega) hw (Nat.mod_lt _ (by omega)), hend, ?_, fun i hi => ?_⟩
  · have h5 := (hq 60000).2.2.2.2.1
    have ht0 : totF f1 n (T 60000).l (T 60000).X = 0 := by
      unfold totF
      rw [sumTo_zero (fun k hk => ?_), sumTo_zero (fun k hk => ?_)]
      · rfl
      · obtain ⟨q1, q2, o, q3⟩ := hnone k hk
        refine hasD_zero ?_ f1
        rw [empty_hasD q2 (by simp [ownOp, q3, opDone])]
        exact Int.le_refl _
      · obtain ⟨q1, q2, o, q3⟩ := hnone k hk
        unfold hasW wayW
        rw [q1, q3]
        rfl
    omega
  · obtain ⟨q1, q2, _⟩ := hnone i hi
    have hB := (hq 60000).2.2.1.tb i hi
    refine ⟨q1, items_none q2, ?_⟩
    omega
end Go.Proofs.Ytokabpgdklihlaa

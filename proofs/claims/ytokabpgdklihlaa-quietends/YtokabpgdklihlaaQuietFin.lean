/-
  The crew of QuietEnds without memory, by turns: all end ('all_end'). No Go is walked here.
-/
import Derived.Test.YtokabpgdklihlaaQuietOff
namespace Go.Proofs.Ytokabpgdklihlaa
set_option linter.unusedVariables false

theorem off_of_go {n k : Nat} {τ : Nat → Int} {x : WkS} (hs : ShapeW n k x) (hg : goW n τ x = 0) : x.ended = true ∨ ∃ o, x.ended = false ∧ x.act = .offer o ∧ o.state = 0 ∧ o.at_ ≠ .countOut ∧ QOk (QE n) o := by
  by_cases he : x.ended = true
  · exact .inl he
  · right
    have he' : x.ended = false := by simpa using he
    unfold goW at hg
    rw [if_neg he] at hg
    unfold ShapeW at hs
    cases ha : x.act with
    | none => rw [ha] at hg; simp at hg
    | op i o =>
      rw [ha] at hg
      simp only at hg
      have hpos : ∀ s, 1 ≤ posO s := fun s => by cases s <;> simp [posO]
      have hbas : ∀ s, 1 ≤ baseS s := fun s => by cases s <;> simp [baseS]
      have q1 := hpos o.at_
      have q2 := hbas o.at_
      split at hg <;> omega
    | offer o =>
      rw [ha] at hg hs
      simp only at hg hs
      refine ⟨o, he', rfl, ?_⟩
      rcases hs.2 with g | g
      · refine ⟨g.1, fun e => ?_, g.2.2⟩
        rw [if_pos e] at hg
        omega
      · rw [he'] at g; cases g.2

def rQ (n : Nat) (o : OfS) : Nat :=
  match o.at_ with
  | .countIn => 20
  | .readCount => 1
  | .readTop => 3 * (n - o.k) + 1
  | .readBottom => 3 * (n - o.k)
  | .readStack => 3 * (n - o.k) - 1
  | .countOut => 0
/-- Steps to the end. -/
def rW (n : Nat) (x : WkS) : Nat :=
  if x.ended then 0 else
  match x.act with
  | .offer o => rQ n o
  | _ => 0

/-- Counted, or ended. -/
def cntd (x : WkS) : Prop := x.ended = true ∨ ∃ o, x.act = .offer o ∧ o.at_ ≠ .countIn

/-- An offer's step that stays an offer's. -/
theorem fin_move {n k : Nat} {l : List Int} {x : WkS} {o : OfS} (he : x.ended = false) (ha : x.act = .offer o) (h0 : o.state = 0) (hc : o.at_ ≠ .countOut) (hq : QOk (QE n) o)
    (hnext : (moveW n k l x).ended = true ∨ ∃ o', (moveW n k l x).act = .offer o' ∧ o'.at_ ≠ .countOut) :
    cntd (moveW n k l x) ∧ (cnt (QE n) l = n → rW n (moveW n k l x) < rW n x) := by
  have hne : ¬ x.ended = true := by simp [he]
  have hy : moveW n k l x = if (stepQ (QE n) l o).2.state = 2 then { x with act := .offer (stepQ (QE n) l o).2, ended := true } else if (stepQ (QE n) l o).2.state = 1 then nextS n k { x with act := .offer (stepQ (QE n) l o).2 } 0 else { x with act := .offer (stepQ (QE n) l o).2 } := by
    unfold moveW stepG; simp only; rw [if_neg hne, ha]; simp only [updX_at]
  have hcs : (QE n).cs.length = n := by simp [QE, csE]
  have hx : rW n x = rQ n o := by unfold rW; rw [if_neg hne, ha]
  have hgo : ∀ o' : OfS, o'.state = 0 → moveW n k l x = { x with act := .offer o' } → o'.at_ ≠ .countIn → (cnt (QE n) l = n → rQ n o' < rQ n o) → cntd (moveW n k l x) ∧ (cnt (QE n) l = n → rW n (moveW n k l x) < rW n x) := by
    intro o' h1 h2 h3 h4
    refine ⟨.inr ⟨o', by rw [h2], h3⟩, fun g => ?_⟩
    rw [hx, h2]
    unfold rW
    simp only
    rw [if_neg hne]
    exact h4 g
  obtain ⟨a, st, q, t⟩ := o
  simp only at h0 hc
  subst h0
  cases a
  case countIn =>
    have e : (stepQ (QE n) l ⟨.countIn, 0, q, t⟩).2 = ⟨.readCount, 0, q, t⟩ := by simp [stepQ]
    rw [e, if_neg (by simp), if_neg (by simp)] at hy
    exact hgo _ rfl hy (by simp) (fun _ => by simp [rQ])
  case readCount =>
    by_cases g : cnt (QE n) l = (QE n).n
    · have e : (stepQ (QE n) l ⟨.readCount, 0, q, t⟩).2 = ⟨.readCount, 2, q, t⟩ := by simp [stepQ, g]
      rw [e, if_pos rfl] at hy
      refine ⟨.inl (by rw [hy]), fun _ => ?_⟩
      rw [hx, hy]
      simp [rW, rQ]
    · have e : (stepQ (QE n) l ⟨.readCount, 0, q, t⟩).2 = lookQ (QE n) ⟨.readCount, 0, q, t⟩ 0 := by simp [stepQ, g]
      rw [e, if_neg (by simp [lookQ]), if_neg (by simp [lookQ])] at hy
      refine hgo _ rfl hy ?_ (fun g2 => absurd g2 g)
      unfold lookQ
      simp only
      split <;> simp
  case readTop =>
    have e : (stepQ (QE n) l ⟨.readTop, 0, q, t⟩).2 = ⟨.readBottom, 0, q, rd (cOf (QE n) q) l 0⟩ := by simp [stepQ]
    rw [e, if_neg (by simp), if_neg (by simp)] at hy
    exact hgo _ rfl hy (by simp) (fun _ => by simp [rQ])
  case readBottom =>
    simp only [QOk, hcs] at hq
    by_cases g : t < rd (cOf (QE n) q) l 1
    · have e : (stepQ (QE n) l ⟨.readBottom, 0, q, t⟩).2 = ⟨.countOut, 0, q, t⟩ := by simp [stepQ, g]
      rw [e, if_neg (by simp), if_neg (by simp)] at hy
      rw [hy] at hnext
      rcases hnext with g2 | ⟨o', g2, g3⟩
      · exact absurd g2 hne
      · cases g2; exact absurd rfl g3
    · have e : (stepQ (QE n) l ⟨.readBottom, 0, q, t⟩).2 = ⟨.readStack, 0, q, t⟩ := by simp [stepQ, g]
      rw [e, if_neg (by simp), if_neg (by simp)] at hy
      exact hgo _ rfl hy (by simp) (fun _ => by simp [rQ]; omega)
  case readStack =>
    simp only [QOk, hcs] at hq
    by_cases g : 0 < rd (cOf (QE n) q) l 3
    · have e : (stepQ (QE n) l ⟨.readStack, 0, q, t⟩).2 = ⟨.countOut, 0, q, t⟩ := by simp [stepQ, g]
      rw [e, if_neg (by simp), if_neg (by simp)] at hy
      rw [hy] at hnext
      rcases hnext with g2 | ⟨o', g2, g3⟩
      · exact absurd g2 hne
      · cases g2; exact absurd rfl g3
    · have e : (stepQ (QE n) l ⟨.readStack, 0, q, t⟩).2 = lookQ (QE n) ⟨.readStack, 0, q, t⟩ (q + 1) := by simp [stepQ, g]
      rw [e, if_neg (by simp [lookQ]), if_neg (by simp [lookQ])] at hy
      refine hgo _ rfl hy ?_ (fun g2 => ?_)
      · unfold lookQ
        simp only
        split <;> simp
      · by_cases g3 : q + 1 = n
        · simp [lookQ, hcs, g3, rQ]; omega
        · simp [lookQ, hcs, g3, rQ]; omega
  case countOut => exact absurd rfl hc

section
variable {n : Nat} {T : Nat → GS} {a : Nat}
theorem ended_stays (hT : ByTurns n T) {s k : Nat} (h : ((T s).X k).ended = true) : ∀ e, ((T (s + e)).X k).ended = true
  | 0 => h
  | e + 1 => by
    have ih := ended_stays hT h e
    rw [← Nat.add_assoc, hT]
    by_cases g : k = (s + e) % n
    · subst g
      unfold stepG
      rw [if_pos ih]
      exact ih
    · rw [move_other _ _ g]; exact ih

/-- All end. -/
theorem Calm.ends (h : Calm n T a) : ∀ t, a + 2404 ≤ t → ∀ k, k < n → ((T t).X k).ended = true := by
  obtain ⟨d0, hd0, hz⟩ := h.over
  have hn1 := h.n1
  have hn4 := h.n4
  have hoff : ∀ e k, k < n → ((T (a + (d0 + e))).X k).ended = true ∨ ∃ o, ((T (a + (d0 + e))).X k).ended = false ∧ ((T (a + (d0 + e))).X k).act = .offer o ∧ o.state = 0 ∧ o.at_ ≠ .countOut ∧ QOk (QE n) o := fun e k hk =>
    off_of_go ((h.alls (d0 + e)).crew.shape k hk) (hz e k hk)
  -- a worker's own turn
  have hown : ∀ e, ((T (a + (d0 + e))).X ((a + (d0 + e)) % n)).ended = false → cntd ((T (a + (d0 + e + 1))).X ((a + (d0 + e)) % n)) ∧ (cnt (QE n) (T (a + (d0 + e))).l = n → rW n ((T (a + (d0 + e + 1))).X ((a + (d0 + e)) % n)) < rW n ((T (a + (d0 + e))).X ((a + (d0 + e)) % n))) := fun e hen => by
    have hk : (a + (d0 + e)) % n < n := Nat.mod_lt _ (by omega)
    rcases hoff e _ hk with g | ⟨o, g1, g2, g3, g4, g5⟩
    · rw [hen] at g; cases g
    · have hnx := hoff (e + 1) _ hk
      rw [← Nat.add_assoc d0] at hnx
      rw [← Nat.add_assoc, h.turns, move_eq] at hnx ⊢
      refine fin_move g1 g2 g3 g4 g5 ?_
      rcases hnx with q | ⟨o', _, q2, _, q4, _⟩
      · exact .inl q
      · exact .inr ⟨o', q2, q4⟩
  have hcst : ∀ e k, k < n → cntd ((T (a + (d0 + e))).X k) → cntd ((T (a + (d0 + e + 1))).X k) := fun e k hk hc => by
    by_cases g : k = (a + (d0 + e)) % n
    · by_cases hen : ((T (a + (d0 + e))).X k).ended = true
      · left
        have := ended_stays h.turns hen 1
        exact this
      · subst g
        exact (hown e (by simpa using hen)).1
    · rw [← Nat.add_assoc, h.turns, move_other _ _ g]; exact hc
  have hcnt : ∀ e k, k < n → n ≤ e → cntd ((T (a + (d0 + e))).X k) := fun e k hk he => by
    obtain ⟨c, hc, hcm, hcf⟩ := turn_of hn1 hn4 (a + d0) hk
    have h1 : cntd ((T (a + (d0 + c + 1))).X k) := by
      rw [Nat.add_assoc] at hcm
      by_cases hen : ((T (a + (d0 + c))).X k).ended = true
      · exact .inl (ended_stays h.turns hen 1)
      · have := (hown c (by rw [hcm]; simpa using hen)).1
        rw [hcm] at this
        exact this
    have h2 : ∀ f, cntd ((T (a + (d0 + (c + 1 + f)))).X k) := fun f => by
      induction f with
      | zero => exact h1
      | succ f ih =>
        have := hcst (c + 1 + f) k hk ih
        exact this
    have := h2 (e - (c + 1))
    rw [show c + 1 + (e - (c + 1)) = e by omega] at this
    exact this
  have hall : ∀ e, n ≤ e → cnt (QE n) (T (a + (d0 + e))).l = n := fun e he => by
    have hC := (h.alls (d0 + e)).cnt
    unfold Cnt at hC
    rw [hC, sumTo_congr (h := fun _ => (1 : Int)) (fun k hk => ?_), sumTo_const _ 1 n (fun _ => rfl)]
    · omega
    · have hs := (h.alls (d0 + e)).crew.shape k hk
      unfold ShapeW at hs
      unfold inC
      rcases hcnt e k hk he with g | ⟨o, g1, g2⟩
      · cases hx : ((T (a + (d0 + e))).X k).act with
        | none => rw [hx] at hs; simp only at hs; rw [g] at hs; cases hs
        | op i o => rw [hx] at hs; simp only at hs; rw [g] at hs; cases hs.1
        | offer o =>
          rw [hx] at hs
          simp only at hs ⊢
          rcases hs.2 with q | q
          · rw [g] at q; cases q.2.1
          · rw [if_neg (by omega)]
      · rw [g1]
        simp only
        rw [if_neg (fun q => g2 q.2)]
  -- the steps to the end
  have hless : ∀ e k, n ≤ e → rW n ((T (a + (d0 + e + 1))).X k) ≤ rW n ((T (a + (d0 + e))).X k) := fun e k he => by
    by_cases g : k = (a + (d0 + e)) % n
    · by_cases hen : ((T (a + (d0 + e))).X k).ended = true
      · have := ended_stays h.turns hen 1
        unfold rW
        rw [if_pos (show ((T (a + (d0 + e + 1))).X k).ended = true from this)]
        omega
      · subst g
        have := (hown e (by simpa using hen)).2 (hall e he)
        omega
    · rw [← Nat.add_assoc a (d0 + e) 1, h.turns, move_other _ _ g]
      exact Nat.le_refl _
  have hlesser : ∀ e k f, n ≤ e → rW n ((T (a + (d0 + (e + f)))).X k) ≤ rW n ((T (a + (d0 + e))).X k) := fun e k f he => by
    induction f with
    | zero => exact Nat.le_refl _
    | succ f ih => exact Nat.le_trans (hless (e + f) k (by omega)) ih
  have hround : ∀ e k, k < n → n ≤ e → ((T (a + (d0 + e))).X k).ended = false → rW n ((T (a + (d0 + (e + n)))).X k) < rW n ((T (a + (d0 + e))).X k) := fun e k hk he hen => by
    obtain ⟨c, hc, hcm, hcf⟩ := turn_of hn1 hn4 (a + (d0 + e)) hk
    have hs := same_before h.turns (a + (d0 + e)) k c hcf
    rw [show a + (d0 + e) + c = a + (d0 + (e + c)) by omega] at hs hcm
    have h1 := hown (e + c) (by rw [hcm, hs]; exact hen)
    rw [hcm, hs] at h1
    have h2 := h1.2 (hall (e + c) (by omega))
    have h3 := hlesser (e + c + 1) k (n - (c + 1)) (by omega)
    rw [show e + c + 1 + (n - (c + 1)) = e + n by omega] at h3
    exact Nat.lt_of_le_of_lt h3 h2
  have hmost : ∀ x : WkS, rW n x ≤ 20 := fun x => by
    unfold rW
    split
    · omega
    · split
      · unfold rQ; split <;> omega
      · omega
  have hend : ∀ m e k, k < n → n ≤ e → rW n ((T (a + (d0 + e))).X k) ≤ m → ((T (a + (d0 + (e + n * (m + 1))))).X k).ended = true := by
    intro m
    induction m with
    | zero =>
      intro e k hk he hm
      by_cases hen : ((T (a + (d0 + e))).X k).ended = true
      · have := ended_stays h.turns hen (n * (0 + 1))
        rw [show a + (d0 + e) + n * (0 + 1) = a + (d0 + (e + n * (0 + 1))) by omega] at this
        exact this
      · have := hround e k hk he (by simpa using hen)
        omega
    | succ m ih =>
      intro e k hk he hm
      by_cases hen : ((T (a + (d0 + e))).X k).ended = true
      · have := ended_stays h.turns hen (n * (m + 1 + 1))
        rw [show a + (d0 + e) + n * (m + 1 + 1) = a + (d0 + (e + n * (m + 1 + 1))) by omega] at this
        exact this
      · have h1 := hround e k hk he (by simpa using hen)
        have h2 := ih (e + n) k hk (by omega) (by omega)
        have h3 : n * (m + 1 + 1) = n * (m + 1) + n := Nat.mul_succ _ _
        rw [show d0 + (e + n * (m + 1 + 1)) = d0 + (e + n + n * (m + 1)) by omega]
        exact h2
  intro t ht k hk
  have h1 := hend 20 n k hk (Nat.le_refl _) (hmost _)
  have h2 : n * (20 + 1) ≤ 4 * 21 := Nat.mul_le_mul hn4 (Nat.le_refl _)
  have h3 := ended_stays h.turns h1 (t - (a + (d0 + (n + n * (20 + 1)))))
  rw [show a + (d0 + (n + n * (20 + 1))) + (t - (a + (d0 + (n + n * (20 + 1))))) = t by omega] at h3
  exact h3
end
end Go.Proofs.Ytokabpgdklihlaa

/-
  The crew of QuietEnds without memory: what all items are worth together, by any weight ('totF'), through a step ('Crew.sum'): it changes alone where an item is worked off. No Go is walked here.
-/
import Derived.Test.YtokabpgdklihlaaQuietShape
namespace Go.Proofs.Ytokabpgdklihlaa
set_option linter.unusedVariables false

theorem sumTo_upd {g h : Nat → Int} {n k : Nat} (hk : k < n) (e : ∀ j, j < n → j ≠ k → h j = g j) : sumTo h n = sumTo g n + h k - g k := by
  induction n with
  | zero => omega
  | succ m ih =>
    show sumTo h m + h m = sumTo g m + g m + h k - g k
    by_cases q : k = m
    · subst q
      rw [sumTo_congr (g := h) (h := g) (fun j hj => e j (by omega) (by omega))]
      omega
    · rw [ih (by omega) (fun j hj hjk => e j (by omega) hjk), e m (by omega) (fun z => q z.symm)]
      omega

def sumL (f : Int → Int) : List Int → Int
  | [] => 0
  | x :: xs => f x + sumL f xs
def wayW (f : Int → Int) (x : WkS) : Int :=
  match x.act with
  | .op _ o => way (x.kind == 0) f o
  | _ => 0
/-- What a worker has. -/
def hasW (f : Int → Int) (x : WkS) : Int := sumL f x.hands + wayW f x
/-- What deque j has. -/
def hasD (f : Int → Int) (n : Nat) (l : List Int) (X : Nat → WkS) (j : Nat) : Int := worth f (cOf (QE n) j) (viewOf (cOf (QE n) j) l) (bot (viewOf (cOf (QE n) j) l) (partOf X j none))
def totF (f : Int → Int) (n : Nat) (l : List Int) (X : Nat → WkS) : Int := sumTo (fun k => hasW f (X k)) n + sumTo (hasD f n l X) n

theorem part_act {X : Nat → WkS} {k i : Nat} {o : OpS} (ha : (X k).act = .op i o) (hw : (X k).kind ≤ 1 → i = k) : partOf X i (roleOf k (X k)) = o := by
  unfold roleOf
  by_cases hk : (X k).kind ≤ 1
  · have := hw hk
    subst this
    rw [if_pos hk]
    simp [partOf, ownOp, ha, hk]
  · rw [if_neg hk]
    have hk2 : 2 ≤ (X k).kind := by omega
    simp [partOf, thfOp, ha, hk2]
theorem part_act_none {X : Nat → WkS} {k i : Nat} {o o' : OpS} (ha : (X k).act = .op i o) (hw : (X k).kind ≤ 1 → i = k) (j : Nat) : partOf (updX X k { X k with act := .op i o' }) j none = if j = i ∧ (X k).kind ≤ 1 then o' else partOf X j none := by
  by_cases hj : j = k
  · subst hj
    by_cases e : i = j
    · subst e
      by_cases hk : (X i).kind ≤ 1 <;> simp [partOf, updX, ownOp, hk, ha]
    · have e' : ¬ j = i := fun q => e q.symm
      simp [partOf, updX, ownOp, ha, e, e']
  · have : ¬ (j = i ∧ (X k).kind ≤ 1) := fun q => hj (q.1.trans (hw q.2))
    rw [if_neg this]
    simp [partOf, updX, hj]

/-- An operation's step. -/
theorem tot_act {n : Nat} {l : List Int} {X : Nat → WkS} (h : Wells n l X) (f : Int → Int) (hl : 1 + 90 * n ≤ l.length) {k i : Nat} {o : OpS} (hkn : k < n) (hi : i < n) (ha : (X k).act = .op i o) (hw : (X k).kind ≤ 1 → i = k) (h0 : 0 ≤ (X k).kind) (hc : CntOk (cOf (QE n) i) o) (hki : KindI ((X k).kind == 0) o) :
    totF f n (stepOf (cOf (QE n) i) l o).1 (updX X k { X k with act := .op i (stepOf (cOf (QE n) i) l o).2 }) = totF f n l X := by
  have ci := cOf_QE hi
  have hcap : 1 ≤ (cOf (QE n) i).cap := by rw [ci]; simp
  have hr : (cOf (QE n) i).base + (4 + (cOf (QE n) i).cap + (cOf (QE n) i).over) ≤ l.length := by rw [ci]; simp only; omega
  obtain ⟨v1, v2⟩ := view_step hr hcap hc
  have hp := part_act ha hw
  -- the workers
  have s1 : sumTo (fun j => hasW f (updX X k { X k with act := .op i (stepOf (cOf (QE n) i) l o).2 } j)) n = sumTo (fun j => hasW f (X j)) n + (way ((X k).kind == 0) f (stepOf (cOf (QE n) i) l o).2 - way ((X k).kind == 0) f o) := by
    rw [sumTo_upd (g := fun j => hasW f (X j)) hkn (fun j hj hjk => by simp only [updX_ne _ _ hjk])]
    simp only [updX_at, hasW, wayW, ha]
    omega
  -- the deques
  have s2 : sumTo (hasD f n (stepOf (cOf (QE n) i) l o).1 (updX X k { X k with act := .op i (stepOf (cOf (QE n) i) l o).2 })) n = sumTo (hasD f n l X) n + (way ((X k).kind == 0) f o - way ((X k).kind == 0) f (stepOf (cOf (QE n) i) l o).2) := by
    rw [sumTo_upd (g := hasD f n l X) hi ?_]
    · have key : hasD f n (stepOf (cOf (QE n) i) l o).1 (updX X k { X k with act := .op i (stepOf (cOf (QE n) i) l o).2 }) i + way ((X k).kind == 0) f (stepOf (cOf (QE n) i) l o).2 = hasD f n l X i + way ((X k).kind == 0) f o := by
        unfold hasD
        rw [part_act_none ha hw, v1, v2]
        by_cases hk : (X k).kind ≤ 1
        · rw [if_pos ⟨rfl, hk⟩]
          unfold roleOf at hp
          rw [if_pos hk] at hp
          have := (h i hi).worth_own f ((X k).kind == 0) (by rw [hp]; exact hki)
          rw [hp] at this ⊢
          exact this
        · rw [if_neg (fun q => hk q.2)]
          unfold roleOf at hp
          rw [if_neg hk] at hp
          have hb : ((X k).kind == 0) = false := by simp; omega
          rw [hb] at hki ⊢
          have := (h i hi).worth_thief f k (by rw [hp]; exact hki)
          rw [hp] at this
          exact this
      omega
    · intro j hj hji
      have hap : (cOf (QE n) i).base + (4 + (cOf (QE n) i).cap + (cOf (QE n) i).over) ≤ (cOf (QE n) j).base ∨ (cOf (QE n) j).base + (4 + (cOf (QE n) j).cap + (cOf (QE n) j).over) ≤ (cOf (QE n) i).base := by
        rw [ci, cOf_QE hj]; simp only; omega
      unfold hasD
      rw [part_act_none ha hw, if_neg (fun q => hji q.1), view_other hc hcap hap]
  unfold totF
  rw [s1, s2]
  omega

/-- A worker begins something else: the deques stay. -/
theorem tot_set {n : Nat} {l : List Int} {X : Nat → WkS} (f : Int → Int) {k : Nat} (hk : k < n) (y : WkS) (h1 : ∀ v, bot v (ownOp (X k) k) = v.B) (h2 : ∀ v, bot v (ownOp y k) = v.B) : totF f n l (updX X k y) = totF f n l X + hasW f y - hasW f (X k) := by
  have s1 : sumTo (fun j => hasW f (updX X k y j)) n = sumTo (fun j => hasW f (X j)) n + hasW f y - hasW f (X k) := by
    rw [sumTo_upd (g := fun j => hasW f (X j)) hk (fun j hj hjk => by simp only [updX_ne _ _ hjk])]
    simp only [updX_at]
  have s2 : sumTo (hasD f n l (updX X k y)) n = sumTo (hasD f n l X) n := by
    refine sumTo_congr fun j hj => ?_
    unfold hasD
    by_cases e : j = k
    · subst e
      simp only [partOf, updX_at, h1, h2]
    · simp only [partOf, updX_ne _ _ e]
  unfold totF
  rw [s1, s2]
  omega

theorem bot_done {o : OpS} (h : o.done = true) (v : DV) : bot v o = v.B := by unfold bot; rw [h]; rfl
theorem bot_next (n k : Nat) (x : WkS) (af : Int) (v : DV) : bot v (ownOp (nextS n k x af) k) = v.B := by
  rcases (next_begins n k x af).1 with h | ⟨st, z, e, h⟩
  · exact bot_done h v
  · rw [e]
    rcases h with ⟨_, rfl | rfl⟩ | ⟨h, _⟩
    · rfl
    · rfl
    · exact absurd rfl h
theorem way_new (push : Bool) (f : Int → Int) {st : Stp} (z : Int) (h : st = .pushReadBottom ∨ st = .popReadBottom ∨ st = .stealReadTop) : way push f (opNew st z) = 0 := by
  rcases h with rfl | rfl | rfl <;> cases push <;> simp [way, opNew]
theorem has_next (f : Int → Int) (n k : Nat) (x : WkS) (af : Int) : hasW f (nextS n k x af) = sumL f x.hands := by
  obtain ⟨hs, kd, ac, en⟩ := x
  unfold nextS
  cases hs with
  | cons y ys => simp [hasW, wayW, way_new]
  | nil =>
    simp only
    by_cases h1 : af < 1
    · rw [if_pos h1]; simp [hasW, wayW, way_new]
    · rw [if_neg h1]
      by_cases h2 : af ≤ n
      · rw [if_pos h2]; simp [hasW, wayW, way_new]
      · rw [if_neg h2]; simp [hasW, wayW]
theorem tot_stepQ (f : Int → Int) (n : Nat) (l : List Int) (X : Nat → WkS) (o : OfS) : totF f n (stepQ (QE n) l o).1 X = totF f n l X := by
  unfold totF
  rw [sumTo_congr (g := hasD f n (stepQ (QE n) l o).1 X) (h := hasD f n l X) (fun j hj => by unfold hasD; rw [view_stepQ hj])]

/-- What is gained where an item is worked off. -/
def gain (f : Int → Int) : Option Int → Int
  | none => 0
  | some v => (if 0 < v then f (v - 1) + f (v - 1) else 0) - f v
def one01 : Option Int → Int
  | none => 0
  | some _ => 1

theorem own_done {x : WkS} {i : Nat} {o : OpS} (ha : x.act = .op i o) (hd : o.done = true) (j : Nat) : (ownOp x j).done = true := by
  unfold ownOp; rw [ha]; simp only; split <;> first | exact hd | rfl

/-- Item v is what a take tells at this step. -/
def Tells (n : Nat) (S : GS) (k : Nat) (v : Int) : Prop :=
  ∃ i o, (S.X k).ended = false ∧ (S.X k).act = .op i o ∧ (stepOf (cOf (QE n) i) S.l o).2.done = true ∧ (S.X k).kind ≠ 0 ∧ (stepOf (cOf (QE n) i) S.l o).2.errno = 0 ∧ (stepOf (cOf (QE n) i) S.l o).2.item = v

/-- A step of a worker: an item is worked off, or all is worth what it was. -/
theorem Crew.sum {n : Nat} {S : GS} (h : Crew n S) {k : Nat} (hk : k < n) (hf : NoFull n S k) :
    ∃ w, (stepG (QE n) n S k).dn = S.dn + one01 w ∧ (∀ f, totF f n (stepG (QE n) n S k).l (stepG (QE n) n S k).X = totF f n S.l S.X + gain f w) ∧ ∀ v, Tells n S k v → w = some v := by
  have hsh := h.shape k hk
  unfold stepG
  by_cases he : (S.X k).ended = true
  · rw [if_pos he]; exact ⟨none, by simp [one01], fun f => by simp [gain], fun v ⟨i, o, g, _⟩ => by rw [he] at g; cases g⟩
  rw [if_neg he]
  have he' : (S.X k).ended = false := by simpa using he
  unfold ShapeW at hsh
  cases ha : (S.X k).act with
  | none =>
    simp only
    refine ⟨none, by simp [one01], fun f => ?_, fun v ⟨i, o, _, g, _⟩ => by rw [ha] at g; cases g⟩
    rw [tot_set f hk _ (fun v => bot_done (by simp [ownOp, ha, opDone]) v) (fun v => bot_next n k _ _ v), has_next]
    simp only [hasW, wayW, ha, gain]
    omega
  | offer o =>
    rw [ha] at hsh
    simp only at hsh ⊢
    have b1 : ∀ v, bot v (ownOp (S.X k) k) = v.B := fun v => bot_done (by simp [ownOp, ha, opDone]) v
    have w0 : ∀ f, hasW f (S.X k) = sumL f (S.X k).hands := fun f => by simp only [hasW, wayW, ha]; omega
    refine ⟨none, by simp [one01], fun f => ?_, fun v ⟨i, o, _, g, _⟩ => by rw [ha] at g; cases g⟩
    by_cases e2 : (stepQ (QE n) S.l o).2.state = 2
    · rw [if_pos e2, tot_set f hk _ b1 (fun v => rfl), tot_stepQ, w0]
      simp only [hasW, wayW, gain]
      omega
    · rw [if_neg e2]
      by_cases e1 : (stepQ (QE n) S.l o).2.state = 1
      · rw [if_pos e1, tot_set f hk _ b1 (fun v => bot_next n k _ _ v), tot_stepQ, w0, has_next]
        simp only [gain]
        omega
      · rw [if_neg e1, tot_set f hk _ b1 (fun v => rfl), tot_stepQ, w0]
        simp only [hasW, wayW, gain]
        omega
  | op i o =>
    rw [ha] at hsh
    simp only at hsh ⊢
    obtain ⟨_, hd, hi, hc, hki, hei, hway⟩ := hsh
    have hw : (S.X k).kind ≤ 1 → i = k := fun g => by omega
    have h0 : 0 ≤ (S.X k).kind := by omega
    have hn4 := h.n4
    have hl4 := h.len
    have hl : 1 + 90 * n ≤ S.l.length := by omega
    have W := fun f => tot_act h.wells f hl hk hi ha hw h0 hc hki
    have hr : (cOf (QE n) i).base + (4 + (cOf (QE n) i).cap + (cOf (QE n) i).over) ≤ S.l.length := by rw [cOf_QE hi]; simp only; omega
    have hcap : 1 ≤ (cOf (QE n) i).cap := by rw [cOf_QE hi]; simp
    obtain ⟨v1, v2⟩ := view_step hr hcap hc
    have hit : (S.X k).kind = 0 → (stepOf (cOf (QE n) i) S.l o).2.item = o.item := fun g => by
      rw [v2]; exact item_push (by rw [g] at hki; exact hki)
    have hf' := hf i o ha
    have tl : ∀ v, Tells n S k v → (stepOf (cOf (QE n) i) S.l o).2.done = true ∧ (S.X k).kind ≠ 0 ∧ (stepOf (cOf (QE n) i) S.l o).2.errno = 0 ∧ (stepOf (cOf (QE n) i) S.l o).2.item = v := fun v ⟨i2, o2, _, g, g2⟩ => by
      rw [ha] at g
      cases g
      exact g2
    generalize hl' : (stepOf (cOf (QE n) i) S.l o).1 = l' at *
    generalize ho' : (stepOf (cOf (QE n) i) S.l o).2 = o' at *
    by_cases hdn : o'.done = true
    · rw [if_pos hdn]
      simp only
      have b1 : ∀ v, bot v (ownOp (updX S.X k { S.X k with act := .op i o' } k) k) = v.B := fun v => by
        rw [updX_at]; exact bot_done (own_done rfl hdn k) v
      have set : ∀ f y af, totF f n l' (updX S.X k (nextS n k y af)) = totF f n S.l S.X + sumL f y.hands - hasW f { S.X k with act := .op i o' } := fun f y af => by
        rw [← updX_twice S.X k { S.X k with act := .op i o' }, tot_set f hk _ b1 (fun v => bot_next n k _ _ v), W f, has_next, updX_at]
      have hasw : ∀ f, hasW f { S.X k with act := .op i o' } = sumL f (S.X k).hands + way ((S.X k).kind == 0) f o' := fun f => rfl
      unfold overS
      by_cases k0 : (S.X k).kind = 0
      · have e0 := hf' k0 hdn
        have hv : (valOf o').2 = 0 := by simp [valOf, hdn, e0]
        have hn0 : ((S.X k).kind == 0) = true := by simp [k0]
        simp only [k0, if_true, hv]
        refine ⟨none, by simp [one01], fun f => ?_, fun v g => absurd k0 (tl v g).2.1⟩
        rw [set, hasw, hn0]
        rcases hway with ⟨_, _, rest, g3⟩ | ⟨g1, _⟩ | ⟨g1, _⟩
        · simp only [g3, List.tail_cons, sumL, gain, way, hdn, e0, hit k0]
          simp
          omega
        · omega
        · omega
      · have hn0 : ((S.X k).kind == 0) = false := by simp [k0]
        have hh : (S.X k).hands = [] := by
          rcases hway with ⟨g1, _⟩ | ⟨_, _, g3⟩ | ⟨_, g3⟩
          · exact absurd g1 k0
          · exact g3
          · exact g3
        by_cases e0 : o'.errno = 0
        · have hv : valOf o' = (o'.item, 0) := by simp [valOf, hdn, e0]
          simp only [k0, if_false, hv, if_true]
          refine ⟨some o'.item, by simp [one01], fun f => ?_, fun v g => by rw [(tl v g).2.2.2]⟩
          rw [set, hasw, hn0]
          simp only [hh, sumL, gain, way, hdn, e0, List.nil_append]
          by_cases hp : 0 < o'.item
          · simp [hp, sumL]; omega
          · simp [hp, sumL]; omega
        · have hv : valOf o' = (0, o'.errno) := by simp [valOf, hdn, e0]
          have hw0 : ∀ f, way false f o' = 0 := fun f => by simp [way, hdn, e0]
          simp only [k0, if_false, hv, e0]
          by_cases e16 : o'.errno = 16
          · simp only [e16, if_true]
            refine ⟨none, by simp [one01], fun f => ?_, fun v g => absurd (tl v g).2.2.1 e0⟩
            rw [set, hasw, hn0, hw0]
            simp only [hh, sumL, gain]
            omega
          · simp only [e16, if_false]
            refine ⟨none, by simp [one01], fun f => ?_, fun v g => absurd (tl v g).2.2.1 e0⟩
            rw [set, hasw, hn0, hw0]
            simp only [hh, sumL, gain]
            omega
    · rw [if_neg hdn]
      refine ⟨none, by simp [one01], fun f => ?_, fun v g => absurd (tl v g).1 hdn⟩
      simp only
      rw [W f]
      simp [gain]
/-! Weights that are not negative; each item lies in 0..4. -/
theorem sumTo_nn {g : Nat → Int} : ∀ {n : Nat}, (∀ j, j < n → 0 ≤ g j) → 0 ≤ sumTo g n
  | 0, _ => Int.le_refl _
  | n + 1, h => by
    have := sumTo_nn (g := g) (n := n) (fun j hj => h j (by omega))
    have := h n (by omega)
    show 0 ≤ sumTo g n + g n
    omega
theorem sumTo_ge {g : Nat → Int} {n k : Nat} (hk : k < n) (h : ∀ j, j < n → 0 ≤ g j) : g k ≤ sumTo g n := by
  induction n with
  | zero => omega
  | succ m ih =>
    show g k ≤ sumTo g m + g m
    have := sumTo_nn (g := g) (n := m) (fun j hj => h j (by omega))
    have := h m (by omega)
    by_cases q : k = m
    · subst q; omega
    · have := ih (by omega) (fun j hj => h j (by omega)); omega
theorem sumL_nn {f : Int → Int} (h : ∀ x, 0 ≤ f x) : ∀ l, 0 ≤ sumL f l
  | [] => Int.le_refl _
  | x :: xs => by
    have := sumL_nn h xs
    have := h x
    show 0 ≤ f x + sumL f xs
    omega
theorem hasW_nn {f : Int → Int} (hf : ∀ x, 0 ≤ f x) {n k : Nat} {x : WkS} (h : ShapeW n k x) : 0 ≤ hasW f x := by
  unfold ShapeW at h
  unfold hasW wayW
  have hs := sumL_nn hf x.hands
  cases ha : x.act with
  | none => simp only; omega
  | offer o => simp only; omega
  | op i o =>
    rw [ha] at h
    simp only at h ⊢
    obtain ⟨_, hd, _, _, _, _, hw⟩ := h
    have hi := hf o.item
    rcases hw with ⟨g1, _, rest, g3⟩ | ⟨g1, _, g3⟩ | ⟨g1, g3⟩
    · have : 0 ≤ sumL f rest := sumL_nn hf rest
      rw [g3]
      simp only [sumL, way, g1]
      split <;> (try split) <;> omega
    · have : ((x.kind == 0) : Bool) = false := by simp; omega
      rw [this]
      simp only [way, Bool.false_eq_true, if_false]
      split <;> omega
    · have : ((x.kind == 0) : Bool) = false := by simp; omega
      rw [this]
      simp only [way, Bool.false_eq_true, if_false]
      split <;> omega
theorem hasD_nn {f : Int → Int} (hf : ∀ x, 0 ≤ f x) (n : Nat) (l : List Int) (X : Nat → WkS) (j : Nat) : 0 ≤ hasD f n l X j := by
  unfold hasD worth ringW stackW
  have a := sumTo_nn (n := (bot (viewOf (cOf (QE n) j) l) (partOf X j none) - (viewOf (cOf (QE n) j) l).T).toNat) (g := fun i => f ((viewOf (cOf (QE n) j) l).s (spot (cOf (QE n) j).cap ((viewOf (cOf (QE n) j) l).T + (i : Int))))) (fun _ _ => hf _)
  have b := sumTo_nn (n := (viewOf (cOf (QE n) j) l).N.toNat) (g := fun i => f ((viewOf (cOf (QE n) j) l).k i)) (fun _ _ => hf _)
  omega
theorem Crew.tot_nn {n : Nat} {S : GS} (h : Crew n S) {f : Int → Int} (hf : ∀ x, 0 ≤ f x) : 0 ≤ totF f n S.l S.X := by
  have a := sumTo_nn (n := n) (g := fun k => hasW f (S.X k)) (fun j hj => hasW_nn hf (h.shape j hj))
  have b := sumTo_nn (n := n) (g := hasD f n S.l S.X) (fun j hj => hasD_nn hf n S.l S.X j)
  unfold totF
  omega

/-- 0 where an item is in 0..4; beyond it three times as much at each. -/
def outF (x : Int) : Int := if x < 0 then 1 else if x ≤ 4 then 0 else 3 ^ (x - 4).toNat
theorem outF_nn (x : Int) : 0 ≤ outF x := by
  unfold outF
  split
  · omega
  · split
    · omega
    · exact Int.le_of_lt (Int.pow_pos (by omega))
theorem out_gain {v : Int} (h : 0 ≤ gain outF (some v)) : 0 ≤ v ∧ v ≤ 4 := by
  unfold gain at h
  simp only at h
  rcases (show v < 0 ∨ (0 ≤ v ∧ v ≤ 4) ∨ v = 5 ∨ 6 ≤ v by omega) with q | q | q | q
  · have : ¬ 0 < v := by omega
    simp [this, outF, q] at h
  · exact q
  · subst q; simp [outF] at h
  · exfalso
    have e1 : outF v = 3 ^ (v - 4).toNat := by unfold outF; rw [if_neg (by omega), if_neg (by omega)]
    have e2 : outF (v - 1) = 3 ^ (v - 1 - 4).toNat := by unfold outF; rw [if_neg (by omega), if_neg (by omega)]
    rw [if_pos (by omega), e1, e2, show (v - 4).toNat = (v - 1 - 4).toNat + 1 by omega, Int.pow_succ] at h
    have : (0 : Int) < 3 ^ (v - 1 - 4).toNat := Int.pow_pos (by omega)
    omega
theorem gain_in {v : Int} (h : 0 ≤ v ∧ v ≤ 4) : gain outF (some v) = 0 := by
  have : v = 0 ∨ v = 1 ∨ v = 2 ∨ v = 3 ∨ v = 4 := by omega
  rcases this with rfl | rfl | rfl | rfl | rfl <;> simp [gain, outF]

/-- All items are in 0..4: so it stays, and so is what is told. -/
theorem Crew.inside {n : Nat} {S : GS} (h : Crew n S) {k : Nat} (hk : k < n) (hf : NoFull n S k) (ho : totF outF n S.l S.X = 0) : totF outF n (stepG (QE n) n S k).l (stepG (QE n) n S k).X = 0 ∧ (∀ v, Tells n S k v → 0 ≤ v ∧ v ≤ 4) ∧ ∃ w, (stepG (QE n) n S k).dn = S.dn + one01 w ∧ (∀ f, totF f n (stepG (QE n) n S k).l (stepG (QE n) n S k).X = totF f n S.l S.X + gain f w) ∧ ∀ v, w = some v → 0 ≤ v ∧ v ≤ 4 := by
  obtain ⟨w, h1, h2, h3⟩ := h.sum hk hf
  have hn := (h.step hk hf).tot_nn outF_nn
  have e := h2 outF
  rw [ho] at e
  have hin : ∀ v, w = some v → 0 ≤ v ∧ v ≤ 4 := fun v q => by
    subst q
    exact out_gain (by omega)
  refine ⟨?_, fun v q => hin v (h3 v q), w, h1, h2, hin⟩
  cases w with
  | none => rw [e]; simp [gain]
  | some v => rw [e, gain_in (hin v rfl)]; rfl
end Go.Proofs.Ytokabpgdklihlaa

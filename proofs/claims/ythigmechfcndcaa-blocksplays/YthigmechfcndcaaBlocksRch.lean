/-
  What roots lead to, without memory: the objects by their addresses, what is reached, and what one step of following does. No Go is walked here.
-/
import Derived.Test.YthigmechfcndcaaBlocksEach
namespace Go.Proofs.Ythigmechfcndcaa
set_option linter.unusedVariables false

/-- The objects among blocks, by their addresses: the last one of an address counts. -/
def objAdd (f : Int → Option Blk) (b : Blk) : Int → Option Blk := if b.k = 0 then f else fun x => if x = b.t then some b else f x
def objOf (bs : List Blk) : Int → Option Blk := bs.foldl objAdd (fun _ => none)
theorem objOf_snoc (bs : List Blk) (b : Blk) : objOf (bs ++ [b]) = objAdd (objOf bs) b := by simp [objOf, List.foldl_append]
theorem objAdd_some {f : Int → Option Blk} {b c : Blk} {x : Int} (h : objAdd f b x = some c) : f x = some c ∨ (c = b ∧ b.k ≠ 0 ∧ x = b.t) := by
  unfold objAdd at h
  split at h
  · exact .inl h
  · rename_i hk
    simp only at h
    split at h
    · rename_i hx
      injection h with h
      exact .inr ⟨h.symm, hk, hx⟩
    · exact .inl h
theorem objOf_from (bs : List Blk) : ∀ (f : Int → Option Blk) x c, bs.foldl objAdd f x = some c → f x = some c ∨ (c ∈ bs ∧ c.k ≠ 0 ∧ x = c.t) := by
  induction bs with
  | nil => intro f x c h; exact .inl h
  | cons b bs ih =>
    intro f x c h
    rcases ih _ _ _ h with h1 | ⟨h1, h2, h3⟩
    · rcases objAdd_some h1 with h2 | ⟨rfl, h3, h4⟩
      · exact .inl h2
      · exact .inr ⟨by simp, h3, h4⟩
    · exact .inr ⟨by simp [h1], h2, h3⟩
theorem objOf_some {bs : List Blk} {x : Int} {c : Blk} (h : objOf bs x = some c) : c ∈ bs ∧ c.k ≠ 0 ∧ x = c.t := by
  rcases objOf_from bs _ _ _ h with h1 | h1
  · cases h1
  · exact h1
theorem objOf_keep (bs : List Blk) : ∀ (f : Int → Option Blk) x, (∀ b, b ∈ bs → b.t ≠ x) → bs.foldl objAdd f x = f x := by
  induction bs with
  | nil => intro f x _; rfl
  | cons b bs ih =>
    intro f x h
    show bs.foldl objAdd (objAdd f b) x = f x
    rw [ih _ _ (fun c hc => h c (by simp [hc]))]
    unfold objAdd
    split
    · rfl
    · show (if x = b.t then some b else f x) = f x
      rw [if_neg (fun e => h b (by simp) e.symm)]
/-- Where no two blocks have one address, each object is found by its own. -/
theorem objOf_mem (bs : List Blk) : ∀ (f : Int → Option Blk), bs.Pairwise (fun a b => a.t ≠ b.t) → ∀ c, c ∈ bs → c.k ≠ 0 → bs.foldl objAdd f c.t = some c := by
  induction bs with
  | nil => intro f _ c hc; cases hc
  | cons b bs ih =>
    intro f hp c hc hk
    obtain ⟨h1, h2⟩ := List.pairwise_cons.1 hp
    rcases List.mem_cons.1 hc with rfl | hc
    · show bs.foldl objAdd (objAdd f c) c.t = some c
      rw [objOf_keep _ _ _ (fun d hd e => h1 d hd e.symm)]
      unfold objAdd
      rw [if_neg hk]
      show (if c.t = c.t then some c else f c.t) = some c
      rw [if_pos rfl]
    · exact ih _ h2 c hc hk

/-- What is reached from roots: f, the objects; g, the words of a block's references. -/
inductive Rch (f : Int → Option Blk) (g : Blk → List Int) (rs : List Int) : Int → Prop
  | root {r : Int} : r ∈ rs → r ≠ 0 → Rch f g rs r
  | next {x y : Int} {b : Blk} : Rch f g rs x → f x = some b → y ∈ g b → y ≠ 0 → Rch f g rs y
theorem Rch.mono {f : Int → Option Blk} {g : Blk → List Int} {rs rs' : List Int} (h : ∀ r, r ∈ rs → r ∈ rs') {x : Int} (hx : Rch f g rs x) : Rch f g rs' x := by
  induction hx with
  | root h1 h2 => exact .root (h _ h1) h2
  | next _ h1 h2 h3 ih => exact .next ih h1 h2 h3

/-- One reference is taken: what was reached so far, and what is ahead. -/
def flwStep (f : Int → Option Blk) (s : List Int × List Blk) (r : Int) : (List Int × List Blk) × Bool :=
  if r = 0 then (s, true) else match f r with
  | none => (s, false)
  | some b => if r ∈ s.1 then (s, true) else ((s.1 ++ [r], s.2 ++ [b]), true)

/-- What holds behind references that were taken. -/
structure Flw (f : Int → Option Blk) (s : List Int × List Blk) (rs : List Int) (s' : List Int × List Blk) (ok : Bool) : Prop where
  old : ∀ x, x ∈ s.1 → x ∈ s'.1
  ahead : ∀ b, b ∈ s.2 → b ∈ s'.2
  new : ∀ x, x ∈ s'.1 → x ∈ s.1 ∨ (x ∈ rs ∧ x ≠ 0 ∧ ∃ b, f x = some b ∧ b ∈ s'.2)
  all : ok = true → ∀ r, r ∈ rs → r = 0 ∨ r ∈ s'.1
  bad : ok = false → ∃ r, r ∈ rs ∧ r ≠ 0 ∧ f r = none
  many : s'.1.length + s.2.length = s'.2.length + s.1.length
  nodup : s.1.Nodup → s'.1.Nodup
  dom : (∀ x, x ∈ s.1 → f x ≠ none) → ∀ x, x ∈ s'.1 → f x ≠ none
  from_ : ∀ b, b ∈ s'.2 → b ∈ s.2 ∨ ∃ x, x ∈ s'.1 ∧ f x = some b

theorem flw_nil (f : Int → Option Blk) (s : List Int × List Blk) : Flw f s [] s true where
  old := fun x hx => hx
  ahead := fun b hb => hb
  new := fun x hx => .inl hx
  all := fun _ r hr => by cases hr
  bad := fun h => by cases h
  many := Nat.add_comm _ _
  nodup := fun h => h
  dom := fun h => h
  from_ := fun b hb => .inl hb

theorem flw_step (f : Int → Option Blk) (s : List Int × List Blk) (r : Int) : Flw f s [r] (flwStep f s r).1 (flwStep f s r).2 := by
  unfold flwStep
  split
  · rename_i h0
    exact ⟨fun x hx => hx, fun b hb => hb, fun x hx => .inl hx, fun _ q hq => (by simp at hq; subst hq; exact .inl h0), fun h => (by cases h), Nat.add_comm _ _, fun h => h, fun h => h, fun b hb => .inl hb⟩
  · rename_i h0
    split
    · rename_i hf
      exact ⟨fun x hx => hx, fun b hb => hb, fun x hx => .inl hx, fun h => (by cases h), fun _ => ⟨r, by simp, h0, hf⟩, Nat.add_comm _ _, fun h => h, fun h => h, fun b hb => .inl hb⟩
    · rename_i b hf
      split
      · rename_i hr
        exact ⟨fun x hx => hx, fun b hb => hb, fun x hx => .inl hx, fun _ q hq => (by simp at hq; subst hq; exact .inr hr), fun h => (by cases h), Nat.add_comm _ _, fun h => h, fun h => h, fun b hb => .inl hb⟩
      · rename_i hr
        refine ⟨fun x hx => (by simp [hx]), fun c hc => (by simp [hc]), fun x hx => ?_, fun _ q hq => ?_, fun h => (by cases h), by simp; omega, fun h => ?_, fun h x hx => ?_, fun c hc => ?_⟩
        · simp at hx
          rcases hx with hx | rfl
          · exact .inl hx
          · exact .inr ⟨by simp, h0, b, hf, by simp⟩
        · simp at hq; subst hq
          exact .inr (by simp)
        · exact List.nodup_append.2 ⟨h, by simp, by simp; intro a ha e; subst e; exact hr ha⟩
        · simp at hx
          rcases hx with hx | rfl
          · exact h x hx
          · rw [hf]; simp
        · simp at hc
          rcases hc with hc | rfl
          · exact .inl hc
          · exact .inr ⟨r, by simp, hf⟩

theorem Flw.trans {f : Int → Option Blk} {s s' s'' : List Int × List Blk} {rs qs : List Int} {ok : Bool} (h : Flw f s rs s' true) (k : Flw f s' qs s'' ok) : Flw f s (rs ++ qs) s'' ok where
  old := fun x hx => k.old x (h.old x hx)
  ahead := fun b hb => k.ahead b (h.ahead b hb)
  new := fun x hx => by
    rcases k.new x hx with h1 | ⟨h1, h2, h3⟩
    · rcases h.new x h1 with h2 | ⟨h2, h3, b, h4, h5⟩
      · exact .inl h2
      · exact .inr ⟨by simp [h2], h3, b, h4, k.ahead b h5⟩
    · exact .inr ⟨by simp [h1], h2, h3⟩
  all := fun ho r hr => by
    rcases List.mem_append.1 hr with h1 | h1
    · rcases h.all rfl r h1 with h2 | h2
      · exact .inl h2
      · exact .inr (k.old r h2)
    · exact k.all ho r h1
  bad := fun ho => by
    obtain ⟨r, h1, h2⟩ := k.bad ho
    exact ⟨r, by simp [h1], h2⟩
  many := by have := h.many; have := k.many; omega
  nodup := fun hn => k.nodup (h.nodup hn)
  dom := fun hd => k.dom (h.dom hd)
  from_ := fun b hb => by
    rcases k.from_ b hb with h1 | h1
    · rcases h.from_ b h1 with h2 | ⟨x, h2, h3⟩
      · exact .inl h2
      · exact .inr ⟨x, k.old x h2, h3⟩
    · exact .inr h1

theorem flw_run (f : Int → Option Blk) : ∀ (rs : List Int) (s : List Int × List Blk), Flw f s rs (runRefs (flwStep f) s rs).1 (runRefs (flwStep f) s rs).2
  | [], s => flw_nil f s
  | r :: rs, s => by
    have h1 := flw_step f s r
    rw [runRefs]
    cases hb : (flwStep f s r).2 with
    | true =>
      rw [hb] at h1
      rw [if_pos rfl]
      exact h1.trans (flw_run f rs _)
    | false =>
      rw [hb] at h1
      rw [if_neg (by decide)]
      exact ⟨h1.old, h1.ahead, fun x hx => (h1.new x hx).imp id (fun ⟨a, b⟩ => ⟨by simp at a; simp [a], b⟩), fun h => (by cases h), fun h => (by obtain ⟨q, a, b⟩ := h1.bad rfl; exact ⟨q, by simp at a; simp [a], b⟩), h1.many, h1.nodup, h1.dom, h1.from_⟩

/-- What following has found so far: all that was found is reached; what was found is ahead, or its references were found. -/
structure Fnd (f : Int → Option Blk) (g : Blk → List Int) (rs : List Int) (s : List Int × List Blk) : Prop where
  rch : ∀ x, x ∈ s.1 → Rch f g rs x
  cls : ∀ x, x ∈ s.1 → ∀ b, f x = some b → b ∈ s.2 ∨ ∀ y, y ∈ g b → y = 0 ∨ y ∈ s.1
  nodup : s.1.Nodup
  dom : ∀ x, x ∈ s.1 → f x ≠ none
  few : s.2.length ≤ s.1.length
  from_ : ∀ b, b ∈ s.2 → ∃ x, x ∈ s.1 ∧ f x = some b
theorem fnd_nil (f : Int → Option Blk) (g : Blk → List Int) (rs : List Int) : Fnd f g rs ([], []) :=
  ⟨fun x hx => (by cases hx), fun x hx => (by cases hx), List.nodup_nil, fun x hx => (by cases hx), Nat.le_refl _, fun b hb => (by cases hb)⟩
/-- Roots are taken. -/
theorem Fnd.roots {f : Int → Option Blk} {g : Blk → List Int} {rs qs : List Int} {s s' : List Int × List Blk} {ok : Bool} (h : Fnd f g rs s) (k : Flw f s qs s' ok) (hq : ∀ q, q ∈ qs → q ∈ rs) : Fnd f g rs s' where
  rch := fun x hx => by
    rcases k.new x hx with h1 | ⟨h1, h2, _⟩
    · exact h.rch x h1
    · exact .root (hq x h1) h2
  cls := fun x hx b hb => by
    rcases k.new x hx with h1 | ⟨_, _, c, h3, h4⟩
    · rcases h.cls x h1 b hb with h2 | h2
      · exact .inl (k.ahead b h2)
      · exact .inr (fun y hy => (h2 y hy).imp id (k.old y))
    · rw [hb] at h3
      injection h3 with h3
      subst h3
      exact .inl h4
  nodup := k.nodup h.nodup
  dom := k.dom h.dom
  few := by have := k.many; have := h.few; omega
  from_ := fun b hb => by
    rcases k.from_ b hb with h1 | h1
    · obtain ⟨x, h2, h3⟩ := h.from_ b h1
      exact ⟨x, k.old x h2, h3⟩
    · exact h1
/-- What is ahead is gone over. -/
theorem Fnd.step {f : Int → Option Blk} {g : Blk → List Int} {rs : List Int} {R : List Int} {A : List Blk} {b : Blk} {s' : List Int × List Blk} (h : Fnd f g rs (R, A ++ [b])) (k : Flw f (R, A) (g b) s' true) : Fnd f g rs s' := by
  obtain ⟨x0, hx0, hf0⟩ := h.from_ b (by simp)
  refine ⟨fun x hx => ?_, fun x hx c hc => ?_, k.nodup h.nodup, k.dom h.dom, ?_, fun c hc => ?_⟩
  · rcases k.new x hx with h1 | ⟨h1, h2, _⟩
    · exact h.rch x h1
    · exact .next (h.rch x0 hx0) hf0 h1 h2
  · rcases k.new x hx with h1 | ⟨_, _, d, h3, h4⟩
    · rcases h.cls x h1 c hc with h2 | h2
      · rcases List.mem_append.1 h2 with h3 | h3
        · exact .inl (k.ahead c h3)
        · simp at h3
          subst h3
          exact .inr (fun y hy => k.all rfl y hy)
      · exact .inr (fun y hy => (h2 y hy).imp id (k.old y))
    · rw [hc] at h3
      injection h3 with h3
      subst h3
      exact .inl h4
  · have h1 := k.many
    have h2 := h.few
    simp at h1 h2
    omega
  · rcases k.from_ c hc with h1 | h1
    · obtain ⟨x, h2, h3⟩ := h.from_ c (by simp [show c ∈ A from h1])
      exact ⟨x, k.old x h2, h3⟩
    · exact h1
/-- Some reference on the way leads nowhere. -/
def Lost (f : Int → Option Blk) (g : Blk → List Int) (rs : List Int) : Prop := ∃ x, Rch f g rs x ∧ f x = none
theorem Fnd.lost {f : Int → Option Blk} {g : Blk → List Int} {rs : List Int} {R : List Int} {A : List Blk} {b : Blk} {s' : List Int × List Blk} (h : Fnd f g rs (R, A ++ [b])) (k : Flw f (R, A) (g b) s' false) : Lost f g rs := by
  obtain ⟨x0, hx0, hf0⟩ := h.from_ b (by simp)
  obtain ⟨r, h1, h2, h3⟩ := k.bad rfl
  exact ⟨r, .next (h.rch x0 hx0) hf0 h1 h2, h3⟩
/-- Nothing is ahead: what was found is just what is reached. -/
theorem Fnd.done {f : Int → Option Blk} {g : Blk → List Int} {rs : List Int} {R : List Int} (h : Fnd f g rs (R, [])) (hr : ∀ r, r ∈ rs → r = 0 ∨ r ∈ R) : (∀ x, x ∈ R ↔ Rch f g rs x) ∧ ¬ Lost f g rs := by
  have h1 : ∀ x, Rch f g rs x → x ∈ R := by
    intro x hx
    induction hx with
    | root h1 h2 =>
      rcases hr _ h1 with h3 | h3
      · exact absurd h3 h2
      · exact h3
    | next _ h1 h2 h3 ih =>
      rcases h.cls _ ih _ h1 with h4 | h4
      · cases h4
      · rcases h4 _ h2 with h5 | h5
        · exact absurd h5 h3
        · exact h5
  refine ⟨fun x => ⟨h.rch x, h1 x⟩, fun ⟨x, h2, h3⟩ => h.dom x (h1 x h2) h3⟩
theorem nodup_le : ∀ (l D : List Int), l.Nodup → (∀ x, x ∈ l → x ∈ D) → l.length ≤ D.length
  | [], D, _, _ => Nat.zero_le _
  | a :: l, D, h, hs => by
    obtain ⟨h1, h2⟩ := List.nodup_cons.1 h
    have h3 : a ∈ D := hs a (by simp)
    have h4 := nodup_le l (D.erase a) h2 (fun x hx => by
      have h5 : x ≠ a := fun e => h1 (e ▸ hx)
      exact (List.mem_erase_of_ne h5).2 (hs x (by simp [hx])))
    rw [List.length_erase_of_mem h3] at h4
    have h6 := List.length_pos_of_mem h3
    simp only [List.length_cons]
    omega
/-- There are no more that were found than addresses. -/
theorem Fnd.bound {f : Int → Option Blk} {g : Blk → List Int} {rs : List Int} {s : List Int × List Blk} (h : Fnd f g rs s) {D : List Int} (hd : ∀ x, f x ≠ none → x ∈ D) : s.1.length ≤ D.length :=
  nodup_le _ _ h.nodup (fun x hx => hd x (h.dom x hx))
end Go.Proofs.Ythigmechfcndcaa

/-
  The document's way of reaching, without memory: words ahead ('T'), what was reached (a list of bools beside the blocks). No Go is walked here.
-/
import Derived.Test.YthigmechfcndcaaBlocksReachW
namespace Go.Proofs.Ythigmechfcndcaa
set_option linter.unusedVariables false

/-- The addresses of the blocks that were reached. -/
def addrs : List Blk → List Bool → List Int
  | b :: bs, r :: rs => (if r then [b.t] else []) ++ addrs bs rs
  | _, _ => []
theorem mem_addrs (bs : List Blk) : ∀ (R : List Bool) (x : Int), x ∈ addrs bs R ↔ ∃ (i : Nat) (b : Blk), bs[i]? = some b ∧ R[i]? = some true ∧ b.t = x := by
  induction bs with
  | nil => intro R x; simp [addrs]
  | cons b bs ih =>
    intro R x
    cases R with
    | nil => simp [addrs]
    | cons r R =>
      unfold addrs
      rw [List.mem_append, ih]
      constructor
      · rintro (h | ⟨i, c, h1, h2, h3⟩)
        · cases r with
          | false => simp at h
          | true => simp at h; exact ⟨0, b, rfl, rfl, h.symm⟩
        · exact ⟨i + 1, c, by simpa using h1, by simpa using h2, h3⟩
      · rintro ⟨i, c, h1, h2, h3⟩
        cases i with
        | zero =>
          simp at h1 h2
          subst h1 h2
          exact .inl (by simp [h3])
        | succ i => exact .inr ⟨i, c, by simpa using h1, by simpa using h2, h3⟩

/-- The words that are not ahead yet. -/
def leftOf (g : Blk → List Int) : List Blk → List Bool → Nat
  | b :: bs, r :: rs => (if r then 0 else (g b).length) + leftOf g bs rs
  | _, _ => 0
theorem leftOf_set (g : Blk → List Int) (bs : List Blk) : ∀ (R : List Bool) (i : Nat) (b : Blk), bs[i]? = some b → R[i]? = some false → leftOf g bs (R.set i true) + (g b).length = leftOf g bs R := by
  induction bs with
  | nil => intro R i b h; simp at h
  | cons c bs ih =>
    intro R i b h1 h2
    cases R with
    | nil => simp at h2
    | cons r R =>
      cases i with
      | zero =>
        simp at h1 h2
        subst h1 h2
        simp [leftOf]
        omega
      | succ i =>
        have := ih R i b (by simpa using h1) (by simpa using h2)
        simp only [List.set_cons_succ, leftOf]
        omega
theorem leftOf_new (g : Blk → List Int) (bs : List Blk) (m : Nat) (hm : ∀ b, b ∈ bs → (g b).length ≤ m) : ∀ R : List Bool, leftOf g bs R ≤ m * bs.length := by
  induction bs with
  | nil => intro R; simp [leftOf]
  | cons b bs ih =>
    intro R
    cases R with
    | nil => simp [leftOf]
    | cons r R =>
      have h1 := ih (fun c hc => hm c (by simp [hc])) R
      have h2 := hm b (by simp)
      have h3 : m * (bs.length + 1) = m * bs.length + m := by rw [Nat.mul_add, Nat.mul_one]
      simp only [leftOf, List.length_cons, h3]
      split <;> omega

structure RInv (bs : List Blk) (g : Blk → List Int) (rs T : List Int) (R : List Bool) : Prop where
  len : R.length = bs.length
  obj : ∀ (i : Nat) b, bs[i]? = some b → R[i]? = some true → b.k ≠ 0 ∧ Rch (objOf bs) g rs b.t
  sound : ∀ r, r ∈ T → r ≠ 0 → Rch (objOf bs) g rs r
  roots : ∀ r, r ∈ rs → r = 0 ∨ r ∈ T ∨ r ∈ addrs bs R
  refs : ∀ (i : Nat) b, bs[i]? = some b → R[i]? = some true → ∀ y, y ∈ g b → y = 0 ∨ y ∈ T ∨ y ∈ addrs bs R

section
variable {bs : List Blk} {g : Blk → List Int} {rs T : List Int} {R : List Bool}
theorem rinv_new (bs : List Blk) (g : Blk → List Int) (rs : List Int) : RInv bs g rs rs (List.replicate bs.length false) where
  len := by simp
  obj := fun i b _ h => by rw [List.getElem?_replicate] at h; split at h <;> simp at h
  sound := fun r hr h0 => .root hr h0
  roots := fun r hr => .inr (.inl hr)
  refs := fun i b _ h => by rw [List.getElem?_replicate] at h; split at h <;> simp at h

theorem RInv.pop (h : RInv bs g rs T R) {r : Int} {T' : List Int} (e : T = r :: T') (hr : r = 0 ∨ r ∈ addrs bs R) : RInv bs g rs T' R := by
  subst e
  refine ⟨h.len, h.obj, fun x hx => h.sound x (by simp [hx]), fun x hx => ?_, fun i b hb hR y hy => ?_⟩
  · rcases h.roots x hx with h1 | h1 | h1
    · exact .inl h1
    · simp at h1
      rcases h1 with rfl | h1
      · rcases hr with hr | hr
        · exact .inl hr
        · exact .inr (.inr hr)
      · exact .inr (.inl h1)
    · exact .inr (.inr h1)
  · rcases h.refs i b hb hR y hy with h1 | h1 | h1
    · exact .inl h1
    · simp at h1
      rcases h1 with rfl | h1
      · rcases hr with hr | hr
        · exact .inl hr
        · exact .inr (.inr hr)
      · exact .inr (.inl h1)
    · exact .inr (.inr h1)

theorem RInv.mark (h : RInv bs g rs T R) {r : Int} {T' : List Int} (e : T = r :: T') (h0 : r ≠ 0) {i : Nat} {b : Blk} (hb : bs[i]? = some b) (hk : b.k ≠ 0) (ht : b.t = r) (ho : objOf bs r = some b) : RInv bs g rs (T' ++ g b) (R.set i true) := by
  subst e
  have hR : Rch (objOf bs) g rs r := h.sound r (by simp) h0
  have hi : i < R.length := by rw [h.len]; exact (List.getElem?_eq_some_iff.1 hb).1
  have hset : ∀ j : Nat, (R.set i true)[j]? = some true ↔ j = i ∨ R[j]? = some true := by
    intro j
    rw [List.getElem?_set]
    by_cases e : i = j
    · subst e; simp [hi]
    · simp [e, Ne.symm e]
  have hmono : ∀ x, x ∈ addrs bs R → x ∈ addrs bs (R.set i true) := fun x hx => by
    rw [mem_addrs] at hx ⊢
    obtain ⟨j, c, h1, h2, h3⟩ := hx
    exact ⟨j, c, h1, (hset j).2 (.inr h2), h3⟩
  have hr : r ∈ addrs bs (R.set i true) := (mem_addrs _ _ _).2 ⟨i, b, hb, (hset i).2 (.inl rfl), ht⟩
  have conv : ∀ x, (x = 0 ∨ x ∈ r :: T' ∨ x ∈ addrs bs R) → x = 0 ∨ x ∈ T' ++ g b ∨ x ∈ addrs bs (R.set i true) := fun x hx => by
    rcases hx with h1 | h1 | h1
    · exact .inl h1
    · simp at h1
      rcases h1 with rfl | h1
      · exact .inr (.inr hr)
      · exact .inr (.inl (by simp [h1]))
    · exact .inr (.inr (hmono x h1))
  refine ⟨by simp [h.len], fun j c hc hRj => ?_, fun x hx hx0 => ?_, fun x hx => conv x (h.roots x hx), fun j c hc hRj y hy => ?_⟩
  · rcases (hset j).1 hRj with rfl | h2
    · rw [hb] at hc; cases hc
      exact ⟨hk, by rw [ht]; exact hR⟩
    · exact h.obj j c hc h2
  · rcases List.mem_append.1 hx with h1 | h1
    · exact h.sound x (by simp [h1]) hx0
    · exact .next hR ho h1 hx0
  · rcases (hset j).1 hRj with rfl | h2
    · rw [hb] at hc; cases hc
      exact .inr (.inl (by simp [hy]))
    · exact conv y (h.refs j c hc h2 y hy)

theorem RInv.ends (h : RInv bs g rs [] R) (hp : bs.Pairwise (fun a b => a.t ≠ b.t)) : (∀ x, x ∈ addrs bs R ↔ Rch (objOf bs) g rs x) ∧ ¬ Lost (objOf bs) g rs := by
  have hf : ∀ x, x ∈ addrs bs R → ∃ (i : Nat) (b : Blk), bs[i]? = some b ∧ R[i]? = some true ∧ objOf bs x = some b := fun x hx => by
    obtain ⟨i, b, h1, h2, h3⟩ := (mem_addrs _ _ _).1 hx
    have h4 := objOf_mem bs (fun _ => none) hp b (List.mem_of_getElem? h1) (h.obj i b h1 h2).1
    exact ⟨i, b, h1, h2, by rw [← h3]; exact h4⟩
  have hall : ∀ x, Rch (objOf bs) g rs x → x ∈ addrs bs R := by
    intro x hx
    induction hx with
    | root hr h0 =>
      rcases h.roots _ hr with h1 | h1 | h1
      · exact absurd h1 h0
      · simp at h1
      · exact h1
    | next _ hfx hy h0 ih =>
      obtain ⟨i, b, h1, h2, h3⟩ := hf _ ih
      rw [hfx] at h3
      cases h3
      rcases h.refs i _ h1 h2 _ hy with h4 | h4 | h4
      · exact absurd h4 h0
      · simp at h4
      · exact h4
  refine ⟨fun x => ⟨fun hx => ?_, hall x⟩, fun ⟨x, hx, hn⟩ => ?_⟩
  · obtain ⟨i, b, h1, h2, h3⟩ := (mem_addrs _ _ _).1 hx
    rw [← h3]
    exact (h.obj i b h1 h2).2
  · obtain ⟨i, b, _, _, h3⟩ := hf x (hall x hx)
    rw [hn] at h3
    cases h3

theorem RInv.lost (h : RInv bs g rs T R) {r : Int} {T' : List Int} (e : T = r :: T') (h0 : r ≠ 0) (hn : objOf bs r = none) : Lost (objOf bs) g rs :=
  ⟨r, h.sound r (by rw [e]; simp) h0, hn⟩
end

/-- What is told, block by block. -/
def toldTo : List Blk → List Bool → List Int
  | b :: bs, r :: rs => (if r then [b.t] else []) ++ toldTo bs rs
  | _, _ => []
theorem told_take (bs : List Blk) : ∀ (R : List Bool) (k : Nat) (b : Blk) (r : Bool), bs[k]? = some b → R[k]? = some r → toldTo (bs.take (k + 1)) (R.take (k + 1)) = toldTo (bs.take k) (R.take k) ++ if r then [b.t] else [] := by
  induction bs with
  | nil => intro R k b r h; simp at h
  | cons c bs ih =>
    intro R k b r h1 h2
    cases R with
    | nil => simp at h2
    | cons q R =>
      cases k with
      | zero =>
        simp at h1 h2
        subst h1 h2
        simp [toldTo]
      | succ k =>
        have := ih R k b r (by simpa using h1) (by simpa using h2)
        simp only [List.take_succ_cons, toldTo] at this ⊢
        rw [this, List.append_assoc]
theorem told_all (bs : List Blk) : ∀ (R : List Bool), R.length = bs.length → bs.Pairwise (fun a b => a.t ≠ b.t) → ∀ S : List Int, (∀ (i : Nat) b, bs[i]? = some b → (b.t ∈ S ↔ R[i]? = some true)) → toldTo bs R = toldOf bs S := by
  induction bs with
  | nil => intro R _ _ S _; simp [toldTo, toldOf]
  | cons c bs ih =>
    intro R hl hp S hS
    cases R with
    | nil => simp at hl
    | cons q R =>
      obtain ⟨_, hp2⟩ := List.pairwise_cons.1 hp
      have h1 := ih R (by simpa using hl) hp2 S (fun i b hb => by simpa using hS (i + 1) b (by simpa using hb))
      have h2 := hS 0 c rfl
      unfold toldTo toldOf
      rw [h1]
      simp at h2
      by_cases hc : c.t ∈ S
      · have : q = true := h2.1 hc
        simp [hc, this, toldOf]
      · have : q = false := by cases q with
          | false => rfl
          | true => exact absurd (h2.2 rfl) hc
        simp [hc, this, toldOf]
theorem told_addrs {bs : List Blk} {R : List Bool} (hl : R.length = bs.length) (hp : bs.Pairwise (fun a b => a.t ≠ b.t)) : toldTo bs R = toldOf bs (addrs bs R) := by
  refine told_all bs R hl hp _ (fun i b hb => ?_)
  rw [mem_addrs]
  constructor
  · rintro ⟨j, c, h1, h2, h3⟩
    have : i = j := Classical.byContradiction fun hne => by
      have hi := (List.getElem?_eq_some_iff.1 hb)
      have hj := (List.getElem?_eq_some_iff.1 h1)
      obtain ⟨hi1, hi2⟩ := hi
      obtain ⟨hj1, hj2⟩ := hj
      rcases Nat.lt_or_gt_of_ne hne with h4 | h4
      · have := List.pairwise_iff_getElem.1 hp i j hi1 hj1 h4
        rw [hi2, hj2] at this
        exact this h3.symm
      · have := List.pairwise_iff_getElem.1 hp j i hj1 hi1 h4
        rw [hi2, hj2] at this
        exact this h3
    subst this
    exact h2
  · intro h
    exact ⟨i, b, hb, h, rfl⟩
theorem toldOf_congr (bs : List Blk) {R S : List Int} (h : ∀ x, x ∈ R ↔ x ∈ S) : toldOf bs R = toldOf bs S := by
  unfold toldOf
  congr 1
  apply List.filter_congr
  intro b _
  simp [h]
end Go.Proofs.Ythigmechfcndcaa

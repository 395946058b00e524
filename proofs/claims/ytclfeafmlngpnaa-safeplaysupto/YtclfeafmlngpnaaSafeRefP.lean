/-
  The document's threads, as two lists side by side: without memory.
-/
import Derived.Test.YtclfeafmlngpnaaSafeStandsP
namespace Go.Proofs.Ytclfeafmlngpnaa
set_option linter.unusedVariables false

def fsts (L : Th) : List Int := L.map Prod.fst
def snds (L : Th) : List Int := L.map Prod.snd
theorem fsts_length (L : Th) : (fsts L).length = L.length := by simp [fsts]
theorem snds_length (L : Th) : (snds L).length = L.length := by simp [snds]
theorem fsts_get {L : Th} {k : Nat} {p : Int × Int} (h : L[k]? = some p) : (fsts L)[k]? = some p.1 := by simp [fsts, h]
theorem snds_get {L : Th} {k : Nat} {p : Int × Int} (h : L[k]? = some p) : (snds L)[k]? = some p.2 := by simp [snds, h]
theorem fsts_in64 {L : Th} (hL : Ok L) : ∀ x, x ∈ fsts L → In64 x := fun x hx => by
  obtain ⟨p, hp, rfl⟩ := List.mem_map.1 hx
  exact (hL.ok p hp).2.2
theorem snds_in64 {L : Th} (hL : Ok L) : ∀ x, x ∈ snds L → In64 x := fun x hx => by
  obtain ⟨p, hp, rfl⟩ := List.mem_map.1 hx
  have := hL.ok p hp
  unfold In64
  omega

/-- A thread's place. -/
def pos : Th → Int → Nat
  | [], _ => 0
  | p :: L, x => if p.1 = x then 0 else pos L x + 1
def findI (L : Th) (x : Int) : Int := if st L x = 0 then -1 else (pos L x : Int)
theorem pos_some {L : Th} {x : Int} (h : st L x ≠ 0) : L[pos L x]? = some (x, st L x) := by
  induction L with
  | nil => exact absurd rfl h
  | cons p L ih =>
    unfold st at h ⊢
    unfold pos
    by_cases hp : p.1 = x
    · rw [if_pos hp, if_pos hp]
      simp [← hp]
    · rw [if_neg hp] at h
      rw [if_neg hp, if_neg hp]
      simpa using ih h
theorem pos_lt {L : Th} {x : Int} (h : st L x ≠ 0) : pos L x < L.length := (List.getElem?_eq_some_iff.1 (pos_some h)).1
theorem pos_eq {L : Th} {x : Int} {k : Nat} {p : Int × Int} (h : ∀ (i : Nat) (q : Int × Int), i < k → L[i]? = some q → q.1 ≠ x) (hk : L[k]? = some p) (hp : p.1 = x) : pos L x = k ∧ st L x = p.2 := by
  induction L generalizing k with
  | nil => simp at hk
  | cons q L ih =>
    unfold pos st
    cases k with
    | zero =>
      simp at hk
      subst hk
      rw [if_pos hp, if_pos hp]
      exact ⟨rfl, rfl⟩
    | succ k =>
      have hq := h 0 q (by omega) rfl
      rw [if_neg hq, if_neg hq]
      obtain ⟨h1, h2⟩ := ih (k := k) (fun i r hi hr => h (i + 1) r (by omega) (by simpa using hr)) (by simpa using hk)
      exact ⟨by rw [h1], h2⟩
theorem pos_none {L : Th} {x : Int} (h : ∀ (i : Nat) (q : Int × Int), L[i]? = some q → q.1 ≠ x) : st L x = 0 := st_none fun p hp => by
  obtain ⟨i, hi⟩ := List.mem_iff_getElem?.1 hp
  exact h i p hi

/-- How many stand ahead. -/
def low : Th → Int → Nat
  | [], _ => 0
  | p :: L, x => if p.1 < x then low L x + 1 else 0
theorem low_le (L : Th) (x : Int) : low L x ≤ L.length := by
  induction L with
  | nil => exact Nat.le_refl _
  | cons p L ih =>
    unfold low
    split
    · simp; exact ih
    · simp
theorem ins_low (L : Th) (x s : Int) : ins x s L = L.take (low L x) ++ (x, s) :: L.drop (low L x) := by
  induction L with
  | nil => rfl
  | cons p L ih =>
    unfold ins low
    split
    · rw [ih]
      simp
    · simp
theorem low_lt {L : Th} {x : Int} {k : Nat} {p : Int × Int} (h : ∀ (i : Nat) (q : Int × Int), i < k → L[i]? = some q → q.1 < x) (hk : L[k]? = some p) (hp : ¬ p.1 < x) : low L x = k := by
  induction L generalizing k with
  | nil => simp at hk
  | cons q L ih =>
    unfold low
    cases k with
    | zero =>
      simp at hk
      subst hk
      rw [if_neg hp]
    | succ k =>
      rw [if_pos (h 0 q (by omega) rfl), ih (k := k) (fun i r hi hr => h (i + 1) r (by omega) (by simpa using hr)) (by simpa using hk)]
theorem low_all {L : Th} {x : Int} (h : ∀ (i : Nat) (q : Int × Int), L[i]? = some q → q.1 < x) : low L x = L.length := by
  induction L with
  | nil => rfl
  | cons q L ih =>
    unfold low
    rw [if_pos (h 0 q rfl), ih (fun i r hr => h (i + 1) r (by simpa using hr))]
    rfl

theorem del_pos {L : Th} (hL : Ok L) {x : Int} (h : st L x ≠ 0) : del x L = L.take (pos L x) ++ L.drop (pos L x + 1) := by
  induction L with
  | nil => exact absurd rfl h
  | cons p L ih =>
    unfold st at h
    unfold pos del
    rw [List.filter_cons]
    by_cases hp : p.1 = x
    · rw [if_neg (by simp [hp]), if_pos hp]
      simp
      intro a b hab e
      have := (List.pairwise_cons.1 hL.srt).1 (a, b) hab
      simp at this
      omega
    · rw [if_neg hp] at h
      rw [if_pos (by simp [hp]), if_neg hp]
      have h2 := ih hL.tail h
      unfold del at h2
      rw [h2]
      simp
theorem upd_pos {L : Th} (hL : Ok L) {x s : Int} (h : st L x ≠ 0) : snds (upd x s L) = (snds L).set (pos L x) s := by
  induction L with
  | nil => exact absurd rfl h
  | cons p L ih =>
    unfold st at h
    unfold pos
    by_cases hp : p.1 = x
    · rw [if_pos hp]
      have htail : upd x s L = L := by
        unfold upd
        rw [List.map_congr_left (g := id) (fun q hq => ?_)]
        · simp
        · have := (List.pairwise_cons.1 hL.srt).1 q hq
          rw [if_neg (by omega)]
          rfl
      show snds (upd x s (p :: L)) = _
      unfold upd at htail ⊢
      rw [List.map_cons, if_pos hp, htail]
      rfl
    · rw [if_neg hp] at h
      rw [if_neg hp]
      have h2 := ih hL.tail h
      unfold upd at h2 ⊢
      rw [List.map_cons, if_neg hp]
      show p.2 :: snds _ = (p.2 :: snds L).set _ s
      rw [h2]
      rfl
theorem upd_fsts (L : Th) (x s : Int) : fsts (upd x s L) = fsts L := upd_fst L x s
theorem resL_fsts (L : Th) : fsts (resL L) = fsts L := resL_fst L
theorem del_none {L : Th} (hL : Ok L) {x : Int} (h : st L x = 0) : del x L = L :=
  List.filter_eq_self.2 (fun p hp => by have := st_zero hL h p hp; simp [this])

/-- In, by one thread more. -/
theorem inL_take {l : List Int} {L : Th} {k : Nat} {p : Int × Int} (h : L[k]? = some p) : inL l (L.take (k + 1)) = if (l.isEmpty || decide (p.2 ∈ l)) then inL l (L.take k) ++ [p.1] else inL l (L.take k) := by
  rw [take_snoc h]
  unfold inL those
  rw [List.filter_append, List.map_append]
  cases hq : (l.isEmpty || decide (p.2 ∈ l)) <;> simp [hq]
theorem still_in {L : Th} : still L = decide (inL [1] L = []) := by
  unfold still inL those
  induction L with
  | nil => rfl
  | cons p L ih =>
    simp only [List.all_cons, ih]
    by_cases h : p.2 = 1 <;> simp [h]
/-- The first k have been let go on. -/
def resK (L : Th) (k : Nat) : Th := resL (L.take k) ++ L.drop k
theorem resK_zero (L : Th) : resK L 0 = L := by simp [resK, resL]
theorem resK_all (L : Th) : resK L L.length = resL L := by simp [resK]
theorem resK_fsts (L : Th) (k : Nat) : fsts (resK L k) = fsts L := by
  unfold resK fsts
  rw [List.map_append, show (resL (L.take k)).map Prod.fst = (L.take k).map Prod.fst from resL_fst _, ← List.map_append, List.take_append_drop]
theorem resK_length (L : Th) (k : Nat) : (resK L k).length = L.length := by
  have := congrArg List.length (resK_fsts L k)
  simpa [fsts] using this
theorem resK_ok {L : Th} (hL : Ok L) (k : Nat) : Ok (resK L k) := by
  refine ⟨srt_fst.2 (by have e := resK_fsts L k; unfold fsts at e; rw [e]; exact srt_fst.1 hL.srt), fun p hp => ?_⟩
  rcases List.mem_append.1 hp with h | h
  · obtain ⟨q, hq, rfl⟩ := List.mem_map.1 h
    have h1 := hL.ok q (List.mem_of_mem_take hq)
    split
    · exact ⟨by simp, by simp, h1.2.2⟩
    · exact h1
  · exact hL.ok p (List.mem_of_mem_drop h)
theorem resK_get {L : Th} {k : Nat} {p : Int × Int} (h : L[k]? = some p) : (resK L k)[k]? = some p := by
  have hl := (List.getElem?_eq_some_iff.1 h).1
  unfold resK
  have e : (resL (L.take k)).length = k := by simp [resL]; omega
  rw [List.getElem?_append_right (by omega), e, Nat.sub_self, List.getElem?_drop, Nat.add_zero]
  exact h
theorem resK_succ {L : Th} {k : Nat} {p : Int × Int} (h : L[k]? = some p) : snds (resK L (k + 1)) = if p.2 = 2 then (snds (resK L k)).set k 1 else snds (resK L k) := by
  obtain ⟨hl, hp⟩ := List.getElem?_eq_some_iff.1 h
  have e : (snds (resL (L.take k))).length = k := by simp [snds, resL]; omega
  have e1 : snds (resK L k) = snds (resL (L.take k)) ++ p.2 :: snds (L.drop (k + 1)) := by
    unfold resK snds
    rw [List.map_append, List.drop_eq_getElem_cons hl, List.map_cons, hp]
  have e2 : snds (resK L (k + 1)) = snds (resL (L.take k)) ++ (if p.2 = 2 then 1 else p.2) :: snds (L.drop (k + 1)) := by
    unfold resK snds
    rw [take_snoc h]
    unfold resL
    rw [List.map_append, List.map_append, List.map_append]
    by_cases h2 : p.2 = 2 <;> simp [h2]
  rw [e1, e2]
  by_cases h2 : p.2 = 2
  · rw [if_pos h2, if_pos h2]
    rw [List.set_append_right _ _ (by omega), e, Nat.sub_self]
    rfl
  · rw [if_neg h2, if_neg h2]
end Go.Proofs.Ytclfeafmlngpnaa

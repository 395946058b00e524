/-
  Threads and their states without memory: a list of threads, rising, each with its state. No Go is walked here.
-/
import Derived.Test.YtclfeafmlngpnaaFrames
namespace Go.Proofs.Ytclfeafmlngpnaa
set_option linter.unusedVariables false

abbrev Th := List (Int × Int)

/-- A thread's state; 0: it isn't there. -/
def st : Th → Int → Int
  | [], _ => 0
  | p :: L, x => if p.1 = x then p.2 else st L x
/-- A thread comes, at its place. -/
def ins (x s : Int) : Th → Th
  | [] => [(x, s)]
  | p :: L => if p.1 < x then p :: ins x s L else (x, s) :: p :: L
/-- It goes. -/
def del (x : Int) (L : Th) : Th := L.filter fun p => decide (p.1 ≠ x)
/-- Its state is another one. -/
def upd (x s : Int) (L : Th) : Th := L.map fun p => if p.1 = x then (x, s) else p
/-- Those whose states are such. -/
def those (q : Int → Bool) (L : Th) : List Int := (L.filter fun p => q p.2).map Prod.fst

structure Ok (L : Th) : Prop where
  srt : L.Pairwise fun p q => p.1 < q.1
  ok : ∀ p, p ∈ L → 1 ≤ p.2 ∧ p.2 ≤ 3 ∧ -9223372036854775808 ≤ p.1 ∧ p.1 ≤ 9223372036854775807

theorem Ok.nil : Ok [] := ⟨List.Pairwise.nil, fun _ h => by cases h⟩
theorem Ok.tail {p : Int × Int} {L : Th} (h : Ok (p :: L)) : Ok L := ⟨(List.pairwise_cons.1 h.srt).2, fun q hq => h.ok q (List.mem_cons_of_mem _ hq)⟩

theorem st_none {L : Th} {x : Int} (h : ∀ p, p ∈ L → p.1 ≠ x) : st L x = 0 := by
  induction L with
  | nil => rfl
  | cons p L ih =>
    unfold st
    rw [if_neg (h p (by simp))]
    exact ih fun q hq => h q (List.mem_cons_of_mem _ hq)
theorem st_mem {L : Th} {x : Int} (h : st L x ≠ 0) : (x, st L x) ∈ L := by
  induction L with
  | nil => exact absurd rfl h
  | cons p L ih =>
    unfold st at h ⊢
    by_cases hp : p.1 = x
    · rw [if_pos hp]
      exact List.mem_cons.2 (.inl (by rw [← hp]))
    · rw [if_neg hp] at h ⊢
      exact List.mem_cons_of_mem _ (ih h)
theorem st_of_mem {L : Th} (hL : Ok L) {p : Int × Int} (h : p ∈ L) : st L p.1 = p.2 := by
  induction L with
  | nil => cases h
  | cons q L ih =>
    unfold st
    rcases List.mem_cons.1 h with rfl | h1
    · rw [if_pos rfl]
    · have := (List.pairwise_cons.1 hL.srt).1 p h1
      rw [if_neg (by omega)]
      exact ih hL.tail h1
theorem st_zero {L : Th} (hL : Ok L) {x : Int} (h : st L x = 0) : ∀ p, p ∈ L → p.1 ≠ x := by
  intro p hp e
  have h1 := st_of_mem hL hp
  have h2 := (hL.ok p hp).1
  rw [e] at h1
  omega
theorem st_range {L : Th} (hL : Ok L) (x : Int) : 0 ≤ st L x ∧ st L x ≤ 3 := by
  by_cases h : st L x = 0
  · omega
  · have := hL.ok _ (st_mem h)
    omega
theorem st_in64 {L : Th} (hL : Ok L) {x : Int} (h : st L x ≠ 0) : -9223372036854775808 ≤ x ∧ x ≤ 9223372036854775807 := (hL.ok _ (st_mem h)).2.2

theorem st_ins (L : Th) (x s y : Int) : st (ins x s L) y = if y = x then s else st L y := by
  induction L with
  | nil =>
    unfold ins
    simp only [st]
    by_cases h : x = y
    · rw [if_pos h, if_pos h.symm]
    · rw [if_neg h, if_neg (fun e => h e.symm)]
  | cons p L ih =>
    unfold ins
    by_cases hp : p.1 < x
    · rw [if_pos hp]
      simp only [st]
      rw [ih]
      by_cases h : p.1 = y
      · rw [if_pos h, if_neg (by omega), if_pos h]
      · rw [if_neg h, if_neg h]
    · rw [if_neg hp]
      simp only [st]
      by_cases h : x = y
      · rw [if_pos h, if_pos h.symm]
      · have h' : ¬ y = x := fun e => h e.symm
        simp [h, h']
theorem mem_ins {L : Th} {x s : Int} {p : Int × Int} : p ∈ ins x s L ↔ p = (x, s) ∨ p ∈ L := by
  induction L with
  | nil => simp [ins]
  | cons q L ih =>
    unfold ins
    split
    · rw [List.mem_cons, ih, List.mem_cons]
      constructor
      · rintro (h | h | h) <;> simp [h]
      · rintro (h | h | h) <;> simp [h]
    · simp
theorem ins_length (L : Th) (x s : Int) : (ins x s L).length = L.length + 1 := by
  induction L with
  | nil => rfl
  | cons q L ih =>
    unfold ins
    split
    · simp [ih]
    · simp
theorem Ok.ins {L : Th} (hL : Ok L) {x s : Int} (hx : st L x = 0) (hs : 1 ≤ s ∧ s ≤ 3) (h64 : -9223372036854775808 ≤ x ∧ x ≤ 9223372036854775807) : Ok (ins x s L) := by
  have hn := st_zero hL hx
  refine ⟨?_, fun p hp => ?_⟩
  · clear hx
    induction L with
    | nil => exact List.pairwise_singleton _ _
    | cons q L ih =>
      unfold Proofs.Ytclfeafmlngpnaa.ins
      have h1 := List.pairwise_cons.1 hL.srt
      split
      · rename_i hq
        refine List.pairwise_cons.2 ⟨fun p hp => ?_, ih hL.tail (fun p hp => hn p (List.mem_cons_of_mem _ hp))⟩
        rcases mem_ins.1 hp with rfl | hp
        · exact hq
        · exact h1.1 p hp
      · rename_i hq
        have hqx := hn q (by simp)
        refine List.pairwise_cons.2 ⟨fun p hp => ?_, hL.srt⟩
        rcases List.mem_cons.1 hp with rfl | hp
        · show x < p.1
          omega
        · have := h1.1 p hp
          show x < p.1
          omega
  · rcases mem_ins.1 hp with rfl | hp
    · exact ⟨hs.1, hs.2, h64⟩
    · exact hL.ok p hp

theorem st_del (L : Th) (x y : Int) : st (del x L) y = if y = x then 0 else st L y := by
  induction L with
  | nil => simp [del, st]
  | cons p L ih =>
    unfold del at ih ⊢
    rw [List.filter_cons]
    by_cases hp : p.1 = x
    · rw [if_neg (by simp [hp]), ih]
      simp only [st]
      by_cases h : y = x
      · rw [if_pos h, if_pos h]
      · rw [if_neg h, if_neg h, if_neg (by omega)]
    · rw [if_pos (by simp [hp])]
      simp only [st]
      rw [ih]
      by_cases h : p.1 = y
      · rw [if_pos h, if_neg (by omega), if_pos h]
      · rw [if_neg h, if_neg h]
theorem Ok.del {L : Th} (hL : Ok L) (x : Int) : Ok (del x L) :=
  ⟨List.Pairwise.filter _ hL.srt, fun p hp => hL.ok p (List.mem_filter.1 hp).1⟩
theorem del_length (L : Th) (x : Int) : (del x L).length ≤ L.length := List.length_filter_le _ _

theorem st_upd_other (L : Th) {x s y : Int} (h : y ≠ x) : st (upd x s L) y = st L y := by
  induction L with
  | nil => rfl
  | cons p L ih =>
    unfold upd at ih ⊢
    rw [List.map_cons]
    simp only [st]
    rw [ih]
    by_cases hp : p.1 = x
    · rw [if_pos hp, if_neg (by show ¬ x = y; omega), if_neg (by omega)]
    · rw [if_neg hp]
theorem st_upd_same {L : Th} {x s : Int} (h : st L x ≠ 0) : st (upd x s L) x = s := by
  induction L with
  | nil => exact absurd rfl h
  | cons p L ih =>
    unfold upd at ih ⊢
    rw [List.map_cons]
    simp only [st] at h ⊢
    by_cases hp : p.1 = x
    · rw [if_pos hp, if_pos rfl]
    · rw [if_neg hp] at h
      rw [if_neg hp, if_neg hp]
      exact ih h
theorem st_upd {L : Th} {x : Int} (h : st L x ≠ 0) (s y : Int) : st (upd x s L) y = if y = x then s else st L y := by
  by_cases hy : y = x
  · rw [if_pos hy, hy]
    exact st_upd_same h
  · rw [if_neg hy]
    exact st_upd_other L hy
theorem upd_fst (L : Th) (x s : Int) : (upd x s L).map Prod.fst = L.map Prod.fst := by
  unfold upd
  rw [List.map_map]
  refine List.map_congr_left fun p _ => ?_
  show (if p.1 = x then (x, s) else p).1 = p.1
  split
  · rename_i h
    exact h.symm
  · rfl
theorem upd_length (L : Th) (x s : Int) : (upd x s L).length = L.length := by simp [upd]
theorem srt_fst {L : Th} : (L.Pairwise fun p q => p.1 < q.1) ↔ (L.map Prod.fst).Pairwise (· < ·) := (List.pairwise_map (f := Prod.fst) (R := fun a b : Int => a < b)).symm
theorem Ok.upd {L : Th} (hL : Ok L) (x : Int) {s : Int} (hs : 1 ≤ s ∧ s ≤ 3) : Ok (upd x s L) := by
  refine ⟨srt_fst.2 (by rw [upd_fst]; exact srt_fst.1 hL.srt), fun p hp => ?_⟩
  obtain ⟨q, hq, rfl⟩ := List.mem_map.1 hp
  have h1 := hL.ok q hq
  split
  · rename_i h
    exact ⟨hs.1, hs.2, by rw [← h]; exact h1.2.2⟩
  · exact h1

theorem mem_those {L : Th} (hL : Ok L) {q : Int → Bool} {x : Int} : x ∈ those q L ↔ st L x ≠ 0 ∧ q (st L x) = true := by
  unfold those
  constructor
  · intro h
    obtain ⟨p, hp, rfl⟩ := List.mem_map.1 h
    obtain ⟨h1, h2⟩ := List.mem_filter.1 hp
    rw [st_of_mem hL h1]
    have := (hL.ok p h1).1
    exact ⟨by omega, h2⟩
  · rintro ⟨h1, h2⟩
    exact List.mem_map.2 ⟨_, List.mem_filter.2 ⟨st_mem h1, h2⟩, rfl⟩
theorem those_srt {L : Th} (hL : Ok L) (q : Int → Bool) : (those q L).Pairwise (· < ·) :=
  srt_fst.1 (List.Pairwise.filter _ hL.srt)
theorem those_length (L : Th) (q : Int → Bool) : (those q L).length ≤ L.length := by
  unfold those
  rw [List.length_map]
  exact List.length_filter_le _ _
theorem nodup_of_srt {l : List Int} (h : l.Pairwise (· < ·)) : l.Nodup := h.imp fun h => by omega
theorem those_in64 {L : Th} (hL : Ok L) {q : Int → Bool} {x : Int} (h : x ∈ those q L) : -9223372036854775808 ≤ x ∧ x ≤ 9223372036854775807 := st_in64 hL ((mem_those hL).1 h).1

/-- Whatever was gathered in whatever order: sorted, it is those. -/
theorem sort_those {L : Th} (hL : Ok L) {q : Int → Bool} {ss : List Int} (hnd : ss.Nodup) (hm : ∀ x, x ∈ ss ↔ x ∈ those q L) : (ss.mergeSort fun x y => decide (x ≤ y)) = those q L := by
  have hp : ss.Perm (those q L) := (List.perm_ext_iff_of_nodup hnd (nodup_of_srt (those_srt hL q))).2 hm
  refine List.Perm.eq_of_pairwise (le := fun a b : Int => a ≤ b) (fun a b _ _ h1 h2 => by omega) ?_ ((those_srt hL q).imp fun h => by omega) ((List.mergeSort_perm ss _).trans hp)
  have h := List.pairwise_mergeSort (le := fun x y : Int => decide (x ≤ y)) (fun a b c h1 h2 => by simp at *; omega) (fun a b => by simp; omega) ss
  exact h.imp fun h => by simpa using h

/-- Two that tell the same of each thread are the same. -/
theorem Ok.ext {L M : Th} (hL : Ok L) (hM : Ok M) (h : ∀ x, st L x = st M x) : L = M := by
  have key : ∀ {A B : Th}, Ok A → Ok B → (∀ x, st A x = st B x) → ∀ p, p ∈ A → p ∈ B := by
    intro A B hA hB hh p hp
    have h1 := st_of_mem hA hp
    have h2 := (hA.ok p hp).1
    have h3 : st B p.1 ≠ 0 := by rw [← hh, h1]; omega
    have h4 := st_mem h3
    rw [← hh, h1] at h4
    exact h4
  have nd : ∀ {A : Th}, Ok A → A.Nodup := fun hA => hA.srt.imp fun {p q} h e => by rw [e] at h; omega
  have hp : L.Perm M := (List.perm_ext_iff_of_nodup (nd hL) (nd hM)).2 fun p => ⟨key hL hM h p, key hM hL (fun x => (h x).symm) p⟩
  exact List.Perm.eq_of_pairwise (le := fun p q : Int × Int => p.1 < q.1) (fun a b _ _ h1 h2 => by omega) hL.srt hM.srt hp
end Go.Proofs.Ytclfeafmlngpnaa

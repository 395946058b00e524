/-
  Nobody runs: what keeps it, without memory.
-/
import Derived.Test.YtclfeafmlngpnaaSafeAwake
namespace Go.Proofs.Ytclfeafmlngpnaa
set_option linter.unusedVariables false

/-- Nobody runs. -/
def NR (L : Th) : Prop := ∀ x, st L x ≠ 1
theorem NR.still {L : Th} (h : NR L) (hL : Ok L) : still L = true := (still_iff hL).2 h
theorem cntR_fst {q : Th → Int → Bool} {F : Th → Int → Th} {P : Th → Prop} (hF : ∀ M x, P M → P (F M x)) {L : Th} (h : P L) (l : List Int) : P (cntR q F L l).1 := by
  have key : ∀ (l : List Int) (p : Th × Nat), P p.1 → P (l.foldl (cntF q F) p).1 := by
    intro l
    induction l with
    | nil => intro p hp; exact hp
    | cons x l ih => intro p hp; exact ih _ (hF _ _ hp)
  exact key l (L, 0) h
theorem NR.add {L : Th} (h : NR L) (l : List Int) : NR (addR true L l).1 :=
  cntR_fst (P := NR) (fun M x hM => by
    unfold addL
    split
    · intro y
      rw [st_ins]
      split
      · simp [come]
      · exact hM y
    · exact hM) h l
theorem NR.end_ {L : Th} (h : NR L) (l : List Int) : NR (endR L l).1 :=
  cntR_fst (P := NR) (fun M x hM => by
    intro y
    rw [st_del]
    split
    · omega
    · exact hM y) h l
theorem NR.free {L : Th} (h : NR L) (x : Int) : NR (freeL L true x) := by
  unfold freeL
  split
  · rename_i h3
    intro y
    rw [st_upd (by omega)]
    split
    · simp [come]
    · exact h y
  · exact h
theorem NR.hold {L : Th} (h : NR L) (x : Int) : holdL L x = L := by
  unfold holdL
  rw [if_neg (h x)]
theorem NR.poll {L : Th} (h : NR L) (ar : Bool) (x : Int) : pollL L ar x = L := by
  have := h x
  simp [pollL, polls, this]
theorem NR.polls {L : Th} (h : NR L) (ar : Bool) (x : Int) : polls L ar x = false := by
  have := h x
  simp [Proofs.Ytclfeafmlngpnaa.polls, this]
theorem add_length (ar : Bool) (L : Th) (l : List Int) : (addR ar L l).1.length ≤ L.length + l.length := by
  have key : ∀ (l : List Int) (p : Th × Nat), (l.foldl (cntF isNew (addL ar)) p).1.length ≤ p.1.length + l.length := by
    intro l
    induction l with
    | nil => intro p; simp
    | cons x l ih =>
      intro p
      rw [List.foldl_cons]
      refine Nat.le_trans (ih _) ?_
      have : (cntF isNew (addL ar) p x).1.length ≤ p.1.length + 1 := addL_length ar p.1 x
      simp
      omega
  exact key l (L, 0)
theorem end_length (L : Th) (l : List Int) : (endR L l).1.length ≤ L.length :=
  cntR_fst (P := fun M => M.length ≤ L.length) (fun M x hM => Nat.le_trans (del_length M x) hM) (Nat.le_refl _) l
theorem free_length (L : Th) (ar : Bool) (x : Int) : (freeL L ar x).length = L.length := by
  unfold freeL
  split
  · rw [upd_length]
  · rfl
theorem hold_length (L : Th) (x : Int) : (holdL L x).length = L.length := by
  unfold holdL
  split
  · rw [upd_length]
  · rfl
theorem poll_length (L : Th) (ar : Bool) (x : Int) : (pollL L ar x).length = L.length := by
  unfold pollL
  split
  · rw [upd_length]
  · rfl

theorem srt_ext {l r : List Int} (hl : l.Pairwise (· < ·)) (hr : r.Pairwise (· < ·)) (h : ∀ x, x ∈ l ↔ x ∈ r) : l = r :=
  List.Perm.eq_of_pairwise (le := fun a b : Int => a < b) (fun a b _ _ h1 h2 => by omega) hl hr ((List.perm_ext_iff_of_nodup (nodup_of_srt hl) (nodup_of_srt hr)).2 h)
theorem mem_inL {L : Th} (hL : Ok L) {l : List Int} {x : Int} : x ∈ inL l L ↔ st L x ≠ 0 ∧ (l = [] ∨ st L x ∈ l) := by
  unfold inL
  rw [mem_those hL]
  cases l with
  | nil => simp
  | cons y l => simp
theorem NR.resumed {L : Th} (h : NR L) (hL : Ok L) : inL [1] (resL L) = parked L ∧ inL [2] (resL L) = [] := by
  have hR := resL_ok hL
  refine ⟨srt_ext (those_srt hR _) (show (inL [2] L).Pairwise (· < ·) from those_srt hL _) fun x => ?_, ?_⟩
  · rw [mem_inL hR, mem_parked hL, resL_st hL]
    have := h x
    by_cases h2 : st L x = 2
    · simp [h2]
    · simp [h2, this]
  · refine List.eq_nil_iff_forall_not_mem.2 fun x hx => ?_
    rw [mem_inL hR, resL_st hL] at hx
    by_cases h2 : st L x = 2
    · simp [h2] at hx
    · simp [h2] at hx
theorem NR.none {L : Th} (h : NR L) (hL : Ok L) : inL [1] L = [] := by
  refine List.eq_nil_iff_forall_not_mem.2 fun x hx => ?_
  rw [mem_inL hL] at hx
  have := h x
  simp [this] at hx
theorem in_in64 {L : Th} (hL : Ok L) (l : List Int) : ∀ x, x ∈ inL l L → In64 x := fun x hx => st_in64 hL ((mem_inL hL).1 hx).1
theorem in_length (L : Th) (l : List Int) : (inL l L).length ≤ L.length := those_length _ _

/-- Threads 1 to i, whatever they do. -/
structure One (i : Nat) (L : Th) : Prop where
  only : ∀ x, st L x ≠ 0 → 1 ≤ x ∧ x ≤ i
  len : L.length ≤ i
theorem One.nil : One 0 [] := ⟨fun x h => absurd rfl h, by simp⟩
theorem One.fresh {i : Nat} {L : Th} (h : One i L) : st L ((i : Int) + 1) = 0 := by
  by_cases h1 : st L ((i : Int) + 1) = 0
  · exact h1
  · have := h.only _ h1
    omega
theorem One.add {i : Nat} {L : Th} (h : One i L) : One (i + 1) (addR false L [(i : Int) + 1]).1 ∧ st (addR false L [(i : Int) + 1]).1 ((i : Int) + 1) = 1 := by
  have e : (addR false L [(i : Int) + 1]).1 = ins ((i : Int) + 1) 1 L := by
    show addL false L ((i : Int) + 1) = _
    unfold addL
    rw [if_pos h.fresh]
    rfl
  rw [e]
  refine ⟨⟨fun x hx => ?_, by rw [ins_length]; have := h.len; omega⟩, by rw [st_ins, if_pos rfl]⟩
  rw [st_ins] at hx
  split at hx
  · omega
  · have := h.only x hx
    omega
theorem One.hold {i : Nat} {L : Th} (h : One i L) (x : Int) : One i (holdL L x) := by
  refine ⟨fun y hy => ?_, by rw [hold_length]; exact h.len⟩
  unfold holdL at hy
  split at hy
  · rename_i h1
    by_cases hyx : y = x
    · subst hyx
      exact h.only y (by omega)
    · rw [st_upd_other L hyx] at hy
      exact h.only y hy
  · exact h.only y hy

/-- Who runs stands at i or behind it. -/
def Two (i n : Nat) (L : Th) : Prop := ∀ x, st L x = 1 → (i : Int) ≤ x ∧ x ≤ n
theorem One.two {n : Nat} {L : Th} (h : One n L) : Two 1 n L := fun x hx => by have := h.only x (by omega); omega
theorem Two.poll {i n : Nat} {L : Th} (h : Two i n L) : Two (i + 1) n (pollL L true i) := by
  intro x hx
  unfold pollL at hx
  split at hx
  · rename_i hp
    have hp1 : st L i = 1 := by simpa [polls] using hp
    by_cases hxi : x = i
    · subst hxi
      rw [st_upd_same (by omega)] at hx
      omega
    · rw [st_upd_other L hxi] at hx
      have := h x hx
      omega
  · rename_i hp
    have hp1 : st L i ≠ 1 := by simpa [polls] using hp
    have := h x hx
    have hne : x ≠ i := fun e => hp1 (by rw [← e]; exact hx)
    omega
theorem Two.nr {n : Nat} {L : Th} (h : Two (n + 1) n L) : NR L := fun x hx => by have := h x hx; omega
end Go.Proofs.Ytclfeafmlngpnaa

/-
  The tasks of the statements keep to their own memory.
-/
import Derived.Test.YtopoklciglgkbaaTurnsTur
namespace Go.Proofs.Ytopoklciglgkbaa
open Go.RowKit
set_option linter.unusedVariables false

/-- The block in which a row lies that isn't empty. -/
def rowA (ao : Option Addr) (l : List Int) : List Nat := if l = [] then [] else (ao.map Addr.block).toList

/-- A told task's memory behind n steps: its struct in block x; its states, from another block. -/
def ToldD (B x : Nat) (ao : Option Addr) (len cap : Nat) (l : List Int) (w : World) (n : Int) : Prop :=
  w.heap[x]? = some (.cells #[.slice ao len cap, .int .i64 n] 37) ∧ Rd w [x] ao len l ∧ ∀ k, k ∈ rowA ao l → k < B ∨ ∃ c fr, w.heap[k]? = some (.cells c 3 fr)
def toldFv (x : Nat) : Value := .func (.func 14) #[.pointer (some ⟨x, 0, none⟩)] #[]

theorem good_told (B x : Nat) (ao : Option Addr) (len cap : Nat) (l : List Int) (hl : len ≤ 9223372036854775807) (b : Nat) (s m : Int) :
    Good B ⟨b, toldFv x, [x], x :: rowA ao l, ToldD B x ao len cap l, fun n => tellOf l n.toNat, s, m⟩ where
  sub := by intro k hk; simp at hk; subst hk; simp
  keep := by
    intro w w' n ⟨h1, h2, h3⟩ hk
    refine ⟨by rw [hk x (by simp)]; exact h1, ⟨h2.1, fun i y hy => ?_⟩, fun k hm => ?_⟩
    · obtain ⟨g, off, e, hg, hc⟩ := h2.2 i y hy
      refine ⟨g, off, e, hg, ?_⟩
      have hne : l ≠ [] := by intro e; subst e; simp at hy
      rw [World.cell?_of_block (w := w) (hk g (by simp [rowA, hne, e]))]
      exact hc
    · rw [hk k (by simp [hm])]
      exact h3 k hm
  aw := by
    intro w n ⟨h1, h2, h3⟩ k hk
    rcases List.mem_cons.1 hk with rfl | hk
    · exact ⟨lt_of_heap h1, .inr ⟨_, _, _, h1, by decide, by decide, by decide⟩⟩
    · have hlt : k < w.heap.size := by
        unfold rowA at hk
        split at hk
        · simp at hk
        · rename_i hne
          obtain ⟨y, ys, e⟩ := List.exists_cons_of_ne_nil hne
          obtain ⟨g, off, e2, hg, hc⟩ := h2.2 0 y (by rw [e]; rfl)
          rw [e2] at hk
          simp at hk
          subst hk
          exact block_lt hc
      refine ⟨hlt, ?_⟩
      rcases h3 k hk with h4 | ⟨c, fr, h4⟩
      · exact .inl h4
      · exact .inr ⟨c, _, fr, h4, by decide, by decide, by decide⟩
  take := by
    intro w n h0 hn ⟨h1, h2, h3⟩
    obtain ⟨m, rfl⟩ := Int.eq_ofNat_of_zero_le h0
    refine (take_told x w (tellOf l m) (fun w' => ToldD B x ao len cap l w' ((m : Int) + 1) ∧ Turned [x] w w') ?_).mono ?_
    · intro w1 hT
      have h1' : w1.heap[x]? = some (.cells #[.slice ao len cap, .int .i64 (m : Int)] 37) := by rw [hT.block x (lt_of_heap h1) (by simp)]; exact h1
      have h2' := h2.turned hT (by simp)
      refine (told_step x ao len cap l m w1 hl (by omega) h1' h2').mono ?_
      rintro e w' ⟨rfl, h4, h5⟩
      refine ⟨rfl, ⟨h4, h2'.turned h5 (fun _ hk => hk), fun k hk => ?_⟩, (hT.mono (by simp)).trans h5⟩
      rcases h3 k hk with h6 | ⟨c, fr, h6⟩
      · exact .inl h6
      · right
        have hlt := lt_of_heap h6
        refine ⟨c, fr, ?_⟩
        rw [h5.block k (Nat.lt_of_lt_of_le hlt hT.size) ?_, hT.block k hlt (by simp)]
        · exact h6
        · intro e
          simp at e
          subst e
          rw [h1] at h6
          simp at h6
    · rintro e w' ⟨rfl, h4, h5⟩
      exact ⟨rfl, h4, h5⟩

/-- A counter's memory behind n steps. -/
def CounterD (x : Nat) (c : Int) (w : World) (n : Int) : Prop := w.heap[x]? = some (.cells #[.int .i64 (c - n)] 52) 
def counterFv (x : Nat) : Value := .func (.func 26) #[.pointer (some ⟨x, 0, none⟩)] #[]
def counterTell (c n : Int) : Int := if c - n - 1 ≤ 0 then 2 else 0

theorem good_counter (B x : Nat) (c : Int) (hc : 0 ≤ c ∧ c ≤ 65536) (b : Nat) (s m : Int) : Good B ⟨b, counterFv x, [x], [x], CounterD x c, counterTell c, s, m⟩ where
  sub := by intro k hk; exact hk
  keep := by
    intro w w' n h1 hk
    show w'.heap[x]? = _
    rw [hk x (by simp)]
    exact h1
  aw := by
    intro w n h1 k hk
    simp at hk
    subst hk
    exact ⟨lt_of_heap h1, .inr ⟨_, _, _, h1, by decide, by decide, by decide⟩⟩
  take := by
    intro w n h0 hn h1
    refine (take_counter x w (counterTell c n) (fun w' => CounterD x c w' (n + 1) ∧ Turned [x] w w') ?_).mono ?_
    · intro w1 hT
      have h1' : w1.heap[x]? = some (.cells #[.int .i64 (c - n)] 52) := by rw [hT.block x (lt_of_heap h1) (by simp)]; exact h1
      refine (counter_step x (c - n) w1 (by omega) h1').mono ?_
      rintro e w' ⟨rfl, h4, h5⟩
      refine ⟨rfl, ?_, (hT.mono (by simp)).trans h5⟩
      show w'.heap[x]? = _
      rw [h4, show c - n - 1 = c - (n + 1) by omega]
    · rintro e w' ⟨rfl, h4, h5⟩
      exact ⟨rfl, h4, h5⟩

def twoFv : Value := .func (.func 28) #[] #[]
theorem two_step (w : World) : Calls Try.prog 28 #[] w fun e w' => e = .returned (.int .i64 2) ∧ w' = w := by
  go_enter Try.func28, Try.ntmps28
  go_wp2
  go_ret
  exact ⟨rfl, rfl⟩
theorem good_two (B b : Nat) (s m : Int) : Good B ⟨b, twoFv, [], [], fun _ _ => True, fun _ => 2, s, m⟩ where
  sub := by intro k hk; exact hk
  keep := by intro _ _ _ _ _; trivial
  aw := by intro w n h1 k hk; simp at hk
  take := by
    intro w n h0 hn h1
    refine (take_two w 2 (fun w' => Turned [] w w') ?_).mono ?_
    · intro w1 hT
      refine (two_step w1).mono ?_
      rintro e w' ⟨rfl, rfl⟩
      exact ⟨rfl, hT⟩
    · rintro e w' ⟨rfl, h5⟩
      exact ⟨rfl, trivial, h5⟩
end Go.Proofs.Ytopoklciglgkbaa

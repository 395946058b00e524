/-
  Need and New of both packages, whatever is asked; Begin of the document's.
-/
import Derived.Test.YtdhfggdmlhgdoaaDequeRefT
import Derived.Test.YtdhfggdmlhgdoaaDequeLaw
namespace Go.Proofs.Ytdhfggdmlhgdoaa
open Go.RowKit
set_option linter.unusedVariables false

/-- How many cells one takes; 0: it may not be. -/
def needI (c o : Int) : Int := if c < 1 ∨ 64 < c ∨ o < 0 ∨ 4096 < o then 0 else 4 + c + o

theorem need_any (c o : Int) (w : World) :
    Calls Try.prog 13 #[.int .i64 c, .int .i64 o] w fun e w' => e = .returned (.int .i64 (needI c o)) ∧ w' = w := by
  by_cases h : c < 1 ∨ 64 < c ∨ o < 0 ∨ 4096 < o
  · have e : needI c o = 0 := by unfold needI; rw [if_pos h]
    rw [e]
    have HH := hide h
    clear h e
    go_enter Try.func13, Try.ntmps13
    go_wp2_with fail
    all_goals first
      | (go_ret; exact ⟨rfl, rfl⟩)
      | (exfalso; have := HH.out; omega)
  · have e : needI c o = 4 + c + o := by unfold needI; rw [if_neg h]
    rw [e]
    have h1 : ¬ c < 1 := by omega
    have h2 : ¬ 64 < c := by omega
    have h3 : ¬ o < 0 := by omega
    have h4 : ¬ 4096 < o := by omega
    clear h e
    go_enter Try.func13, Try.ntmps13
    go_wp2_with fail
    go_ret
    exact ⟨rfl, rfl⟩

theorem rneed_any (c o : Int) (w : World) :
    Calls Try.prog 14 #[.int .i64 c, .int .i64 o] w fun e w' => e = .returned (.int .i64 (needI c o)) ∧ w' = w := by
  by_cases h : c < 1 ∨ 64 < c ∨ o < 0 ∨ 4096 < o
  · have e : needI c o = 0 := by unfold needI; rw [if_pos h]
    rw [e]
    have HH := hide h
    clear h e
    go_enter Try.func14, Try.ntmps14
    go_wp2_with fail
    all_goals first
      | (go_ret; exact ⟨rfl, rfl⟩)
      | (exfalso; have := HH.out; omega)
  · have e : needI c o = 4 + c + o := by unfold needI; rw [if_neg h]
    rw [e]
    have h1 : ¬ c < 1 := by omega
    have h2 : ¬ 64 < c := by omega
    have h3 : ¬ o < 0 := by omega
    have h4 : ¬ 4096 < o := by omega
    clear h e
    go_enter Try.func14, Try.ntmps14
    go_wp2_with fail
    go_ret
    exact ⟨rfl, rfl⟩

/-- It may not be, in n cells. -/
def NotIn (b c o : Int) (n : Nat) : Prop := needI c o = 0 ∨ b < 0 ∨ (n : Int) - needI c o < b

theorem needI_le (c o : Int) : 0 ≤ needI c o ∧ needI c o ≤ 4164 := by unfold needI; split <;> omega

theorem dnew_bad (b c o : Int) (w : World) (p q : Nat) (l : List Int) (s : Int) (hm : l.length ≤ 65536) (hbad : NotIn b c o l.length) (h : Mem w p q l s) :
    Calls Try.prog 11 #[.pointer (some ⟨p, 0, none⟩), .int .i64 b, .int .i64 c, .int .i64 o] w fun e w' => e = .returned (.tuple #[.pointer none, .int .i64 1]) ∧ w' = w := by
  have HN := hide (need_any c o w)
  have HL := hide (len_mem p q l s w h)
  have hle := needI_le c o
  have HB := hide hbad
  unfold NotIn at HB
  generalize needI c o = y at *
  generalize l.length = n at *
  clear h hbad
  go_enter Try.func11, Try.ntmps11
  go_wp2_with fail
  refine HN.out.mono ?_
  rintro e w1 ⟨rfl, rfl⟩
  by_cases h1 : y = 0
  · subst h1
    go_wp2_with fail
    go_ret2
    exact ⟨rfl, rfl⟩
  · by_cases h2 : b < 0
    · go_wp2_with fail
      all_goals first
        | (go_ret2; exact ⟨rfl, rfl⟩)
        | (rename_i hx; exfalso; simp_all; done)
    · have h3 : (n : Int) - y < b := by have := HB.out; omega
      go_wp2_with fail
      refine HL.out.mono ?_
      rintro e w1 ⟨rfl, rfl⟩
      go_wp2_with fail
      all_goals first
        | (go_ret2; exact ⟨rfl, rfl⟩)
        | (rename_i hx; exfalso; simp_all; omega)

theorem rdnew_bad (b c o : Int) (w : World) (p q : Nat) (l : List Int) (s : Int) (hm : l.length ≤ 65536) (hb : -9223372036854775808 ≤ b ∧ b ≤ 9223372036854775807) (hbad : NotIn b c o l.length) (h : Ref w p q l s) :
    Calls Try.prog 12 #[.pointer (some ⟨p, 0, none⟩), .int .i64 b, .int .i64 c, .int .i64 o] w fun e w' => e = .returned (.tuple #[.pointer none, .int .i64 1]) ∧ w' = w := by
  have HN := hide (rneed_any c o w)
  have c0 := h.c0
  have hle := needI_le c o
  have HB := hide hbad
  unfold NotIn at HB
  generalize needI c o = y at *
  generalize l.length = n at *
  clear h hbad
  go_enter Try.func12, Try.ntmps12
  go_wp2_with fail
  refine HN.out.mono ?_
  rintro e w1 ⟨rfl, rfl⟩
  by_cases h1 : y = 0
  · subst h1
    go_wp2_with fail
    all_goals (go_ret2; exact ⟨rfl, rfl⟩)
  · by_cases h2 : b < 0
    · go_wp2_with fail
      all_goals first
        | (go_ret2; exact ⟨rfl, rfl⟩)
        | (rename_i hx; exfalso; simp_all; done)
    · have h3 : (n : Int) - y < b := by have := HB.out; omega
      by_cases h4 : (n : Int) < b
      · go_wp2_with fail
        all_goals first
          | (go_ret2; exact ⟨rfl, rfl⟩)
          | (rename_i hx; exfalso; simp_all; omega)
      · have h5 : (n : Int) - b < y := by omega
        go_wp2_with fail
        all_goals first
          | (go_ret2; exact ⟨rfl, rfl⟩)
          | (rename_i hx; exfalso; simp_all; omega)

theorem rdnew_ok (w : World) (p q : Nat) (C : Cfg) (l : List Int) (s : Int) (hc : 1 ≤ C.cap ∧ C.cap ≤ 64) (ho : C.over ≤ 4096) (hr : C.base + (4 + C.cap + C.over) ≤ l.length) (hm : l.length ≤ 65536) (h : Ref w p q l s) :
    Calls Try.prog 12 #[.pointer (some ⟨p, 0, none⟩), .int .i64 C.base, .int .i64 C.cap, .int .i64 C.over] w fun e w' => e = .returned (.tuple #[.pointer (some ⟨w.heap.size, 0, none⟩), .int .i64 0]) ∧ RDq w' w.heap.size p q C l s ∧ Turned [] w w' ∧ w'.heap.size = w.heap.size + 1 := by
  have HN := hide (rneed_any C.cap C.over w)
  have c0 := h.c0
  have en : needI C.cap C.over = ((4 + C.cap + C.over : Nat) : Int) := by unfold needI; rw [if_neg (by omega)]; omega
  rw [en] at HN
  have h1 : ¬ (((4 + C.cap + C.over : Nat) : Int) = 0) := by omega
  have h2 : ¬ ((C.base : Int) < 0) := by omega
  have h3 : ¬ ((l.length : Int) < (C.base : Int)) := by omega
  have h4 : ¬ ((l.length : Int) - (C.base : Int) < ((4 + C.cap + C.over : Nat) : Int)) := by omega
  have hN : 5 ≤ 4 + C.cap + C.over ∧ 4 + C.cap + C.over ≤ 5000 := by omega
  have t0 : Turned [] w (w.alloc (.cells #[.pointer (some ⟨p, 0, none⟩), .int .i64 C.base, .int .i64 C.cap, .int .i64 C.over] 56)) := (Turned.refl _ _).alloc _
  have HD : Hid (RDq (w.alloc (.cells #[.pointer (some ⟨p, 0, none⟩), .int .i64 C.base, .int .i64 C.cap, .int .i64 C.over] 56)) w.heap.size p q C l s) :=
    ⟨⟨by have := h.ltp; omega, by have := h.ltq; omega⟩, hc, ho, hr, hm, heap_alloc_new _ _, h.turned t0 (by simp) (by simp)⟩
  generalize 4 + C.cap + C.over = need at *
  clear h en
  generalize hn : l.length = n at *
  clear hn
  go_enter Try.func12, Try.ntmps12
  go_wp2_with fail
  refine HN.out.mono ?_
  rintro e w1 ⟨rfl, rfl⟩
  go_wp2_with fail
  all_goals first | (go_ret2; exact ⟨rfl, HD.out, t0, by simp⟩) | (rename_i hx; exfalso; rcases hx with ((hx | hx) | hx) | hx <;> first | omega | (simp at hx; try omega))

/-- An operation of the document's at its beginning. -/
def roNew (k v : Int) : RO := ⟨k, 0, 0, 0, 0, v, false, false, 0⟩
theorem rbegin_any (w : World) (d p q : Nat) (C : Cfg) (l : List Int) (s : Int) (k v : Int) (h : RDq w d p q C l s) :
    Calls Try.prog 17 #[.pointer (some ⟨d, 0, none⟩), .int .i64 k, .int .i64 v] w fun e w' => e = .returned (.pointer (some ⟨w.heap.size, 0, none⟩)) ∧ RDq w' d p q C l s ∧ RB w' w.heap.size d (roNew k v) ∧ Turned [] w w' := by
  have HH := hide h
  clear h
  go_enter Try.func17, Try.ntmps17
  go_wp2_with fail
  go_ret
  have t1 : Turned [] w (w.alloc (.cells (roCells d (roNew k v)) 44)) := (Turned.refl _ _).alloc _
  exact ⟨rfl, HH.out.turned t1 (by simp) (by simp) (by simp), heap_alloc_new _ _, t1⟩

theorem rel_new (st : Stp) (k v : Int) (h : (st = .pushReadBottom ∧ k = 0) ∨ (st = .popReadBottom ∧ k = 1) ∨ (st = .stealReadTop ∧ k = 2)) : RelOp (opNew st v) (roNew k v) := by
  rcases h with ⟨rfl, rfl⟩ | ⟨rfl, rfl⟩ | ⟨rfl, rfl⟩ <;> exact ⟨rfl, rfl, fun _ => rfl, fun _ => rfl, fun _ => rfl, fun _ => ⟨rfl, rfl⟩, fun h => by simp [opNew] at h⟩
end Go.Proofs.Ytdhfggdmlhgdoaa

/-
  Step, whatever the ask's next step is; Ask, Left, New.
-/
import Derived.Test.YtelljfckffmjmaaArenaBegin
import Derived.Test.YtelljfckffmjmaaArenaSwap
namespace Go.Proofs.Ytelljfckffmjmaa
open Go.RowKit

/-- An ask under way: the arena, its buffers, the ask; what was turned. -/
def AX (w0 w : World) (a v p q B b : Nat) (T : TypeId) (A : AC) (o : Nat) (x : ASt) : Prop := As w0 w a v p q B b T A x.l x.bl x.s (akCells a B o x.k)

theorem getD_some {l : List Int} {i : Nat} (h : i < l.length) : l[i]? = some (l.getD i 0) := by simp [List.getD, h]

section
variable (w : World) (a v p q B b o : Nat) (T : TypeId) (A : AC)

theorem act_any (x : ASt) (fit : FitA A o x) (hd : x.k.done = false) (h : AX w w a v p q B b T A o x) :
    Calls Try.prog x.k.at_.fn #[.pointer (some ⟨a, 0, none⟩), .pointer (some ⟨b, 0, none⟩)] w fun e w' => e = .returned (.tuple #[]) ∧ AX w w' a v p q B b T A o (stepA A o x) := by
  obtain ⟨l, bl, ⟨kat, kd, ks, kt, kw, kp, ke⟩, s⟩ := x
  have hd' : kd = false := hd
  subst hd'
  have b0 := fit.b0
  have b1 := fit.b1
  have bo := fit.bo
  simp only at b0 b1 bo
  have g0 : bl[o]? = some (bl.getD o 0) := getD_some (by omega)
  have g1 : bl[o + 1]? = some (bl.getD (o + 1) 0) := getD_some bo
  unfold AX at h ⊢
  simp only at h
  cases kat
  case readTop =>
    have hs := fit.rd (by simp)
    exact (ar_readTop w a v p q B b o T A l bl s w _ hs h)
  case swapTop =>
    have hs := fit.rd (by simp)
    have ht := fit.sw rfl
    simp only at hs ht
    by_cases hx : topOf A l = kt
    · refine (ar_swap_hit w w a v p q B b o T A l bl s .swapTop false ks kt kw kp ke hs ht bo hx h).mono ?_
      rintro e w' ⟨rfl, h1⟩
      refine ⟨rfl, ?_⟩
      simpa [stepA, hx] using h1
    · refine (ar_swap_miss w w a v p q B b o T A l bl s .swapTop false ks kt kw kp ke ⟨ht.1, by omega, ht.2.2⟩ hx h).mono ?_
      rintro e w' ⟨rfl, h1⟩
      refine ⟨rfl, ?_⟩
      simpa [stepA, hx] using h1
  case begin =>
    generalize hf : bl.getD o 0 = f at *
    generalize ht : bl.getD (o + 1) 0 = t at *
    by_cases h1 : ks < 1 ∨ 65536 < ks
    · refine (ar_begin_bad w w a v p q B b o T A l bl s .begin false ks kt kw kp ke f t (by omega) g0 g1 h1 h).mono ?_
      rintro e w' ⟨rfl, h2⟩
      refine ⟨rfl, ?_⟩
      unfold stepA
      simp only [Bool.false_eq_true, if_false]
      rw [if_pos h1]
      exact h2
    · have hs : 1 ≤ ks ∧ ks ≤ 65536 := by omega
      by_cases h2 : ks ≤ t - f
      · refine (ar_begin_take w w a v p q B b o T A l bl s .begin false ks kt kw kp ke f t (by omega) g0 g1 hs h2 h).mono ?_
        rintro e w' ⟨rfl, h3⟩
        refine ⟨rfl, ?_⟩
        unfold stepA
        simp only [Bool.false_eq_true, if_false, hf, ht]
        rw [if_neg h1, if_pos h2]
        exact h3
      · by_cases h3 : f < t ∧ lg A ks = false
        · refine (ar_begin_fill w w a v p q B b o T A l bl s .begin false ks kt kw kp ke f t (by omega) g0 g1 hs (by omega) h3.2 h).mono ?_
          rintro e w' ⟨rfl, h4⟩
          refine ⟨rfl, ?_⟩
          unfold stepA
          simp only [Bool.false_eq_true, if_false, hf, ht]
          rw [if_neg h1, if_neg h2, if_pos h3]
          exact h4
        · refine (ar_begin_read w w a v p q B b o T A l bl s .begin false ks kt kw kp ke f t (by omega) g0 g1 hs (by omega) (by
            by_cases h4 : f < t
            · right
              by_cases h5 : lg A ks = true
              · exact h5
              · exact absurd ⟨h4, by simpa using h5⟩ h3
            · left; omega) h).mono ?_
          rintro e w' ⟨rfl, h4⟩
          refine ⟨rfl, ?_⟩
          unfold stepA
          simp only [Bool.false_eq_true, if_false, hf, ht]
          rw [if_neg h1, if_neg h2, if_neg h3]
          exact h4

theorem stepA_done {x : ASt} (h : x.k.done = true) : stepA A o x = x := by simp [stepA, h]

theorem kstep_done (k : AkS) (hd : k.done = true) (h : AkB w b a B o k) :
    Calls Try.prog 18 #[.pointer (some ⟨b, 0, none⟩)] w fun e w' => e = .returned (.bool true) ∧ w' = w := by
  have H := hide (kdone_any w a B b o k h)
  rw [hd] at H
  clear h hd
  go_enter Try.func18, Try.ntmps18
  go_wp2_with fail
  refine H.out.mono ?_
  rintro e w1 ⟨rfl, rfl⟩
  go_wp2_with fail
  refine H.out.mono ?_
  rintro e w1 ⟨rfl, rfl⟩
  go_wp2_with fail
  go_ret
  exact ⟨rfl, rfl⟩

set_option maxRecDepth 4000 in
theorem kstep_any (x : ASt) (fit : FitA A o x) (h : AX w w a v p q B b T A o x) :
    Calls Try.prog 18 #[.pointer (some ⟨b, 0, none⟩)] w fun e w' => e = .returned (.bool (stepA A o x).k.done) ∧ AX w w' a v p q B b T A o (stepA A o x) := by
  by_cases hd : x.k.done = true
  · refine (kstep_done w a B b o x.k hd h.ak).mono ?_
    rintro e w' ⟨rfl, rfl⟩
    rw [stepA_done o A hd]
    exact ⟨by rw [hd], h⟩
  · have hd' : x.k.done = false := by simpa using hd
    have HA := act_any w a v p q B b o T A x fit hd' h
    have f0 : w.cell? ⟨b, 0, none⟩ = some (.func (.func x.k.at_.fn) #[.pointer (some ⟨a, 0, none⟩)] #[]) := by rw [h.ak.f]; rfl
    have H := hide (kdone_any w a B b o x.k h.ak)
    rw [hd'] at H
    generalize stepA A o x = R at *
    clear h fit hd hd'
    generalize x.k.at_ = st at *
    cases st
    all_goals (
      simp only [AStp.fn] at HA f0
      have HB := hide HA
      clear HA
      go_enter Try.func18, Try.ntmps18
      go_wp2_with fail
      refine H.out.mono ?_
      rintro e w1 ⟨rfl, rfl⟩
      clear H
      go_wp2_with fail
      refine HB.out.mono ?_
      rintro e w2 ⟨rfl, h1⟩
      have H2 := hide (kdone_any w2 a B b o R.k h1.ak)
      have H3 := hide h1
      clear HB h1 f0
      go_wp2_with fail
      refine H2.out.mono ?_
      rintro e w3 ⟨rfl, rfl⟩
      go_wp2_with fail
      go_ret
      exact ⟨rfl, H3.out⟩)

def akNew (size : Int) : AkS := ⟨.begin, false, size, 0, 0, 0, 0⟩

theorem ask_any (l : List Int) (s size : Int) (h : Arn w a v p q A l s) :
    Calls Try.prog 15 #[.pointer (some ⟨a, 0, none⟩), .pointer (some ⟨B, o, none⟩), .int .i64 size] w fun e w' => e = .returned (.pointer (some ⟨w.heap.size, 0, none⟩)) ∧ AkB w' w.heap.size a B o (akNew size) ∧ Turned [] w w' ∧ w'.heap.size = w.heap.size + 1 := by
  have H := hide (anone_any w a v p q A l s h)
  clear h
  go_enter Try.func15, Try.ntmps15
  go_wp2_with fail
  refine H.out.mono ?_
  rintro e w1 ⟨rfl, rfl⟩
  clear H
  go_wp2_with fail
  go_ret
  exact ⟨rfl, heap_alloc_new _ _, (Turned.refl _ _).alloc _, by simp⟩
end
end Go.Proofs.Ytelljfckffmjmaa

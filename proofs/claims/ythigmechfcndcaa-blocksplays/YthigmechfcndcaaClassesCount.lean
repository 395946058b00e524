/-
  What count, Size and Ref tell, of any classes and any numbers.
-/
import Derived.Test.YthigmechfcndcaaClassesSize
namespace Go.Proofs.Ythigmechfcndcaa
open Go.RowKit
set_option linter.unusedVariables false

/-- A class that clsAt tells: it may be, or it is the filler's. -/
theorem clsAt_may {cs : List Cls} {k : Int} {c : Cls} (h : clsAt cs k = some c) : c = ⟨0, 0, 3⟩ ∧ k = 0 ∨ c.may = true ∧ 0 < k ∧ cs[(k - 1).toNat]? = some c := by
  unfold clsAt at h
  split at h
  · injection h with h; exact .inl ⟨h.symm, by assumption⟩
  · split at h
    · cases h
    · split at h
      · split at h
        · injection h with h; subst h; exact .inr ⟨by assumption, by omega, by assumption⟩
        · cases h
      · cases h
/-- What may be asked: its references and its words are few. -/
theorem clsAt_few {cs : List Cls} {k n : Int} {c : Cls} (h : clsAt cs k = some c) (hn : 0 ≤ n ∧ n ≤ c.most) : 0 ≤ c.rN n ∧ 0 ≤ c.wN n ∧ c.rN n + c.wN n ≤ 65535 := by
  rcases clsAt_may h with ⟨rfl, _⟩ | ⟨h1, _, _⟩
  · have h2 : (⟨0, 0, 3⟩ : Cls).most = 65535 := rfl
    have h3 : (⟨0, 0, 3⟩ : Cls).rN n = 0 := rfl
    have h4 : (⟨0, 0, 3⟩ : Cls).wN n = n := rfl
    omega
  · obtain ⟨r, v, a⟩ := c
    simp only [Cls.may, decide_eq_true_eq] at h1
    simp only [Cls.most, Cls.rN, Cls.wN] at hn ⊢
    rcases h1 with ⟨rfl, h1⟩ | ⟨rfl | rfl, h1⟩
    · simp at hn ⊢; omega
    · simp at hn ⊢; omega
    · simp at hn ⊢; omega

def gSize (r v : Int) : Int := 1 + r + v
def gRefs (r v : Int) : Int := r
/-- A function that is asked for: of few references and few words. -/
def Asked (K : Nat) (g : Int → Int → Int) : Prop :=
  ∀ (r v : Int) (w : World), 0 ≤ r → 0 ≤ v → r + v ≤ 65535 → Calls Try.prog K #[.agg #[.int .i64 r, .int .i64 v]] w fun e w' => e = .returned (.int .i64 (g r v)) ∧ Turned [] w w'
theorem asked_size : Asked 42 gSize := fun r v w h1 h2 h3 => size_any r v w (by unfold In64; omega)
theorem asked_refs : Asked 48 gRefs := fun r v w h1 h2 h3 => references_any r v w

theorem count_size (ao : Option Addr) (len cap : Nat) (cs : List Cls) (k n : Int) (w : World) (hn : In64 n) (h : CRd w ao len cs) :
    Calls Try.prog 41 #[.slice ao len cap, .int .i64 k, .int .i64 n, .func (.func 42) #[] #[]] w fun e w' => e = .returned (.tuple #[.int .i64 (told gSize cs k n).1, .int .i64 (told gSize cs k n).2]) ∧ Turned [] w w' := by
  cases hc : clsAt cs k with
  | none =>
    have e1 : told gSize cs k n = (0, 12) := by simp [told, hc]
    rw [e1]
    have HF := hide (find_none ao len cap cs k w h hc)
    clear hc h e1
    go_enter Try.func41, Try.ntmps41
    go_wp2_with fail
    refine HF.out.mono ?_
    rintro e w1 ⟨rfl, ht1⟩
    have HT := hide (fun c => ht1.alloc (.cells c 91))
    clear ht1 HF
    go_wp2_with fail
    go_ret2
    exact ⟨rfl, HT.out _⟩
  | some c =>
    have HF := hide (find_some ao len cap cs k w c h hc)
    have HL := hide (fun w => lay_any c n w hn)
    have HW := hide (fun hh => clsAt_few (n := n) hc hh)
    have HA : Hid (Asked 42 gSize) := asked_size
    obtain ⟨y, hy⟩ : ∃ y, y = told gSize cs k n := ⟨_, rfl⟩
    rw [← hy]
    have HY : Hid (y = if 0 ≤ n ∧ n ≤ c.most then (gSize (c.rN n) (c.wN n), 0) else (0, 11)) := by show _ = _; rw [hy]; simp [told, hc]
    clear hy hc h hn
    obtain ⟨r, v, a⟩ := c
    generalize Cls.rN ⟨r, v, a⟩ n = R at *
    generalize Cls.wN ⟨r, v, a⟩ n = V at *
    generalize Cls.most ⟨r, v, a⟩ = M at *
    by_cases hr : 0 ≤ n ∧ n ≤ M
    · obtain ⟨h1, h2⟩ := hr
      have e1 : y = (gSize R V, 0) := by rw [HY.out, if_pos ⟨h1, h2⟩]
      subst e1
      have HAs := hide (fun w => HA.out R V w (HW.out ⟨h1, h2⟩).1 (HW.out ⟨h1, h2⟩).2.1 (HW.out ⟨h1, h2⟩).2.2)
      clear HY HA HW
      go_enter Try.func41, Try.ntmps41
      go_wp2_with fail
      refine HF.out.mono ?_
      rintro e w1 ⟨rfl, ht1⟩
      have HT := hide (fun c => ht1.alloc (.cells c 91))
      clear ht1 HF
      go_wp2_with fail
      refine (HL.out _).mono ?_
      rintro e w2 ⟨rfl, ht2⟩
      have HT2 := hide (fun c => ((HT.out _).trans ht2).alloc (.cells c 97))
      clear ht2 HL HT
      go_wp2_with fail
      refine (HAs.out _).mono ?_
      rintro e w3 ⟨rfl, ht3⟩
      have HT3 := hide ((HT2.out _).trans ht3)
      clear ht3 HAs HT2
      go_wp2_with fail
      go_ret2
      exact ⟨rfl, HT3.out⟩
    · have e1 : y = (0, 11) := by rw [HY.out, if_neg hr]
      subst e1
      clear HY HA HW
      by_cases h1 : n < 0
      · clear hr
        go_enter Try.func41, Try.ntmps41
        go_wp2_with fail
        refine HF.out.mono ?_
        rintro e w1 ⟨rfl, ht1⟩
        have HT := hide (fun c => ht1.alloc (.cells c 91))
        clear ht1 HF
        go_wp2_with fail
        refine (HL.out _).mono ?_
        rintro e w2 ⟨rfl, ht2⟩
        have HT2 := hide (fun c => ((HT.out _).trans ht2).alloc (.cells c 97))
        clear ht2 HL HT
        go_wp2_with fail
        go_ret2
        exact ⟨rfl, HT2.out _⟩
      · have h2 : M < n := by omega
        clear hr
        go_enter Try.func41, Try.ntmps41
        go_wp2_with fail
        refine HF.out.mono ?_
        rintro e w1 ⟨rfl, ht1⟩
        have HT := hide (fun c => ht1.alloc (.cells c 91))
        clear ht1 HF
        go_wp2_with fail
        refine (HL.out _).mono ?_
        rintro e w2 ⟨rfl, ht2⟩
        have HT2 := hide (fun c => ((HT.out _).trans ht2).alloc (.cells c 97))
        clear ht2 HL HT
        go_wp2_with fail
        go_ret2
        exact ⟨rfl, HT2.out _⟩

theorem count_refs (ao : Option Addr) (len cap : Nat) (cs : List Cls) (k n : Int) (w : World) (hn : In64 n) (h : CRd w ao len cs) :
    Calls Try.prog 41 #[.slice ao len cap, .int .i64 k, .int .i64 n, .func (.func 48) #[] #[]] w fun e w' => e = .returned (.tuple #[.int .i64 (told gRefs cs k n).1, .int .i64 (told gRefs cs k n).2]) ∧ Turned [] w w' := by
  cases hc : clsAt cs k with
  | none =>
    have e1 : told gRefs cs k n = (0, 12) := by simp [told, hc]
    rw [e1]
    have HF := hide (find_none ao len cap cs k w h hc)
    clear hc h e1
    go_enter Try.func41, Try.ntmps41
    go_wp2_with fail
    refine HF.out.mono ?_
    rintro e w1 ⟨rfl, ht1⟩
    have HT := hide (fun c => ht1.alloc (.cells c 91))
    clear ht1 HF
    go_wp2_with fail
    go_ret2
    exact ⟨rfl, HT.out _⟩
  | some c =>
    have HF := hide (find_some ao len cap cs k w c h hc)
    have HL := hide (fun w => lay_any c n w hn)
    have HW := hide (fun hh => clsAt_few (n := n) hc hh)
    have HA : Hid (Asked 48 gRefs) := asked_refs
    obtain ⟨y, hy⟩ : ∃ y, y = told gRefs cs k n := ⟨_, rfl⟩
    rw [← hy]
    have HY : Hid (y = if 0 ≤ n ∧ n ≤ c.most then (gRefs (c.rN n) (c.wN n), 0) else (0, 11)) := by show _ = _; rw [hy]; simp [told, hc]
    clear hy hc h hn
    obtain ⟨r, v, a⟩ := c
    generalize Cls.rN ⟨r, v, a⟩ n = R at *
    generalize Cls.wN ⟨r, v, a⟩ n = V at *
    generalize Cls.most ⟨r, v, a⟩ = M at *
    by_cases hr : 0 ≤ n ∧ n ≤ M
    · obtain ⟨h1, h2⟩ := hr
      have e1 : y = (gRefs R V, 0) := by rw [HY.out, if_pos ⟨h1, h2⟩]
      subst e1
      have HAs := hide (fun w => HA.out R V w (HW.out ⟨h1, h2⟩).1 (HW.out ⟨h1, h2⟩).2.1 (HW.out ⟨h1, h2⟩).2.2)
      clear HY HA HW
      go_enter Try.func41, Try.ntmps41
      go_wp2_with fail
      refine HF.out.mono ?_
      rintro e w1 ⟨rfl, ht1⟩
      have HT := hide (fun c => ht1.alloc (.cells c 91))
      clear ht1 HF
      go_wp2_with fail
      refine (HL.out _).mono ?_
      rintro e w2 ⟨rfl, ht2⟩
      have HT2 := hide (fun c => ((HT.out _).trans ht2).alloc (.cells c 97))
      clear ht2 HL HT
      go_wp2_with fail
      refine (HAs.out _).mono ?_
      rintro e w3 ⟨rfl, ht3⟩
      have HT3 := hide ((HT2.out _).trans ht3)
      clear ht3 HAs HT2
      go_wp2_with fail
      go_ret2
      exact ⟨rfl, HT3.out⟩
    · have e1 : y = (0, 11) := by rw [HY.out, if_neg hr]
      subst e1
      clear HY HA HW
      by_cases h1 : n < 0
      · clear hr
        go_enter Try.func41, Try.ntmps41
        go_wp2_with fail
        refine HF.out.mono ?_
        rintro e w1 ⟨rfl, ht1⟩
        have HT := hide (fun c => ht1.alloc (.cells c 91))
        clear ht1 HF
        go_wp2_with fail
        refine (HL.out _).mono ?_
        rintro e w2 ⟨rfl, ht2⟩
        have HT2 := hide (fun c => ((HT.out _).trans ht2).alloc (.cells c 97))
        clear ht2 HL HT
        go_wp2_with fail
        go_ret2
        exact ⟨rfl, HT2.out _⟩
      · have h2 : M < n := by omega
        clear hr
        go_enter Try.func41, Try.ntmps41
        go_wp2_with fail
        refine HF.out.mono ?_
        rintro e w1 ⟨rfl, ht1⟩
        have HT := hide (fun c => ht1.alloc (.cells c 91))
        clear ht1 HF
        go_wp2_with fail
        refine (HL.out _).mono ?_
        rintro e w2 ⟨rfl, ht2⟩
        have HT2 := hide (fun c => ((HT.out _).trans ht2).alloc (.cells c 97))
        clear ht2 HL HT
        go_wp2_with fail
        go_ret2
        exact ⟨rfl, HT2.out _⟩

def sizeOf (cs : List Cls) (k n : Int) : Int × Int := told gSize cs k n
def refsOf (cs : List Cls) (k n : Int) : Int := (told gRefs cs k n).1

theorem sizes_any (ao : Option Addr) (len cap : Nat) (cs : List Cls) (k n : Int) (w : World) (hn : In64 n) (h : CRd w ao len cs) :
    Calls Try.prog 28 #[.slice ao len cap, .int .i64 k, .int .i64 n] w fun e w' => e = .returned (.tuple #[.int .i64 (sizeOf cs k n).1, .int .i64 (sizeOf cs k n).2]) ∧ Turned [] w w' := by
  have HC := hide (count_size ao len cap cs k n w hn h)
  clear hn h
  unfold sizeOf
  generalize told gSize cs k n = y at *
  go_enter Try.func28, Try.ntmps28
  go_wp2_with fail
  refine HC.out.mono ?_
  rintro e w1 ⟨rfl, ht1⟩
  have HT := hide ht1
  clear ht1 HC
  go_wp2_with fail
  go_ret2
  exact ⟨rfl, HT.out⟩

end Go.Proofs.Ythigmechfcndcaa

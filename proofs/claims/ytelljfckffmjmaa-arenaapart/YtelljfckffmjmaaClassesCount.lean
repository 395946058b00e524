/-
  What count, Size and Ref tell, of any classes and any numbers.
-/
import Derived.Test.YtelljfckffmjmaaClassesSize
namespace Go.Proofs.Ytelljfckffmjmaa
open Go.RowKit
set_option linter.unusedVariables false

/-- A class that clsAt tells: it may be, or it is the filler's. -/
theorem clsAt_may {cs : List Cls} {k : Int} {c : Cls} (h : clsAt cs k = some c) : c = ⟨0, 0, 3⟩ ∧ k = 0 ∨ c.may = true ∧ 0 < k ∧ cs[(k - 1).toNat]? = some c := by
  unfold clsAt at h
  split at h
  · injection h with h; exact .inl ⟨h.symm, by assumption⟩
  · split at h
    · cases h
    · split at h
      · split at h
        · injection h with h; subst h; exact .inr ⟨by assumption, by omega, by assumption⟩
        · cases h
      · cases h
/-- What may be asked: its references and its words are few. -/
theorem clsAt_few {cs : List Cls} {k n : Int} {c : Cls} (h : clsAt cs k = some c) (hn : 0 ≤ n ∧ n ≤ c.most) : 0 ≤ c.rN n ∧ 0 ≤ c.wN n ∧ c.rN n + c.wN n ≤ 65535 := by
  rcases clsAt_may h with ⟨rfl, _⟩ | ⟨h1, _, _⟩
  · have h2 : (⟨0, 0, 3⟩ : Cls).most = 65535 := rfl
    have h3 : (⟨0, 0, 3⟩ : Cls).rN n = 0 := rfl
    have h4 : (⟨0, 0, 3⟩ : Cls).wN n = n := rfl
    omega
  · obtain ⟨r, v, a⟩ := c
    simp only [Cls.may, decide_eq_true_eq] at h1
    simp only [Cls.most, Cls.rN, Cls.wN] at hn ⊢
    rcases h1 with ⟨rfl, h1⟩ | ⟨rfl | rfl, h1⟩
    · simp at hn ⊢; omega
    · simp at hn ⊢; omega
    · simp at hn ⊢; omega

def gSize (r v : Int) : Int := 1 + r + v
def gRefs (r v : Int) : Int := r
/-- A function that is asked for: of few references and few words. -/
def Asked (K : Nat) (g : Int → Int → Int) : Prop :=
  ∀ (r v : Int) (w : World), 0 ≤ r → 0 ≤ v → r + v ≤ 65535 → Calls Try.prog K #[.agg #[.int .i64 r, .int .i64 v]] w fun e w' => e = .returned (.int .i64 (g r v)) ∧ Turned [] w w'
def sizeOf (cs : List Cls) (k n : Int) : Int × Int := told gSize cs k n
def refsOf (cs : List Cls) (k n : Int) : Int := (told gRefs cs k n).1

end Go.Proofs.Ytelljfckffmjmaa

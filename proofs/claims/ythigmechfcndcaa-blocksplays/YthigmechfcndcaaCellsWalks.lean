/-
  What each call of package cells does to a memory that lies in the model's heap: New, Len, Steps, Load, Store, Swap, Add, each for a cell that there is, for one that there is not, and for a nil memory.
-/
import Derived.Test.YthigmechfcndcaaCellsBase
import Derived.RegionTactic
import Derived.ChangeAlike
namespace Go.Proofs.Ythigmechfcndcaa
open Go.RowKit

theorem keep_any (n m : Int) (w : World) :
    Calls Try.prog 21 #[.int .i64 n, .int .i64 m] w fun e w' => e = .returned (.int .i64 (min (max n 0) m)) ∧ w' = w := by
  go_enter Try.func21, Try.ntmps21
  go_wp2
  all_goals (go_ret; exact ⟨by simp [Ending.returned.injEq, Value.int.injEq]; omega, rfl⟩)

theorem len_mem (p q : Nat) (l : List Int) (s : Int) (w : World) (h : Mem w p q l s) :
    Calls Try.prog 24 #[.pointer (some ⟨p, 0, none⟩)] w fun e w' => e = .returned (.int .i64 l.length) ∧ w' = w := by
  have h0 := h.c0
  go_enter Try.func24, Try.ntmps24
  go_wp2
  go_ret
  exact ⟨rfl, rfl⟩

theorem len_nil (w : World) :
    Calls Try.prog 24 #[.pointer none] w fun e w' => e = .returned (.int .i64 0) ∧ w' = w := by
  go_enter Try.func24, Try.ntmps24
  go_wp2
  go_ret
  exact ⟨rfl, rfl⟩

end Go.Proofs.Ythigmechfcndcaa

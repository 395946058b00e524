/-
  The small functions of package arena: none, large (a closure), above, words, take, end, fill; Done and At of an ask.
-/
import Derived.Test.YtelljfckffmjmaaArenaBase
import Derived.Deep.RegionHeld3
import Derived.Deep.QuietTactic
import Derived.BigQuiet
import Derived.Laws.EntriesVeiled
namespace Go.Proofs.Ytelljfckffmjmaa
open Go.RowKit

theorem w64 (n : Int) (h : -9223372036854775808 ≤ n ∧ n ≤ 9223372036854775807) : wrap64 n = n := by unfold wrap64; omega
theorem eql_funcl (fn : Fn) (first caps : Array Value) (w : World) : (binOp .eql 95 (.func fn first caps) .nilFunc).run Try.prog w = .ok (.bool false) w := by kernel_rfl
theorem eql_funck (fn : Fn) (first caps : Array Value) (w : World) : (binOp .eql 100 (.func fn first caps) .nilFunc).run Try.prog w = .ok (.bool false) w := by kernel_rfl

section
variable (w : World) (a v p q B b o : Nat) (T : TypeId) (A : AC) (l bl : List Int) (s : Int)

theorem anone_any (h : Arn w a v p q A l s) :
    Calls Try.prog 34 #[.pointer (some ⟨a, 0, none⟩)] w fun e w' => e = .returned (.bool false) ∧ w' = w := by
  have c4 := h.c4
  clear h
  go_enter Try.func34, Try.ntmps34
  go_wp2_with (first | rw [eql_funcl] | fail)
  all_goals (go_ret; exact ⟨rfl, rfl⟩)

theorem knone_any (k : AkS) (h : AkB w b a B o k) :
    Calls Try.prog 42 #[.pointer (some ⟨b, 0, none⟩)] w fun e w' => e = .returned (.bool false) ∧ w' = w := by
  have f0 : w.cell? ⟨b, 0, none⟩ = some (.func (.func k.at_.fn) #[.pointer (some ⟨a, 0, none⟩)] #[]) := by rw [AkG.f h]; rfl
  clear h
  generalize k.at_.fn = ff at *
  go_enter Try.func42, Try.ntmps42
  go_wp2_with (first | rw [eql_funck] | fail)
  all_goals (go_ret; exact ⟨rfl, rfl⟩)

theorem large_any (size : Int) (hs : 1 ≤ size ∧ size ≤ 65536) (h : Arn w a v p q A l s) :
    Calls Try.prog 33 #[.int .i64 size, .pointer (some ⟨v, 0, none⟩)] w fun e w' => e = .returned (.bool (lg A size)) ∧ w' = w := by
  have v0 := h.v0
  have hb := h.buf
  have e : lg A size = decide ((A.buf : Int) < 2 * size) := rfl
  rw [e]
  clear h e
  go_enter Try.func33, Try.ntmps33
  go_wp2_with fail
  all_goals (go_ret; exact ⟨rfl, rfl⟩)

theorem above_any (t : Int) (h : Arn w a v p q A l s) :
    Calls Try.prog 44 #[.pointer (some ⟨a, 0, none⟩), .int .i64 t] w fun e w' => e = .returned (.int .i64 (aboveOf A t)) ∧ w' = w := by
  have c2 := h.c2
  have hm : A.to ≤ 65536 := Nat.le_trans h.to h.most
  have HE : Hid (aboveOf A t = if t < 0 ∨ (A.to : Int) < t then 0 else A.to - t) := rfl
  generalize aboveOf A t = y at *
  clear h
  go_enter Try.func44, Try.ntmps44
  go_wp2_with fail
  all_goals (
    go_ret
    refine ⟨?_, rfl⟩
    rename_i hx
    have e := HE.out
    first
      | (rw [if_pos hx] at e; subst e; rfl)
      | (rw [if_neg (by omega)] at e; subst e; rfl)
      | (rw [if_pos (by omega)] at e; subst e; rfl))

theorem words_buf (f t : Int) (hf : 0 ≤ f ∧ f ≤ t ∧ t ≤ 65536) (h0 : w.cell? ⟨B, o, none⟩ = some (.int .i64 f)) (h1 : w.cell? ⟨B, o + 1, none⟩ = some (.int .i64 t)) :
    Calls Try.prog 36 #[.pointer (some ⟨B, o, none⟩)] w fun e w' => e = .returned (.int .u64 (t - f)) ∧ ∃ m, w' = w.drewN m := by
  by_cases hx : t ≤ f
  · have e : t - f = 0 := by omega
    rw [e]
    clear e
    go_enter Try.func36, Try.ntmps36
    go_wp2_with fail
    go_quiet (fail)
    go_wp2_with fail
    go_ret
    exact ⟨rfl, _, rfl⟩
  · go_enter Try.func36, Try.ntmps36
    go_wp2_with fail
    go_quiet (fail)
    go_wp2_with fail
    go_quiet (fail)
    go_wp2_with fail
    go_ret
    exact ⟨rfl, _, World.drewN_drewN _ _ _⟩

theorem kend_any (k : AkS) (c : Array Value) (x n : Int) (hc : c = akCells a B o k) (h : AkG w b c) :
    Calls Try.prog 50 #[.pointer (some ⟨b, 0, none⟩), .int .i64 x, .int .i64 n] w fun e w' => e = .returned (.tuple #[]) ∧ AkB w' b a B o { k with done := true, pos := x, errno := n } ∧ Turned [b] w w' := by
  subst hc
  have z := h.fz
  have z1 := z 1
  have z6 := z 6
  have z7 := z 7
  have f1 := h.f 1
  have f6 := h.f 6
  have f7 := h.f 7
  simp only [akCells] at f1 f6 f7
  have HR := hide (show AkB _ b a B o { k with done := true, pos := x, errno := n } from ((h.set 1 (.bool true)).set 6 (.int .i64 x)).set 7 (.int .i64 n))
  have HT := hide ((((Turned.refl [b] w).setCell (p := ⟨b, 1, none⟩) (by simp) (.bool true)).setCell (p := ⟨b, 6, none⟩) (by simp) (.int .i64 x)).setCell (p := ⟨b, 7, none⟩) (by simp) (.int .i64 n))
  clear z h
  go_enter Try.func50, Try.ntmps50
  go_wp2_with fail
  refine bodyPost_end (results_none rfl _ _ _) rfl ?_
  exact ⟨rfl, HR.out, HT.out⟩

theorem take_any (f size : Int) (hf : 0 ≤ f ∧ f ≤ 65536 ∧ 0 ≤ size ∧ size ≤ 65536) (h0 : bl[o]? = some f) (h : Bf w B T bl) :
    Calls Try.prog 51 #[.pointer (some ⟨B, o, none⟩), .int .i64 size] w fun e w' => e = .returned (.int .i64 f) ∧ Bf w' B T (bl.set o (f + size)) ∧ Turned [B] w w' := by
  have f0 := h.at h0
  have z0 := h.fz o
  have HB := hide (h.set o (f + size))
  have HT := hide ((Turned.refl [B] w).setCell (p := ⟨B, o, none⟩) (by simp) (.int .i64 (f + size)))
  clear h h0
  go_enter Try.func51, Try.ntmps51
  go_wp2_with fail
  go_ret
  exact ⟨rfl, HB.out, HT.out⟩

theorem kdone_any (k : AkS) (h : AkB w b a B o k) :
    Calls Try.prog 21 #[.pointer (some ⟨b, 0, none⟩)] w fun e w' => e = .returned (.bool k.done) ∧ w' = w := by
  have f1 : w.cell? ⟨b, 1, none⟩ = some (.bool k.done) := by rw [AkG.f h]; rfl
  have H := hide (knone_any w a B b o k h)
  generalize k.done = bb at *
  clear h
  go_enter Try.func21, Try.ntmps21
  go_wp2_with fail
  refine H.out.mono ?_
  rintro e w1 ⟨rfl, rfl⟩
  go_wp2_with fail
  all_goals (go_ret; exact ⟨rfl, rfl⟩)

def atOf (k : AkS) : Int × Int := if k.done then (k.pos, k.errno) else (0, 16)
theorem kat_any (k : AkS) (h : AkB w b a B o k) :
    Calls Try.prog 20 #[.pointer (some ⟨b, 0, none⟩)] w fun e w' => e = .returned (.tuple #[.int .i64 (atOf k).1, .int .i64 (atOf k).2]) ∧ ∃ m, w' = w.drewN m := by
  have f1 : w.cell? ⟨b, 1, none⟩ = some (.bool k.done) := by rw [AkG.f h]; rfl
  have f6 : w.cell? ⟨b, 6, none⟩ = some (.int .i64 k.pos) := by rw [AkG.f h]; rfl
  have f7 : w.cell? ⟨b, 7, none⟩ = some (.int .i64 k.errno) := by rw [AkG.f h]; rfl
  have H := hide (knone_any w a B b o k h)
  have HE : Hid (atOf k = if k.done then (k.pos, k.errno) else (0, 16)) := rfl
  generalize atOf k = y at *
  generalize k.done = bb at *
  clear h
  cases bb
  all_goals (
    obtain ⟨y1, y2⟩ := y
    have e := HE.out
    simp only [if_true, Bool.false_eq_true, if_false, Prod.mk.injEq] at e
    obtain ⟨rfl, rfl⟩ := e
    clear HE
    go_enter Try.func20, Try.ntmps20
    go_wp2_with fail
    refine H.out.mono ?_
    rintro e w1 ⟨rfl, rfl⟩
    go_wp2_with fail
    first
      | (go_ret2; exact ⟨rfl, 0, rfl⟩)
      | (go_quiet (fail); go_wp2_with fail; go_ret2; exact ⟨rfl, _, rfl⟩))
end
end Go.Proofs.Ytelljfckffmjmaa

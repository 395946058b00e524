/-
  Notify.
-/
import Derived.Test.YtlbcbphkgaoliabMonHold
namespace Go.Proofs.Ytlbcbphkgaoliab
open Go.RowKit
set_option linter.unusedVariables false
set_option linter.unusedSimpArgs false
def notN (all : Bool) (m : Mon) : Nat := if all = true then m.a.length else min m.a.length 1
section
variable {B : Nat} {w w' : World} {b p n : Nat} {x y : Int} {m m' : Mon} {g : Int → Option Mon} {S S' : Int → Bool} {r : Int}
set_option maxRecDepth 100000 in
theorem notify1_any (u2 : Nat) (all : Bool) (h : Foc B w p y b m n g S) (hb2 : w.heap[u2]? = some (.cells #[.bool all] 4)) (hl : m.q.length + m.a.length ≤ 900) :
    Calls Try.prog 23 #[.pointer (some ⟨b, 0, none⟩), .pointer (some ⟨u2, 0, none⟩)] w (DoneI B p n y b g (notN all m) (tellM m (notN all m)) S w) := by
  obtain ⟨M, hM⟩ := h.mo
  have hal : m.a.length = M.a.len := hM.rp.a.len
  have c3 : w.cell? ⟨b, 3, none⟩ = some (.slice M.a.addr m.a.length M.a.cap) := by rw [hM.c, hal]; rfl
  have c2 : w.cell? ⟨u2, 0, none⟩ = some (.bool all) := by rw [cell_of_heap hb2]; rfl
  have hN : notN all m ≤ m.a.length := by unfold notN; split <;> omega
  have HT := hide (tell_any hM (notN all m) hN (by omega))
  have HR : Hid (∀ w1, Did w b M (tellM m (notN all m)) w1 → DoneI B p n y b g (notN all m) (tellM m (notN all m)) S w (.returned (.int .i64 (notN all m : Nat))) w1) := hide (fun w1 hd => by
    obtain ⟨h1, h2⟩ := h.did1 hM hd
    exact ⟨rfl, h1.mono (by omega), h2⟩)
  obtain ⟨Q, hQ⟩ : ∃ Q, Q = DoneI B p n y b g (notN all m) (tellM m (notN all m)) S w := ⟨_, rfl⟩
  rw [← hQ] at HR ⊢
  have hNv : notN all m = if all = true then m.a.length else min m.a.length 1 := rfl
  generalize notN all m = k at *
  generalize m.a.length = al at *
  generalize M.a.addr = aa at *
  generalize M.a.cap = ac at *
  cases all
  · have hk : (k : Int) = min (al : Int) 1 := by rw [hNv]; simp; omega
    clear h hM hb2 hQ hNv hal hN
    by_cases hz : al = 0
    · subst hz
      obtain rfl : k = 0 := by omega
      clear hk
      rw [show ((0 : Nat) : Int) = 0 from rfl] at HT HR
      go_enter Try.func23, Try.ntmps23
      go_wp2_with fail
      refine (HT.out).mono ?_
      rintro e w1 ⟨rfl, hd⟩
      have HR2 := hide (HR.out w1 hd)
      clear hd HR HT
      go_wp2_with fail
      first | exact HR2.out | (go_ret; exact HR2.out)
    · obtain rfl : k = 1 := by omega
      clear hk
      rw [show ((1 : Nat) : Int) = 1 from rfl] at HT HR
      by_cases h1 : al = 1
      · subst h1
        go_enter Try.func23, Try.ntmps23
        go_wp2_with fail
        refine (HT.out).mono ?_
        rintro e w1 ⟨rfl, hd⟩
        have HR2 := hide (HR.out w1 hd)
        clear hd HR HT
        go_wp2_with fail
        first | exact HR2.out | (go_ret; exact HR2.out)
      · have hge : (1 : Int) < (al : Int) := by omega
        go_enter Try.func23, Try.ntmps23
        go_wp2_with fail
        refine (HT.out).mono ?_
        rintro e w1 ⟨rfl, hd⟩
        have HR2 := hide (HR.out w1 hd)
        clear hd HR HT
        go_wp2_with fail
        first | exact HR2.out | (go_ret; exact HR2.out)
  · have hk : k = al := hNv
    subst hk
    clear h hM hb2 hQ hNv hal hN
    go_enter Try.func23, Try.ntmps23
    go_wp2_with fail
    refine (HT.out).mono ?_
    rintro e w1 ⟨rfl, hd⟩
    have HR2 := hide (HR.out w1 hd)
    clear hd HR HT
    go_wp2_with fail
    first | exact HR2.out | (go_ret; exact HR2.out)
/-- Notify, without memory. -/
def notifyT (g : Int → Option Mon) (S : Int → Bool) (x y : Int) (all : Bool) : (Int × Int) × (Int → Option Mon) × (Int → Bool) := holdT g S x y (fun m => (notN all m : Int)) (fun m => tellM m (notN all m)) (fun _ S => S)
set_option maxRecDepth 100000 in
/-- Notify. -/
theorem notify_call (all : Bool) (hx : I64 x) (hy : I64 y) (hn : n ≤ 900000) (h : Tb B w p n g S) (hf : Fine ((g y).getD Mon.zero)) :
    Calls Try.prog 9 #[.pointer (some ⟨p, 0, none⟩), .int .i64 x, .int .i64 y, .bool all] w (LeftI B p n w (notifyT g S x y all)) := by
  have hB := h.lo
  obtain ⟨u2, hu2⟩ : ∃ u2, u2 = w.heap.size := ⟨_, rfl⟩
  obtain ⟨w1, hw1⟩ : ∃ w1, w1 = w.alloc (.cells #[.bool all] 4) := ⟨_, rfl⟩
  have t1 : Turned [] w w1 := by rw [hw1]; exact (Turned.refl _ _).alloc _
  have r2 : w1.heap[u2]? = some (.cells #[.bool all] 4) := by rw [hw1, hu2]; exact heap_alloc_new _ _
  have HA := hide (holding_notify (.pointer (some ⟨u2, 0, none⟩)) (fun m => (notN all m : Int)) (fun m => tellM m (notN all m)) (fun _ S => S) hx hy hn (h.turned t1) (fun b w2 t hF hm => notify1_any u2 all hF (t.at r2 (by simp)) hf.2))
  have HB := hide (t1.bel hB (fun k hk => by cases hk))
  have hmf : ∀ (fn : Fn) (first cap : Array Value) (w : World), (Instr.makeFunc fn first cap).run Try.prog w = .ok (.func fn first cap) w := fun _ _ _ _ => rfl
  unfold notifyT
  obtain ⟨o, ho⟩ : ∃ o, o = holdT g S x y (fun m => (notN all m : Int)) (fun m => tellM m (notN all m)) (fun _ S => S) := ⟨_, rfl⟩
  rw [← ho] at HA ⊢
  clear h hf t1 r2 ho hx hy
  go_enter Try.func9, Try.ntmps9
  go_upto_region 1 with fail
  rw [← hu2, ← hw1]
  clear hu2 hw1
  go_wp2_with fail
  refine (HA.out).mono ?_
  rintro e w2 hl
  obtain ⟨⟨o1, o2⟩, o3⟩ := o
  have HL := hide (hl.from HB.out)
  obtain ⟨rfl, -, -⟩ := hl
  clear HA HB
  go_wp2_with fail
  go_ret2
  exact HL.out
end
end Go.Proofs.Ytlbcbphkgaoliab

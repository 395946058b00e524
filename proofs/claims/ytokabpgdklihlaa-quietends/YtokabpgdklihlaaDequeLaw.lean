/-
  What the laws of package deque share: New, Need, an operation from its beginning to its end, two operations by turns.
-/
import Derived.Test.YtokabpgdklihlaaDequeRun
import Derived.Test.YtokabpgdklihlaaDequeItems
namespace Go.Proofs.Ytokabpgdklihlaa
open Go.RowKit

theorem need_ok (cap over : Nat) (hc : 1 ≤ cap ∧ cap ≤ 64) (ho : over ≤ 4096) (w : World) :
    Calls Try.prog 22 #[.int .i64 cap, .int .i64 over] w fun e w' => e = .returned (.int .i64 ((4 + cap + over : Nat) : Int)) ∧ w' = w := by
  have h1 : ¬ ((cap : Int) < 1) := by omega
  have h2 : ¬ ((64 : Int) < cap) := by omega
  have h3 : ¬ ((over : Int) < 0) := by omega
  have h4 : ¬ ((4096 : Int) < over) := by omega
  go_enter Try.func22, Try.ntmps22
  go_wp2_with fail
  go_ret
  refine ⟨?_, rfl⟩
  congr 2

theorem dnew_ok (w : World) (p q : Nat) (C : Cfg) (l : List Int) (s : Int) (hc : 1 ≤ C.cap ∧ C.cap ≤ 64) (ho : C.over ≤ 4096) (hr : C.base + (4 + C.cap + C.over) ≤ l.length) (hm : l.length ≤ 65536) (h : Mem w p q l s) :
    Calls Try.prog 10 #[.pointer (some ⟨p, 0, none⟩), .int .i64 C.base, .int .i64 C.cap, .int .i64 C.over] w fun e w' => e = .returned (.tuple #[.pointer (some ⟨w.heap.size, 0, none⟩), .int .i64 0]) ∧ Dq w' w.heap.size p q C l s ∧ Turned [] w w' ∧ w'.heap.size = w.heap.size + 1 := by
  have HN := hide (need_ok C.cap C.over hc ho w)
  have HL := hide (len_mem p q l s w h)
  have HH := hide h
  have h1 : ¬ (((4 + C.cap + C.over : Nat) : Int) = 0) := by omega
  have h2 : ¬ ((C.base : Int) < 0) := by omega
  have h3 : ¬ ((l.length : Int) - ((4 + C.cap + C.over : Nat) : Int) < (C.base : Int)) := by omega
  have hN : 5 ≤ 4 + C.cap + C.over ∧ 4 + C.cap + C.over ≤ 5000 := by omega
  have t0 : Turned [] w (w.alloc (.cells #[.pointer (some ⟨p, 0, none⟩), .int .i64 C.base, .int .i64 C.cap, .int .i64 C.over] 66)) := (Turned.refl _ _).alloc _
  have HD : Hid (Dq (w.alloc (.cells #[.pointer (some ⟨p, 0, none⟩), .int .i64 C.base, .int .i64 C.cap, .int .i64 C.over] 66)) w.heap.size p q C l s) :=
    ⟨⟨by have := h.ltp; omega, by have := h.ltq; omega⟩, hc, ho, hr, hm, heap_alloc_new _ _, h.turned t0 (by simp) (by simp)⟩
  generalize 4 + C.cap + C.over = need at *
  clear h
  generalize hn : l.length = n at *
  clear hn
  go_enter Try.func10, Try.ntmps10
  go_wp2_with fail
  refine HN.out.mono ?_
  rintro e w1 ⟨rfl, rfl⟩
  go_wp2_with fail
  refine HL.out.mono ?_
  rintro e w1 ⟨rfl, rfl⟩
  go_wp2_with fail
  all_goals first | (go_ret2; exact ⟨rfl, HD.out, t0, by simp⟩) | (rename_i hx; exfalso; rcases hx with (hx | hx) | hx <;> first | omega | (simp at hx; try omega))

/-- A deque, however many accesses were counted. -/
def Dn (w : World) (d p q : Nat) (C : Cfg) (l : List Int) : Prop := ∃ s, Dq w d p q C l s
theorem Dn.turned {w w' : World} {d p q : Nat} {C : Cfg} {l : List Int} (h : Dn w d p q C l) {S : List Nat} (t : Turned S w w') (hd : d ∉ S) (hp : p ∉ S) (hq : q ∉ S) : Dn w' d p q C l := by
  obtain ⟨s, h⟩ := h
  exact ⟨s, h.turned t hd hp hq⟩

theorem fit_new {C : Cfg} {l : List Int} {a : Stp} {v : Int} {N : Int} (ha : a = .pushReadBottom ∨ a = .popReadBottom ∨ a = .stealReadTop) (ht : -N ≤ rd C l 0 ∧ rd C l 0 ≤ N) (hb : -N ≤ rd C l 1 ∧ rd C l 1 ≤ N) : Fit C l (opNew a v) N :=
  ⟨ht, hb, by show -N ≤ (0 : Int) ∧ (0 : Int) ≤ N; omega, by show -N ≤ (0 : Int) ∧ (0 : Int) ≤ N; omega, by rcases ha with rfl | rfl | rfl <;> trivial⟩

/-- An operation from its beginning to its end, where nobody else is at work: twelve steps at most. -/
def opRun (C : Cfg) (a : Stp) (v : Int) (l : List Int) : List Int × OpS := goes C 12 (l, opNew a v)

theorem Dn.push {w : World} {d p q : Nat} {C : Cfg} {l : List Int} (h : Dn w d p q C l) (v : Int) :
    Calls Try.prog 14 #[.pointer (some ⟨d, 0, none⟩), .int .i64 v] w fun e w' => e = .returned (.pointer (some ⟨w.heap.size, 0, none⟩)) ∧ Dn w' d p q C l ∧ OpB w' w.heap.size d (opNew .pushReadBottom v) ∧ Turned [] w w' ∧ w.heap.size ≠ d ∧ w.heap.size ≠ p ∧ w.heap.size ≠ q := by
  obtain ⟨s, h⟩ := h
  refine (push_any w d p q C l s v h).mono ?_
  rintro e w' ⟨rfl, h1, h2, h3, h4⟩
  exact ⟨rfl, ⟨s, h1⟩, h2, h3, by have := h.ltd; omega, by have := h.mem.ltp; omega, by have := h.mem.ltq; omega⟩
theorem Dn.pop {w : World} {d p q : Nat} {C : Cfg} {l : List Int} (h : Dn w d p q C l) :
    Calls Try.prog 42 #[.pointer (some ⟨d, 0, none⟩)] w fun e w' => e = .returned (.pointer (some ⟨w.heap.size, 0, none⟩)) ∧ Dn w' d p q C l ∧ OpB w' w.heap.size d (opNew .popReadBottom 0) ∧ Turned [] w w' ∧ w.heap.size ≠ d ∧ w.heap.size ≠ p ∧ w.heap.size ≠ q := by
  obtain ⟨s, h⟩ := h
  refine (pop_any w d p q C l s h).mono ?_
  rintro e w' ⟨rfl, h1, h2, h3, h4⟩
  exact ⟨rfl, ⟨s, h1⟩, h2, h3, by have := h.ltd; omega, by have := h.mem.ltp; omega, by have := h.mem.ltq; omega⟩
theorem Dn.steal {w : World} {d p q : Nat} {C : Cfg} {l : List Int} (h : Dn w d p q C l) :
    Calls Try.prog 43 #[.pointer (some ⟨d, 0, none⟩)] w fun e w' => e = .returned (.pointer (some ⟨w.heap.size, 0, none⟩)) ∧ Dn w' d p q C l ∧ OpB w' w.heap.size d (opNew .stealReadTop 0) ∧ Turned [] w w' ∧ w.heap.size ≠ d ∧ w.heap.size ≠ p ∧ w.heap.size ≠ q := by
  obtain ⟨s, h⟩ := h
  refine (steal_any w d p q C l s h).mono ?_
  rintro e w' ⟨rfl, h1, h2, h3, h4⟩
  exact ⟨rfl, ⟨s, h1⟩, h2, h3, by have := h.ltd; omega, by have := h.mem.ltp; omega, by have := h.mem.ltq; omega⟩

/-- Two operations by turns. -/
def goes2 (C : Cfg) : Nat → List Int × OpS × OpS → List Int × OpS × OpS
  | 0, r => r
  | k + 1, r => goes2 C k ((stepOf C (stepOf C r.1 r.2.1).1 r.2.2).1, (stepOf C r.1 r.2.1).2, (stepOf C (stepOf C r.1 r.2.1).1 r.2.2).2)

theorem turn_step (C : Cfg) (r : Rs) (b : Nat) (hn : r.n < 100000) : (turn C r (some b)).l = (stepOf C r.l (r.m b)).1 ∧ (turn C r (some b)).m b = (stepOf C r.l (r.m b)).2 ∧ ∀ c, c ≠ b → (turn C r (some b)).m c = r.m c := by
  by_cases hd : (r.m b).done = true
  · rw [turn_skip C r (some b) hd, stepOf_done C r.l hd]
    exact ⟨rfl, rfl, fun _ _ => rfl⟩
  · have hd' : (r.m b).done = false := by simpa using hd
    have e : turn C r (some b) = ⟨(stepOf C r.l (r.m b)).1, upd r.m b (stepOf C r.l (r.m b)).2, r.n + 1⟩ := by simp [turn, hn, hd']
    rw [e]
    exact ⟨rfl, by simp [upd], fun c hc => by simp [upd, hc]⟩

theorem rounds_two (C : Cfg) (b1 b2 : Nat) (hne : b1 ≠ b2) (k : Nat) : ∀ (r : Rs), r.n + 2 * k < 100000 → (rounds C [some b1, some b2] k r).l = (goes2 C k (r.l, r.m b1, r.m b2)).1 ∧ (rounds C [some b1, some b2] k r).m b1 = (goes2 C k (r.l, r.m b1, r.m b2)).2.1 ∧ (rounds C [some b1, some b2] k r).m b2 = (goes2 C k (r.l, r.m b1, r.m b2)).2.2 ∧ (rounds C [some b1, some b2] k r).n ≤ r.n + 2 * k := by
  induction k with
  | zero => intro r _; exact ⟨rfl, rfl, rfl, by simp [rounds]⟩
  | succ k ih =>
    intro r hn
    rw [rounds]
    have e : roundR C [some b1, some b2] r = turn C (turn C r (some b1)) (some b2) := rfl
    have n1 := turn_n C r (some b1)
    have n2 := turn_n C (turn C r (some b1)) (some b2)
    have h1 := turn_step C r b1 (by omega)
    have h2 := turn_step C (turn C r (some b1)) b2 (by omega)
    have := ih (roundR C [some b1, some b2] r) (by rw [e]; omega)
    rw [e] at this ⊢
    rw [h2.1, h2.2.1, h2.2.2 b1 hne, h1.2.1, h1.2.2 b2 (Ne.symm hne), h1.1] at this
    exact ⟨this.1, this.2.1, this.2.2.1, by omega⟩

theorem run_two (w : World) (d p q b1 b2 : Nat) (C : Cfg) (l : List Int) (o1 o2 : OpS) (a c : Nat) (K : Nat) (hK : K < 40000) (N : Int) (hN : N ≤ 1099511627776) (f1 : Fit C l o1 N) (f2 : Fit C l o2 N) (hd1 : (goes2 C K (l, o1, o2)).2.1.done = true) (hd2 : (goes2 C K (l, o1, o2)).2.2.done = true)
    (hc0 : w.cell? ⟨a, 0, none⟩ = some (.pointer (some ⟨b1, 0, none⟩))) (hc1 : w.cell? ⟨a, 1, none⟩ = some (.pointer (some ⟨b2, 0, none⟩))) (hb : b1 ≠ b2) (hne1 : b1 ≠ d ∧ b1 ≠ p ∧ b1 ≠ q) (hne2 : b2 ≠ d ∧ b2 ≠ p ∧ b2 ≠ q) (h : Dn w d p q C l) (ho1 : OpB w b1 d o1) (ho2 : OpB w b2 d o2) :
    Calls Try.prog 13 #[.pointer (some ⟨d, 0, none⟩), .slice (some ⟨a, 0, none⟩) 2 c] w fun e w' => (∃ n, e = .returned (.int .i64 n)) ∧ Dn w' d p q C (goes2 C K (l, o1, o2)).1 ∧ OpB w' b1 d (goes2 C K (l, o1, o2)).2.1 ∧ OpB w' b2 d (goes2 C K (l, o1, o2)).2.2 ∧ Turned [p, q, b1, b2] w w' := by
  obtain ⟨s, h⟩ := h
  have e2 : (fun k => if k = b1 then o1 else o2 : Nat → OpS) b2 = o2 := by simp [Ne.symm hb]
  refine (run_any w d p q C l s [b1, b2] (fun k => if k = b1 then o1 else o2) [some b1, some b2] a 0 c 2 N hN rfl (by omega) (fun x hx => by simpa using hx) (fun i x hx => ?_) ⟨h, fun x hx => ?_, fun x hx => ?_⟩ (fun x hx => ?_)).mono ?_
  · match i, hx with
    | 0, hx => cases hx; exact hc0
    | 1, hx => cases hx; exact hc1
    | i + 2, hx => simp at hx
  · simp only [List.mem_cons, List.not_mem_nil, or_false] at hx
    rcases hx with rfl | rfl
    · simpa using ho1
    · simpa [Ne.symm hb] using ho2
  · simp only [List.mem_cons, List.not_mem_nil, or_false] at hx
    rcases hx with rfl | rfl
    · exact hne1
    · exact hne2
  · simp only [List.mem_cons, List.not_mem_nil, or_false] at hx
    rcases hx with rfl | rfl
    · simpa using f1
    · simpa [Ne.symm hb] using f2
  · rintro e w' ⟨k, rfl, h1, ⟨s', h2⟩, h3⟩
    have h4 := rounds_two C b1 b2 hb K ⟨l, (fun k => if k = b1 then o1 else o2), 0⟩ (by show 0 + 2 * K < 100000; omega)
    have h5 := run_fin C [some b1, some b2] ⟨l, (fun k => if k = b1 then o1 else o2), 0⟩ k K h1 (fun x hx => by
      simp only [List.mem_cons, List.not_mem_nil, or_false] at hx
      simp only [e2] at h4
      rcases hx with rfl | rfl
      · simp only [dnOf]; rw [h4.2.1]; exact hd1
      · simp only [dnOf]; rw [h4.2.2.1]; exact hd2) (by have := h4.2.2.2; simp only at this; omega)
    simp only [e2] at h4
    rw [h5, h4.1] at h2
    have g1 := h2.ops b1 (by simp)
    have g2 := h2.ops b2 (by simp)
    rw [h4.2.1] at g1
    rw [h4.2.2.1] at g2
    exact ⟨⟨_, rfl⟩, ⟨s', h2.dq⟩, g1, g2, h3⟩
end Go.Proofs.Ytokabpgdklihlaa

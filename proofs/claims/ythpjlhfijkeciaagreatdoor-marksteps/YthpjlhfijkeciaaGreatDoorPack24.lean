/-
  Texts of the proof, several in one: DequeLaw, QuietLaw, DequeSeen.
-/
import Derived.Test.YthpjlhfijkeciaaGreatDoorPack21
import Derived.Test.YthpjlhfijkeciaaGreatDoorPack18
import Derived.Test.YthpjlhfijkeciaaGreatDoorPack10
/-
  What the laws of package deque share: New, Need, an operation from its beginning to its end, two operations by turns.
-/
namespace Go.Proofs.YthpjlhfijkeciaaGreatDoor
open Go.RowKit

theorem need_ok (cap over : Nat) (hc : 1 ≤ cap ∧ cap ≤ 64) (ho : over ≤ 4096) (w : World) :
    Calls Tryz.prog 49 #[.int .i64 cap, .int .i64 over] w fun e w' => e = .returned (.int .i64 ((4 + cap + over : Nat) : Int)) ∧ w' = w := by
  have h1 : ¬ ((cap : Int) < 1) := by omega
  have h2 : ¬ ((64 : Int) < cap) := by omega
  have h3 : ¬ ((over : Int) < 0) := by omega
  have h4 : ¬ ((4096 : Int) < over) := by omega
  go_enter Tryz.func49, Tryz.ntmps49
  go_wp2_with fail
  go_ret
  refine ⟨?_, rfl⟩
  congr 2

theorem dnew_ok (w : World) (p q : Nat) (C : Cfg) (l : List Int) (s : Int) (hc : 1 ≤ C.cap ∧ C.cap ≤ 64) (ho : C.over ≤ 4096) (hr : C.base + (4 + C.cap + C.over) ≤ l.length) (hm : l.length ≤ 65536) (h : Mem w p q l s) :
    Calls Tryz.prog 66 #[.pointer (some ⟨p, 0, none⟩), .int .i64 C.base, .int .i64 C.cap, .int .i64 C.over] w fun e w' => e = .returned (.tuple #[.pointer (some ⟨w.heap.size, 0, none⟩), .int .i64 0]) ∧ Dq w' w.heap.size p q C l s ∧ Turned [] w w' ∧ w'.heap.size = w.heap.size + 1 := by
  have HN := hide (need_ok C.cap C.over hc ho w)
  have HL := hide (len_mem p q l s w h)
  have HH := hide h
  have h1 : ¬ (((4 + C.cap + C.over : Nat) : Int) = 0) := by omega
  have h2 : ¬ ((C.base : Int) < 0) := by omega
  have h3 : ¬ ((l.length : Int) - ((4 + C.cap + C.over : Nat) : Int) < (C.base : Int)) := by omega
  have hN : 5 ≤ 4 + C.cap + C.over ∧ 4 + C.cap + C.over ≤ 5000 := by omega
  have t0 : Turned [] w (w.alloc (.cells #[.pointer (some ⟨p, 0, none⟩), .int .i64 C.base, .int .i64 C.cap, .int .i64 C.over] 149)) := (Turned.refl _ _).alloc _
  have HD : Hid (Dq (w.alloc (.cells #[.pointer (some ⟨p, 0, none⟩), .int .i64 C.base, .int .i64 C.cap, .int .i64 C.over] 149)) w.heap.size p q C l s) :=
    ⟨⟨by have := h.ltp; omega, by have := h.ltq; omega⟩, hc, ho, hr, hm, heap_alloc_new _ _, h.turned t0 (by simp) (by simp)⟩
  generalize 4 + C.cap + C.over = need at *
  clear h
  generalize hn : l.length = n at *
  clear hn
  go_enter Tryz.func66, Tryz.ntmps66
  go_wp2_with fail
  refine HN.out.mono ?_
  rintro e w1 ⟨rfl, rfl⟩
  go_wp2_with fail
  refine HL.out.mono ?_
  rintro e w1 ⟨rfl, rfl⟩
  go_wp2_with fail
  all_goals first | (go_ret2; exact ⟨rfl, HD.out, t0, by simp⟩) | (rename_i hx; exfalso; rcases hx with (hx | hx) | hx <;> first | omega | (simp at hx; try omega))

/-- A deque, however many accesses were counted. -/
def Dn (w : World) (d p q : Nat) (C : Cfg) (l : List Int) : Prop := ∃ s, Dq w d p q C l s
theorem Dn.turned {w w' : World} {d p q : Nat} {C : Cfg} {l : List Int} (h : Dn w d p q C l) {S : List Nat} (t : Turned S w w') (hd : d ∉ S) (hp : p ∉ S) (hq : q ∉ S) : Dn w' d p q C l := by
  obtain ⟨s, h⟩ := h
  exact ⟨s, h.turned t hd hp hq⟩

theorem fit_new {C : Cfg} {l : List Int} {a : Stp} {v : Int} {N : Int} (ha : a = .pushReadBottom ∨ a = .popReadBottom ∨ a = .stealReadTop) (ht : -N ≤ rd C l 0 ∧ rd C l 0 ≤ N) (hb : -N ≤ rd C l 1 ∧ rd C l 1 ≤ N) : Fit C l (opNew a v) N :=
  ⟨ht, hb, by show -N ≤ (0 : Int) ∧ (0 : Int) ≤ N; omega, by show -N ≤ (0 : Int) ∧ (0 : Int) ≤ N; omega, by rcases ha with rfl | rfl | rfl <;> trivial⟩

/-- An operation from its beginning to its end, where nobody else is at work: twelve steps at most. -/
def opRun (C : Cfg) (a : Stp) (v : Int) (l : List Int) : List Int × OpS := goes C 12 (l, opNew a v)

theorem Dn.push {w : World} {d p q : Nat} {C : Cfg} {l : List Int} (h : Dn w d p q C l) (v : Int) :
    Calls Tryz.prog 90 #[.pointer (some ⟨d, 0, none⟩), .int .i64 v] w fun e w' => e = .returned (.pointer (some ⟨w.heap.size, 0, none⟩)) ∧ Dn w' d p q C l ∧ OpB w' w.heap.size d (opNew .pushReadBottom v) ∧ Turned [] w w' ∧ w.heap.size ≠ d ∧ w.heap.size ≠ p ∧ w.heap.size ≠ q := by
  obtain ⟨s, h⟩ := h
  refine (push_any w d p q C l s v h).mono ?_
  rintro e w' ⟨rfl, h1, h2, h3, h4⟩
  exact ⟨rfl, ⟨s, h1⟩, h2, h3, by have := h.ltd; omega, by have := h.mem.ltp; omega, by have := h.mem.ltq; omega⟩
theorem Dn.pop {w : World} {d p q : Nat} {C : Cfg} {l : List Int} (h : Dn w d p q C l) :
    Calls Tryz.prog 84 #[.pointer (some ⟨d, 0, none⟩)] w fun e w' => e = .returned (.pointer (some ⟨w.heap.size, 0, none⟩)) ∧ Dn w' d p q C l ∧ OpB w' w.heap.size d (opNew .popReadBottom 0) ∧ Turned [] w w' ∧ w.heap.size ≠ d ∧ w.heap.size ≠ p ∧ w.heap.size ≠ q := by
  obtain ⟨s, h⟩ := h
  refine (pop_any w d p q C l s h).mono ?_
  rintro e w' ⟨rfl, h1, h2, h3, h4⟩
  exact ⟨rfl, ⟨s, h1⟩, h2, h3, by have := h.ltd; omega, by have := h.mem.ltp; omega, by have := h.mem.ltq; omega⟩
theorem Dn.steal {w : World} {d p q : Nat} {C : Cfg} {l : List Int} (h : Dn w d p q C l) :
    Calls Tryz.prog 85 #[.pointer (some ⟨d, 0, none⟩)] w fun e w' => e = .returned (.pointer (some ⟨w.heap.size, 0, none⟩)) ∧ Dn w' d p q C l ∧ OpB w' w.heap.size d (opNew .stealReadTop 0) ∧ Turned [] w w' ∧ w.heap.size ≠ d ∧ w.heap.size ≠ p ∧ w.heap.size ≠ q := by
  obtain ⟨s, h⟩ := h
  refine (steal_any w d p q C l s h).mono ?_
  rintro e w' ⟨rfl, h1, h2, h3, h4⟩
  exact ⟨rfl, ⟨s, h1⟩, h2, h3, by have := h.ltd; omega, by have := h.mem.ltp; omega, by have := h.mem.ltq; omega⟩

/-- Two operations by turns. -/
def goes2 (C : Cfg) : Nat → List Int × OpS × OpS → List Int × OpS × OpS
  | 0, r => r
  | k + 1, r => goes2 C k ((stepOf C (stepOf C r.1 r.2.1).1 r.2.2).1, (stepOf C r.1 r.2.1).2, (stepOf C (stepOf C r.1 r.2.1).1 r.2.2).2)

theorem turn_step (C : Cfg) (r : Rs) (b : Nat) (hn : r.n < 100000) : (turn C r (some b)).l = (stepOf C r.l (r.m b)).1 ∧ (turn C r (some b)).m b = (stepOf C r.l (r.m b)).2 ∧ ∀ c, c ≠ b → (turn C r (some b)).m c = r.m c := by
  by_cases hd : (r.m b).done = true
  · rw [turn_skip C r (some b) hd, stepOf_done C r.l hd]
    exact ⟨rfl, rfl, fun _ _ => rfl⟩
  · have hd' : (r.m b).done = false := by simpa using hd
    have e : turn C r (some b) = ⟨(stepOf C r.l (r.m b)).1, upd r.m b (stepOf C r.l (r.m b)).2, r.n + 1⟩ := by simp [turn, hn, hd']
    rw [e]
    exact ⟨rfl, by simp [upd], fun c hc => by simp [upd, hc]⟩

theorem rounds_two (C : Cfg) (b1 b2 : Nat) (hne : b1 ≠ b2) (k : Nat) : ∀ (r : Rs), r.n + 2 * k < 100000 → (rounds C [some b1, some b2] k r).l = (goes2 C k (r.l, r.m b1, r.m b2)).1 ∧ (rounds C [some b1, some b2] k r).m b1 = (goes2 C k (r.l, r.m b1, r.m b2)).2.1 ∧ (rounds C [some b1, some b2] k r).m b2 = (goes2 C k (r.l, r.m b1, r.m b2)).2.2 ∧ (rounds C [some b1, some b2] k r).n ≤ r.n + 2 * k := by
  induction k with
  | zero => intro r _; exact ⟨rfl, rfl, rfl, by simp [rounds]⟩
  | succ k ih =>
    intro r hn
    rw [rounds]
    have e : roundR C [some b1, some b2] r = turn C (turn C r (some b1)) (some b2) := rfl
    have n1 := turn_n C r (some b1)
    have n2 := turn_n C (turn C r (some b1)) (some b2)
    have h1 := turn_step C r b1 (by omega)
    have h2 := turn_step C (turn C r (some b1)) b2 (by omega)
    have := ih (roundR C [some b1, some b2] r) (by rw [e]; omega)
    rw [e] at this ⊢
    rw [h2.1, h2.2.1, h2.2.2 b1 hne, h1.2.1, h1.2.2 b2 (Ne.symm hne), h1.1] at this
    exact ⟨this.1, this.2.1, this.2.2.1, by omega⟩

end Go.Proofs.YthpjlhfijkeciaaGreatDoor

/-
  What the laws of package quiet share: New, Offer, Idle; the count with no deques, and with one more.
-/
namespace Go.Proofs.YthpjlhfijkeciaaGreatDoor
open Go.RowKit

theorem qnew_ok (w : World) (p q : Nat) (l : List Int) (s : Int) (at_ n : Nat) (ha : at_ < l.length) (hm : l.length ≤ 65536) (hn : 1 ≤ n ∧ n ≤ 64) (h : Mem w p q l s) :
    Calls Tryz.prog 52 #[.pointer (some ⟨p, 0, none⟩), .int .i64 at_, .int .i64 n] w fun e w' => e = .returned (.tuple #[.pointer (some ⟨w.heap.size, 0, none⟩), .int .i64 0]) ∧ Sh w' w.heap.size p q [] ⟨at_, n, []⟩ l s ∧ Turned [] w w' ∧ w'.heap.size = w.heap.size + 1 := by
  have HL := hide (len_mem p q l s w h)
  have h1 : ¬ ((at_ : Int) < 0) := by omega
  have h2 : ¬ ((l.length : Int) ≤ (at_ : Int)) := by omega
  have h3 : ¬ ((n : Int) < 1) := by omega
  have h4 : ¬ ((64 : Int) < (n : Int)) := by omega
  have t0 : Turned [] w (w.alloc (.cells #[.pointer (some ⟨p, 0, none⟩), .int .i64 at_, .int .i64 n] 136)) := (Turned.refl _ _).alloc _
  have HD : Hid (Sh (w.alloc (.cells #[.pointer (some ⟨p, 0, none⟩), .int .i64 at_, .int .i64 n] 136)) w.heap.size p q [] ⟨at_, n, []⟩ l s) :=
    ⟨heap_alloc_new _ _, ha, hm, hn, by simp, h.turned t0 (by simp) (by simp), fun i d hi => by simp at hi⟩
  clear h
  generalize hn : l.length = ll at *
  clear hn
  go_enter Tryz.func52, Tryz.ntmps52
  go_wp2_with fail
  refine HL.out.mono ?_
  rintro e w1 ⟨rfl, rfl⟩
  go_wp2_with fail
  all_goals first | (go_ret2; exact ⟨rfl, HD.out, t0, by simp⟩) | (rename_i hx; exfalso; rcases hx with (hx | hx) | hx <;> first | omega | (simp at hx; try omega))

/-- One deque more. -/
theorem Sh.add {w w' : World} {a p q d : Nat} {ds : List Nat} {Q : QC} {l : List Int} {s : Int} {C : Cfg} (h : Sh w a p q ds Q l s) (hd : Dq w' d p q C l s) (t : Turned [] w w') (hlen : ds.length < 64) : Sh w' a p q (ds ++ [d]) { Q with cs := Q.cs ++ [C] } l s := by
  have h1 := h.turned t (by simp) (by simp) (by simp) (by simp)
  refine ⟨h1.head, h1.cell, h1.most, h1.n, ⟨by simp [h1.len.1], by simp; omega⟩, h1.mem, fun i x hi => ?_⟩
  by_cases hlt : i < ds.length
  · rw [List.getElem?_append_left hlt] at hi
    have := h1.dq i x hi
    have e : cOf { Q with cs := Q.cs ++ [C] } i = cOf Q i := by
      unfold cOf
      simp only [List.getD_eq_getElem?_getD]
      rw [List.getElem?_append_left (by have := h1.len.1; omega)]
    rw [e]
    exact this
  · have hi' : i = ds.length := by
      have := (List.getElem?_eq_some_iff.1 hi).1
      simp at this
      omega
    subst hi'
    simp at hi
    subst hi
    have e : cOf { Q with cs := Q.cs ++ [C] } ds.length = C := by
      unfold cOf
      simp only [List.getD_eq_getElem?_getD]
      rw [h1.len.1, List.getElem?_append_right (Nat.le_refl _)]
      simp
    rw [e]
    exact hd

def pd (d : Nat) : Value := .pointer (some ⟨d, 0, none⟩)
theorem Tryz.infoDq : (Tryz.prog.info? 120).map (fun i => (i.zero, i.size, i.bytes)) = some (some (.pointer none), 1, 8) := by kernel_rfl

theorem clone_dqs (b off n c : Nat) (l : List Nat) (w : World) (hl : l.length = n) (hn : n ≤ 65536) (hc : ∀ i x, l[i]? = some x → w.cell? ⟨b, off + i, none⟩ = some (pd x)) (h0 : 0 < n) :
    Calls Tryz.prog 94 #[.slice (some ⟨b, off, none⟩) n c] w fun e w' => ∃ v, e = .returned v ∧ w'.ownsRow w.heap.size 120 1 v n (l.map pd) ∧ Turned [] w w' := by
  have und : Tryz.prog.underlying 84 = some (.slice 120) := by kernel_rfl
  have heq := fun w => Lib.run_eql_slice_nil (P := Tryz.prog) w 84 120 (some ⟨b, off, none⟩) n c 0 0 und
  have hbs : ∀ w : World, (Instr.buildSlice 84 0 #[]).run Tryz.prog w = .ok (.slice (some ⟨w.heap.size, 0, none⟩) 0 0) (w.alloc (.cells #[] 120)) := fun _ => by kernel_rfl
  have hcl : ∀ j u, (l.map pd)[j]? = some u → (w.alloc (.cells #[] 120)).cell? (Addr.add ⟨b, off, none⟩ j) = some u := by
    intro j u hu
    rw [List.getElem?_map] at hu
    obtain ⟨x, hx, rfl⟩ := Option.map_eq_some_iff.1 hu
    have h1 := hc j x hx
    have h2 := block_lt h1
    rw [show Addr.add ⟨b, off, none⟩ j = ⟨b, off + j, none⟩ by simp [Addr.add]]
    rw [World.cell?_of_block (w := w) (Below.heap_alloc _ _ _ h2)]
    exact h1
  have HC : Hid (∀ j u, (l.map pd)[j]? = some u → (w.alloc (.cells #[] 120)).cell? (Addr.add ⟨b, off, none⟩ j) = some u) := hcl
  have HL : Hid (l.length = n) := hl
  clear hc hl hcl
  obtain ⟨i0, hi, hi0⟩ := Option.map_eq_some_iff.1 Tryz.infoDq
  simp only [Prod.mk.injEq] at hi0
  obtain ⟨hz0, hz1, hz2⟩ := hi0
  go_enter Tryz.func94, Tryz.ntmps94
  go_wp2_with (at_builtin; (refine wpList_append_grows _ rfl _ _ 84 rfl 120 i0 (.pointer none) 1 8 und hi hz0 hz1 hz2 rfl (by decide) (some ⟨w.heap.size, 0, none⟩) 0 0 [] rfl (by intro h; cases h) rfl (by intro b hb j u hu; simp at hu) ⟨b, off, none⟩ n c (l.map pd) rfl (by simp [Hid.out HL]) HC.out (by intro u hu; obtain ⟨x, _, rfl⟩ := List.mem_map.1 hu; rfl) (by omega) (by unfold maxLen; omega) (by omega) ?_); intro v' w3 hown hgr)
  go_ret
  simp only [Nat.zero_add, List.nil_append] at hown
  exact ⟨_, rfl, ownsRow_mono hown (by simp), ((Turned.refl _ _).alloc _).grown hgr (fun k hk => by cases hk)⟩

section
variable (w : World) (a p q b : Nat) (ds : List Nat) (Q : QC) (l : List Int) (s : Int)

theorem qnone_any (h : Sh w a p q ds Q l s) :
    Calls Tryz.prog 92 #[.pointer (some ⟨a, 0, none⟩)] w fun e w' => e = .returned (.bool false) ∧ w' = w := by
  have h2 := h.c2
  have hc := h.n
  have hz : ¬ ((Q.n : Int) = 0) := by omega
  clear h
  go_enter Tryz.func92, Tryz.ntmps92
  go_wp2_with fail
  all_goals (go_ret; exact ⟨by simp; omega, rfl⟩)

/-- An offer at its beginning. -/
def ofNew : OfS := ⟨.countIn, 0, 0, 0⟩

theorem offer_any (g off c : Nat) (hne : 0 < ds.length) (hc : ∀ i x, ds[i]? = some x → w.cell? ⟨g, off + i, none⟩ = some (pd x)) (h : Sh w a p q ds Q l s) :
    Calls Tryz.prog 82 #[.pointer (some ⟨a, 0, none⟩), .slice (some ⟨g, off, none⟩) ds.length c] w fun e w' => ∃ b, e = .returned (.pointer (some ⟨b, 0, none⟩)) ∧ w.heap.size ≤ b ∧ OfB w' b a ds ofNew ∧ Turned [] w w' := by
  have H := hide (qnone_any w a p q ds Q l s h)
  have HC := hide (clone_dqs g off ds.length c ds w rfl (by have := h.len; omega) hc hne)
  have HE := hide hne
  generalize hm : ds.length = m at *
  have HM := hide hm
  clear h hc hne hm
  go_enter Tryz.func82, Tryz.ntmps82
  go_wp2_with fail
  refine H.out.mono ?_
  rintro e w1 ⟨rfl, rfl⟩
  clear H
  go_wp2_with fail
  refine HC.out.mono ?_
  rintro e w2 ⟨v, rfl, ho, ht⟩
  obtain ⟨g2, cap2, rfl, h1, h2, _, h3, _, ⟨cc, h4⟩⟩ := ownsRow_open ho HE.out
  have HH := hide (And.intro h1 (And.intro h2 (And.intro h3 (And.intro h4 ht))))
  clear HC ho ht h1 h2 h3 h4
  go_wp2_with fail
  go_ret
  obtain ⟨h1, h2, h3, h4, ht⟩ := HH.out
  refine ⟨_, rfl, ht.size, ?_, ht.alloc _⟩
  have e := HM.out
  subst e
  refine ⟨g2, cap2, heap_alloc_new _ _, ⟨cc, _, by rw [Below.heap_alloc _ _ _ h2]; exact h4⟩, fun i d hi => ?_⟩
  rw [World.cell?_of_block (w := w2) (Below.heap_alloc _ _ _ h2)]
  exact h3 i _ (by rw [List.getElem?_map, hi]; rfl)

/-- The words of one cell. -/
theorem words_one (h : Sh w a p q ds Q l s) : Calls Tryz.prog 23 #[.pointer (some ⟨p, 0, none⟩), .int .i64 Q.at_, .int .i64 (IntKind.i64.wrap ((Q.at_ : Int) + 1))] w fun e w2 => ∃ g cap, e = .returned (.slice (some ⟨g, 0, none⟩) 1 cap) ∧ w2.cell? ⟨g, 0, none⟩ = some (.int .i64 (cnt Q l)) ∧ Turned [] w w2 := by
  have hc := h.cell
  have hm := h.most
  rw [show IntKind.i64.wrap ((Q.at_ : Int) + 1) = ((Q.at_ + 1 : Nat) : Int) by rw [IntKind.wrap_i64]; omega]
  refine (words_mem p q l s Q.at_ ((Q.at_ + 1 : Nat) : Int) w h.most h.mem).mono ?_
  rintro e w2 ⟨v, rfl, ho, ht⟩
  have e1 : (min (max ((Q.at_ + 1 : Nat) : Int) 0) (l.length : Int)).toNat = Q.at_ + 1 := by omega
  have e2 : (min (max (Q.at_ : Int) 0) (l.length : Int)).toNat = Q.at_ := by omega
  rw [e1, e2] at ho
  have e3 : (l.take (Q.at_ + 1)).drop Q.at_ = [cnt Q l] := by
    apply List.ext_getElem?
    intro i
    rw [List.getElem?_drop]
    by_cases hi : i = 0
    · subst hi
      rw [List.getElem?_take_of_lt (by omega)]
      simpa using h.at
    · rw [List.getElem?_eq_none (by simp; omega), List.getElem?_eq_none (by simp; omega)]
  rw [e3] at ho
  obtain ⟨g, cap, rfl, _, _, _, h3, _⟩ := ownsInts_open ho (by simp)
  exact ⟨g, cap, rfl, h3 0 _ rfl, ht⟩

end

/-- The count and the deques, however many accesses were counted. -/
def Sx (w : World) (a p q : Nat) (ds : List Nat) (Q : QC) (l : List Int) : Prop := ∃ s, Sh w a p q ds Q l s
section
variable {w w' : World} {a p q b : Nat} {ds : List Nat} {Q : QC} {l : List Int}
theorem Sx.turned (h : Sx w a p q ds Q l) {S : List Nat} (t : Turned S w w') (ha : a ∉ S) (hp : p ∉ S) (hq : q ∉ S) (hd : ∀ d, d ∈ ds → d ∉ S) : Sx w' a p q ds Q l := by
  obtain ⟨s, h⟩ := h
  exact ⟨s, h.turned t ha hp hq hd⟩
theorem Sx.turned0 (h : Sx w a p q ds Q l) (t : Turned [] w w') : Sx w' a p q ds Q l := h.turned t (by simp) (by simp) (by simp) (by simp)

/-- A step, by what it comes to. -/
theorem Sx.step (h : Sx w a p q ds Q l) {o o' : OfS} {l' : List Int} (ho : OfB w b a ds o) (hb : -1000000 ≤ cnt Q l ∧ cnt Q l ≤ 1000000) (hk : QOk Q o) (hr : stepQ Q l o = (l', o')) :
    Calls Tryz.prog 95 #[.pointer (some ⟨b, 0, none⟩)] w fun e w' => e = .returned (.int .i64 o'.state) ∧ Sx w' a p q ds Q l' ∧ OfB w' b a ds o' ∧ Turned [p, q, b] w w' := by
  obtain ⟨s, h⟩ := h
  refine (qstep_any w a p q b ds Q l s o hb hk h ho).mono ?_
  rintro e w' ⟨rfl, h1, h2, h3⟩
  rw [hr] at h1 h2
  exact ⟨by rw [hr], h1, h2, h3⟩

/-- Another offer stays through a step. -/
theorem OfB.other (h : Sx w a p q ds Q l) {o o2 : OfS} {b2 : Nat} (h1 : OfB w b a ds o) (h2 : OfB w b2 a ds o2) (hne : b2 ≠ b) (t : Turned [p, q, b] w w') : OfB w' b2 a ds o2 := by
  obtain ⟨s, h⟩ := h
  obtain ⟨c1, t1⟩ := h1.type
  obtain ⟨c2, t2⟩ := h2.type
  refine h2.turned t (by simp; exact ⟨ne_of_type t2 h.mem.head (by decide), ne_of_type t2 h.mem.row (by decide), hne⟩) (fun k hk => ?_)
  simp at hk
  rcases hk with rfl | rfl | rfl
  · exact noRow h.mem.head (by decide)
  · exact noRow h.mem.row (by decide)
  · exact noRow t1 (by decide)
end
end Go.Proofs.YthpjlhfijkeciaaGreatDoor

/-
  An owner and three thieves at one deque, whatever the order of their steps: who holds the lock, where top and bottom stand ('FI'); by turns all end ('fi_ends'). No Go is walked here.
-/
namespace Go.Proofs.YthpjlhfijkeciaaGreatDoor
open Go.RowKit

/-- Who holds the lock. -/
def holdsAt : Stp → Bool
  | .pushCount | .pushCell | .pushCounted | .takeCount | .takeCell | .takeCounted | .free => true
  | _ => false
def hn (o : OpS) : Int := if !o.done && holdsAt o.at_ then 1 else 0

def thiefAt : Stp → Bool
  | .stealReadTop | .stealReadBottom | .stealSlot | .stealSwap | .takeLock | .takeCount | .takeCell | .takeCounted | .free => true
  | _ => false
def ownerAt : Stp → Bool
  | .stealReadTop | .stealReadBottom | .stealSlot | .stealSwap => false
  | _ => true

/-- The owner is between its lesser bottom and the swap. -/
def mid (o : OpS) : Prop := o.done = false ∧ (o.at_ = .popReadTop ∨ o.at_ = .popLast ∨ o.at_ = .popSwap)

/-- Top and bottom, as the owner stands. -/
def OwnI (T B : Int) (o : OpS) : Prop :=
  if o.done then T ≤ B else
  match o.at_ with
  | .pushReadTop | .pushSlot | .pushBottom => T ≤ B ∧ o.bottom = B
  | .popBottom => T ≤ B ∧ o.bottom = B - 1
  | .popReadTop => T ≤ B + 1 ∧ o.bottom = B
  | .popLast | .popSwap => T ≤ B + 1 ∧ B ≤ T ∧ o.bottom = B ∧ o.top = B
  | .popWon | .popNothing => o.top = T ∧ T = B + 1
  | _ => T ≤ B

/-- A thief that would swap the top finds an item there. -/
def ThI (T B : Int) (o0 o : OpS) : Prop :=
  o.done = false →
  match o.at_ with
  | .stealReadBottom => o.top ≤ T
  | .stealSlot | .stealSwap => o.top ≤ T ∧ (o.top = T → T < B ∨ (T = B ∧ mid o0))
  | _ => True

structure FI (C : Cfg) (l : List Int) (a : Nat → OpS) : Prop where
  lock : rd C l 2 = hn (a 0) + hn (a 1) + hn (a 2) + hn (a 3)
  one : rd C l 2 ≤ 1
  kind : (a 0).done = false → ownerAt (a 0).at_ = true
  kinds : ∀ i, 1 ≤ i → i ≤ 3 → (a i).done = false → thiefAt (a i).at_ = true
  own : OwnI (rd C l 0) (rd C l 1) (a 0)
  thf : ∀ i, 1 ≤ i → i ≤ 3 → ThI (rd C l 0) (rd C l 1) (a 0) (a i)
  stk : 0 ≤ rd C l 3
  cnt : ∀ i, i ≤ 3 → CntOk C (a i)
  room : C.base + (4 + C.cap + C.over) ≤ l.length
  cap : 1 ≤ C.cap

/-- The four words behind a step. -/
structure Eff (C : Cfg) (l l' : List Int) (T B L N : Int) : Prop where
  t : rd C l' 0 = T
  b : rd C l' 1 = B
  k : rd C l' 2 = L
  n : rd C l' 3 = N
  len : l'.length = l.length

theorem eff_same (C : Cfg) (l : List Int) : Eff C l l (rd C l 0) (rd C l 1) (rd C l 2) (rd C l 3) := ⟨rfl, rfl, rfl, rfl, rfl⟩
theorem eff_far (C : Cfg) (l : List Int) (k : Nat) (v : Int) (hk : 4 ≤ k) : Eff C l (wr C l k v) (rd C l 0) (rd C l 1) (rd C l 2) (rd C l 3) :=
  ⟨rd_wr_ne _ _ _ _ _ (by omega), rd_wr_ne _ _ _ _ _ (by omega), rd_wr_ne _ _ _ _ _ (by omega), rd_wr_ne _ _ _ _ _ (by omega), wr_length _ _ _ _⟩
theorem eff_0 (C : Cfg) (l : List Int) (v : Int) (h : C.base + 0 < l.length) : Eff C l (wr C l 0 v) v (rd C l 1) (rd C l 2) (rd C l 3) :=
  ⟨by rw [rd_wr _ _ _ _ _ h, if_pos rfl], rd_wr_ne _ _ _ _ _ (by omega), rd_wr_ne _ _ _ _ _ (by omega), rd_wr_ne _ _ _ _ _ (by omega), wr_length _ _ _ _⟩
theorem eff_1 (C : Cfg) (l : List Int) (v : Int) (h : C.base + 1 < l.length) : Eff C l (wr C l 1 v) (rd C l 0) v (rd C l 2) (rd C l 3) :=
  ⟨rd_wr_ne _ _ _ _ _ (by omega), by rw [rd_wr _ _ _ _ _ h, if_pos rfl], rd_wr_ne _ _ _ _ _ (by omega), rd_wr_ne _ _ _ _ _ (by omega), wr_length _ _ _ _⟩
theorem eff_2 (C : Cfg) (l : List Int) (v : Int) (h : C.base + 2 < l.length) : Eff C l (wr C l 2 v) (rd C l 0) (rd C l 1) v (rd C l 3) :=
  ⟨rd_wr_ne _ _ _ _ _ (by omega), rd_wr_ne _ _ _ _ _ (by omega), by rw [rd_wr _ _ _ _ _ h, if_pos rfl], rd_wr_ne _ _ _ _ _ (by omega), wr_length _ _ _ _⟩
theorem eff_3 (C : Cfg) (l : List Int) (v : Int) (h : C.base + 3 < l.length) : Eff C l (wr C l 3 v) (rd C l 0) (rd C l 1) (rd C l 2) v :=
  ⟨rd_wr_ne _ _ _ _ _ (by omega), rd_wr_ne _ _ _ _ _ (by omega), rd_wr_ne _ _ _ _ _ (by omega), by rw [rd_wr _ _ _ _ _ h, if_pos rfl], wr_length _ _ _ _⟩

theorem cnt_own (C : Cfg) (l : List Int) (o : OpS) (h : CntOk C o) : CntOk C (stepOf C l o).2 := by
  have hs := stackedOf_le C (rd C l 3)
  unfold stepOf
  by_cases hd : o.done = true
  · rw [if_pos hd]; exact h
  · rw [if_neg hd]
    unfold CntOk at h ⊢
    obtain ⟨a, dn, t, u, n, v, en⟩ := o
    have hs' : ¬ C.over ≤ stackedOf C (rd C l 3) → stackedOf C (rd C l 3) < C.over := fun h => by omega
    have hs2 : ¬ stackedOf C (rd C l 3) = 0 → 0 < stackedOf C (rd C l 3) ∧ stackedOf C (rd C l 3) ≤ C.over := fun h => by omega
    cases a
    case pushCount => by_cases hz : C.over ≤ stackedOf C (rd C l 3) <;> simp [hz] ; exact hs' hz
    case takeCount => by_cases hz : stackedOf C (rd C l 3) = 0 <;> simp [hz] ; exact hs2 hz
    case pushLock => by_cases hz : rd C l 2 = 0 <;> simp [hz]
    case takeLock => by_cases hz : rd C l 2 = 0 <;> simp [hz]
    case popSwap => by_cases hz : rd C l 0 = t <;> simp [hz]
    case stealSwap => by_cases hz : rd C l 0 = t <;> simp [hz]
    case pushReadTop => by_cases hz : heldOf C (rd C l 0) u < C.cap <;> simp [hz]
    case stealReadBottom => by_cases hz : t < rd C l 1 <;> simp [hz]
    case popReadTop => by_cases hz : rd C l 0 < u <;> by_cases hy : rd C l 0 = u <;> simp [hz, hy]
    case pushCell => exact h
    case takeCell => exact h
    all_goals trivial

/-- What a step changes, of what the invariant sees: either the four words and the operation's standing as told, by the step's name. -/
def StepSees (T B L N T' B' L' N' : Int) (o o' : OpS) : Prop :=
  match o.at_ with
  | .pushReadBottom => T' = T ∧ B' = B ∧ L' = L ∧ N' = N ∧ o'.done = false ∧ o'.at_ = .pushReadTop ∧ o'.bottom = B
  | .pushReadTop => T' = T ∧ B' = B ∧ L' = L ∧ N' = N ∧ o'.done = false ∧ (o'.at_ = .pushSlot ∨ o'.at_ = .pushLock) ∧ o'.bottom = o.bottom
  | .pushSlot => T' = T ∧ B' = B ∧ L' = L ∧ N' = N ∧ o'.done = false ∧ o'.at_ = .pushBottom ∧ o'.bottom = o.bottom
  | .pushBottom => T' = T ∧ B' = o.bottom + 1 ∧ L' = L ∧ N' = N ∧ o'.done = true
  | .pushLock => T' = T ∧ B' = B ∧ N' = N ∧ o'.done = false ∧ ((L = 0 ∧ L' = 1 ∧ o'.at_ = .pushCount) ∨ (L ≠ 0 ∧ L' = L ∧ o'.at_ = .pushLock))
  | .pushCount => T' = T ∧ B' = B ∧ L' = L ∧ N' = N ∧ o'.done = false ∧ (o'.at_ = .pushCell ∨ o'.at_ = .free)
  | .pushCell => T' = T ∧ B' = B ∧ L' = L ∧ N' = N ∧ o'.done = false ∧ o'.at_ = .pushCounted
  | .pushCounted => T' = T ∧ B' = B ∧ L' = L ∧ N' = (o.count : Int) + 1 ∧ o'.done = false ∧ o'.at_ = .free
  | .free => T' = T ∧ B' = B ∧ L' = 0 ∧ N' = N ∧ o'.done = true
  | .popReadBottom => T' = T ∧ B' = B ∧ L' = L ∧ N' = N ∧ o'.done = false ∧ o'.at_ = .popBottom ∧ o'.bottom = B - 1
  | .popBottom => T' = T ∧ B' = o.bottom ∧ L' = L ∧ N' = N ∧ o'.done = false ∧ o'.at_ = .popReadTop ∧ o'.bottom = o.bottom
  | .popReadTop => T' = T ∧ B' = B ∧ L' = L ∧ N' = N ∧ o'.done = false ∧ o'.top = T ∧ o'.bottom = o.bottom ∧ ((T < o.bottom ∧ o'.at_ = .popSlot) ∨ (T = o.bottom ∧ o'.at_ = .popLast) ∨ (o.bottom < T ∧ o'.at_ = .popNothing))
  | .popSlot => T' = T ∧ B' = B ∧ L' = L ∧ N' = N ∧ o'.done = true
  | .popLast => T' = T ∧ B' = B ∧ L' = L ∧ N' = N ∧ o'.done = false ∧ o'.at_ = .popSwap ∧ o'.top = o.top ∧ o'.bottom = o.bottom
  | .popSwap => B' = B ∧ L' = L ∧ N' = N ∧ o'.done = false ∧ o'.top = o.top + 1 ∧ ((T = o.top ∧ T' = o.top + 1 ∧ o'.at_ = .popWon) ∨ (T ≠ o.top ∧ T' = T ∧ o'.at_ = .popNothing))
  | .popWon => T' = T ∧ B' = o.top ∧ L' = L ∧ N' = N ∧ o'.done = true
  | .popNothing => T' = T ∧ B' = o.top ∧ L' = L ∧ N' = N ∧ o'.done = false ∧ o'.at_ = .takeLock
  | .stealReadTop => T' = T ∧ B' = B ∧ L' = L ∧ N' = N ∧ o'.done = false ∧ o'.at_ = .stealReadBottom ∧ o'.top = T
  | .stealReadBottom => T' = T ∧ B' = B ∧ L' = L ∧ N' = N ∧ o'.done = false ∧ o'.top = o.top ∧ ((o.top < B ∧ o'.at_ = .stealSlot) ∨ o'.at_ = .takeLock)
  | .stealSlot => T' = T ∧ B' = B ∧ L' = L ∧ N' = N ∧ o'.done = false ∧ o'.at_ = .stealSwap ∧ o'.top = o.top
  | .stealSwap => B' = B ∧ L' = L ∧ N' = N ∧ o'.done = true ∧ ((T = o.top ∧ T' = o.top + 1) ∨ (T ≠ o.top ∧ T' = T))
  | .takeLock => T' = T ∧ B' = B ∧ N' = N ∧ o'.done = false ∧ ((L = 0 ∧ L' = 1 ∧ o'.at_ = .takeCount) ∨ (L ≠ 0 ∧ L' = L ∧ o'.at_ = .takeLock))
  | .takeCount => T' = T ∧ B' = B ∧ L' = L ∧ N' = N ∧ o'.done = false ∧ (o'.at_ = .takeCell ∨ o'.at_ = .free)
  | .takeCell => T' = T ∧ B' = B ∧ L' = L ∧ N' = N ∧ o'.done = false ∧ o'.at_ = .takeCounted
  | .takeCounted => T' = T ∧ B' = B ∧ L' = L ∧ N' = (o.count : Int) - 1 ∧ o'.done = false ∧ o'.at_ = .free

theorem step_sees (C : Cfg) (l : List Int) (o : OpS) (hr : C.base + (4 + C.cap + C.over) ≤ l.length) (hd : o.done = false) :
    (stepOf C l o).1.length = l.length ∧ StepSees (rd C l 0) (rd C l 1) (rd C l 2) (rd C l 3) (rd C (stepOf C l o).1 0) (rd C (stepOf C l o).1 1) (rd C (stepOf C l o).1 2) (rd C (stepOf C l o).1 3) o (stepOf C l o).2 := by
  obtain ⟨a, dn, t, u, n, v, en⟩ := o
  have hd' : dn = false := hd
  subst hd'
  have h0 : C.base + 0 < l.length := by omega
  have h1 : C.base + 1 < l.length := by omega
  have h2 : C.base + 2 < l.length := by omega
  have h3 : C.base + 3 < l.length := by omega
  have es := eff_same C l
  have far : ∀ k v, 4 ≤ k → Eff C l (wr C l k v) (rd C l 0) (rd C l 1) (rd C l 2) (rd C l 3) := fun k v hk => eff_far C l k v hk
  have hsl : ∀ z, 4 ≤ slotOf C z := fun z => by unfold slotOf; omega
  cases a
  case pushSlot => have e := far (slotOf C u) v (hsl u); simp [stepOf, StepSees, e.t, e.b, e.k, e.n, e.len]
  case pushCell => have e := far (4 + C.cap + n) v (by omega); simp [stepOf, StepSees, e.t, e.b, e.k, e.n, e.len]
  case pushBottom => have e := eff_1 C l (u + 1) h1; simp [stepOf, StepSees, e.t, e.b, e.k, e.n, e.len]
  case popBottom => have e := eff_1 C l u h1; simp [stepOf, StepSees, e.t, e.b, e.k, e.n, e.len]
  case popWon => have e := eff_1 C l t h1; simp [stepOf, StepSees, e.t, e.b, e.k, e.n, e.len]
  case popNothing => have e := eff_1 C l t h1; simp [stepOf, StepSees, e.t, e.b, e.k, e.n, e.len]
  case pushCounted => have e := eff_3 C l ((n : Int) + 1) h3; simp [stepOf, StepSees, e.t, e.b, e.k, e.n, e.len]
  case takeCounted => have e := eff_3 C l ((n : Int) - 1) h3; simp [stepOf, StepSees, e.t, e.b, e.k, e.n, e.len]
  case free => have e := eff_2 C l 0 h2; simp [stepOf, StepSees, e.t, e.b, e.k, e.n, e.len]
  case pushLock =>
    have e := eff_2 C l 1 h2
    by_cases hz : rd C l 2 = 0 <;> simp [stepOf, StepSees, hz, e.t, e.b, e.k, e.n, e.len]
  case takeLock =>
    have e := eff_2 C l 1 h2
    by_cases hz : rd C l 2 = 0 <;> simp [stepOf, StepSees, hz, e.t, e.b, e.k, e.n, e.len]
  case pushCount => by_cases hz : C.over ≤ stackedOf C (rd C l 3) <;> simp [stepOf, StepSees, hz]
  case takeCount => by_cases hz : stackedOf C (rd C l 3) = 0 <;> simp [stepOf, StepSees, hz]
  case popSwap =>
    have e := eff_0 C l (t + 1) h0
    by_cases hz : rd C l 0 = t <;> simp [stepOf, StepSees, hz, e.t, e.b, e.k, e.n, e.len]
  case stealSwap =>
    have e := eff_0 C l (t + 1) h0
    by_cases hz : rd C l 0 = t <;> simp [stepOf, StepSees, hz, e.t, e.b, e.k, e.n, e.len]
  case pushReadTop => by_cases hz : heldOf C (rd C l 0) u < C.cap <;> simp [stepOf, StepSees, hz]
  case stealReadBottom => by_cases hz : t < rd C l 1 <;> simp [stepOf, StepSees, hz]
  case popReadTop =>
    by_cases hz : rd C l 0 < u
    · simp [stepOf, StepSees, hz]
    · by_cases hy : rd C l 0 = u
      · simp [stepOf, StepSees, hy]
      · simp [stepOf, StepSees, hz, hy]; omega
  all_goals simp [stepOf, StepSees]

theorem hn_vals (o : OpS) : hn o = 0 ∨ hn o = 1 := by unfold hn; split <;> simp
theorem hn_done {o : OpS} (h : o.done = true) : hn o = 0 := by simp [hn, h]
theorem hn_open {o : OpS} (h : o.done = false) : hn o = if holdsAt o.at_ then 1 else 0 := by simp [hn, h]

/-- A step's part in the lock. -/
theorem hn_step {T B L N T' B' L' N' : Int} {o o' : OpS} (h : StepSees T B L N T' B' L' N' o o') (hd : o.done = false) (hL : L = 0 ∨ L = 1) (hh : hn o = 1 → L = 1) : L' - L = hn o' - hn o ∧ L' ≤ 1 := by
  obtain ⟨a, dn, t, u, n, v, en⟩ := o
  have hd' : dn = false := hd
  subst hd'
  unfold StepSees at h
  have ho : hn ⟨a, false, t, u, n, v, en⟩ = if holdsAt a then 1 else 0 := hn_open rfl
  rw [ho] at hh ⊢
  cases a <;> simp only at h <;> simp only [holdsAt, if_true, if_false, Bool.false_eq_true] at hh ⊢
  case free =>
    have h1 := hn_done (h.2.2.2.2)
    have := hh trivial
    rw [h1, h.2.2.1]
    omega
  case pushBottom => have h1 := hn_done h.2.2.2.2; omega
  case popSlot => have h1 := hn_done h.2.2.2.2; omega
  case popWon => have h1 := hn_done h.2.2.2.2; omega
  case stealSwap => have h1 := hn_done h.2.2.2.1; omega
  case pushLock =>
    obtain ⟨_, _, _, hd2, h | h⟩ := h
    · have h1 := hn_open hd2; rw [h.2.2] at h1; simp [holdsAt] at h1; omega
    · have h1 := hn_open hd2; rw [h.2.2] at h1; simp [holdsAt] at h1; omega
  case takeLock =>
    obtain ⟨_, _, _, hd2, h | h⟩ := h
    · have h1 := hn_open hd2; rw [h.2.2] at h1; simp [holdsAt] at h1; omega
    · have h1 := hn_open hd2; rw [h.2.2] at h1; simp [holdsAt] at h1; omega
  case pushReadTop =>
    obtain ⟨_, _, hl, _, hd2, h | h, _⟩ := h <;> (have h1 := hn_open hd2; rw [h] at h1; simp [holdsAt] at h1; omega)
  case pushCount =>
    obtain ⟨_, _, hl, _, hd2, h | h⟩ := h <;> (have h1 := hn_open hd2; rw [h] at h1; simp [holdsAt] at h1; omega)
  case takeCount =>
    obtain ⟨_, _, hl, _, hd2, h | h⟩ := h <;> (have h1 := hn_open hd2; rw [h] at h1; simp [holdsAt] at h1; omega)
  case popReadTop =>
    obtain ⟨_, _, hl, _, hd2, _, _, h | h | h⟩ := h <;> (have h1 := hn_open hd2; rw [h.2] at h1; simp [holdsAt] at h1; omega)
  case popSwap =>
    obtain ⟨_, hl, _, hd2, _, h | h⟩ := h <;> (have h1 := hn_open hd2; rw [h.2.2] at h1; simp [holdsAt] at h1; omega)
  case stealReadBottom =>
    obtain ⟨_, _, hl, _, hd2, _, h | h⟩ := h
    · have h1 := hn_open hd2; rw [h.2] at h1; simp [holdsAt] at h1; omega
    · have h1 := hn_open hd2; rw [h] at h1; simp [holdsAt] at h1; omega
  all_goals (
    obtain ⟨_, _, hl, _, hd2, h⟩ := h
    have h1 := hn_open hd2
    first | rw [h] at h1 | rw [h.1] at h1
    simp [holdsAt] at h1
    omega)

theorem thi_mono {T B T' B' : Int} {o o' x : OpS} (hT : T ≤ T') (hk : T' = T → (T < B ∨ (T = B ∧ mid o)) → (T' < B' ∨ (T' = B' ∧ mid o'))) (h : ThI T B o x) : ThI T' B' o' x := by
  intro hd
  have h1 := h hd
  obtain ⟨a, dn, t, u, n, v, en⟩ := x
  cases a <;> simp only at h1 ⊢
  case stealReadBottom => omega
  case stealSlot =>
    refine ⟨by omega, fun e => ?_⟩
    have e2 : T' = T := by omega
    exact hk e2 (h1.2 (by omega))
  case stealSwap =>
    refine ⟨by omega, fun e => ?_⟩
    have e2 : T' = T := by omega
    exact hk e2 (h1.2 (by omega))

theorem own_step {T B L N T' B' L' N' : Int} {o o' : OpS} (h : StepSees T B L N T' B' L' N' o o') (hd : o.done = false) (hk : ownerAt o.at_ = true) (ho : OwnI T B o) :
    OwnI T' B' o' ∧ (o'.done = false → ownerAt o'.at_ = true) ∧ T ≤ T' ∧ (T' = T → (T < B ∨ (T = B ∧ mid o)) → (T' < B' ∨ (T' = B' ∧ mid o'))) := by
  obtain ⟨a, dn, t, u, n, v, en⟩ := o
  obtain ⟨a', dn', t', u', n', v', en'⟩ := o'
  have hd' : dn = false := hd
  subst hd'
  unfold StepSees at h
  unfold OwnI at ho
  cases a <;> simp only [Bool.false_eq_true, if_false] at h ho
  case stealReadTop => simp [ownerAt] at hk
  case stealReadBottom => simp [ownerAt] at hk
  case stealSlot => simp [ownerAt] at hk
  case stealSwap => simp [ownerAt] at hk
  case pushReadTop =>
    obtain ⟨rfl, rfl, _, _, rfl, rfl | rfl, rfl⟩ := h <;> simp [OwnI, ownerAt, mid] at * <;> omega
  case pushLock =>
    obtain ⟨rfl, rfl, _, rfl, ⟨_, _, rfl⟩ | ⟨_, _, rfl⟩⟩ := h <;> simp [OwnI, ownerAt, mid] at * <;> omega
  case takeLock =>
    obtain ⟨rfl, rfl, _, rfl, ⟨_, _, rfl⟩ | ⟨_, _, rfl⟩⟩ := h <;> simp [OwnI, ownerAt, mid] at * <;> omega
  case pushCount =>
    obtain ⟨rfl, rfl, _, _, rfl, rfl | rfl⟩ := h <;> simp [OwnI, ownerAt, mid] at * <;> omega
  case takeCount =>
    obtain ⟨rfl, rfl, _, _, rfl, rfl | rfl⟩ := h <;> simp [OwnI, ownerAt, mid] at * <;> omega
  case popReadTop =>
    obtain ⟨rfl, rfl, _, _, rfl, rfl, rfl, ⟨_, rfl⟩ | ⟨_, rfl⟩ | ⟨_, rfl⟩⟩ := h <;> simp [OwnI, ownerAt, mid] at * <;> omega
  case popSwap =>
    obtain ⟨rfl, _, _, rfl, rfl, ⟨_, rfl, rfl⟩ | ⟨_, rfl, rfl⟩⟩ := h <;> simp [OwnI, ownerAt, mid] at * <;> omega
  case pushReadBottom => obtain ⟨rfl, rfl, _, _, rfl, rfl, rfl⟩ := h; simp [OwnI, ownerAt, mid] at *; omega
  case pushSlot => obtain ⟨rfl, rfl, _, _, rfl, rfl, rfl⟩ := h; simp [OwnI, ownerAt, mid] at *; omega
  case pushBottom => obtain ⟨rfl, rfl, _, _, rfl⟩ := h; simp [OwnI, mid] at *; omega
  case pushCell => obtain ⟨rfl, rfl, _, _, rfl, rfl⟩ := h; simp [OwnI, ownerAt, mid] at *; omega
  case pushCounted => obtain ⟨rfl, rfl, _, _, rfl, rfl⟩ := h; simp [OwnI, ownerAt, mid] at *; omega
  case takeCell => obtain ⟨rfl, rfl, _, _, rfl, rfl⟩ := h; simp [OwnI, ownerAt, mid] at *; omega
  case takeCounted => obtain ⟨rfl, rfl, _, _, rfl, rfl⟩ := h; simp [OwnI, ownerAt, mid] at *; omega
  case free => obtain ⟨rfl, rfl, _, _, rfl⟩ := h; simp [OwnI, mid] at *; omega
  case popReadBottom => obtain ⟨rfl, rfl, _, _, rfl, rfl, rfl⟩ := h; simp [OwnI, ownerAt, mid] at *; omega
  case popBottom => obtain ⟨rfl, rfl, _, _, rfl, rfl, rfl⟩ := h; simp [OwnI, ownerAt, mid] at *; omega
  case popSlot => obtain ⟨rfl, rfl, _, _, rfl⟩ := h; simp [OwnI, mid] at *; omega
  case popLast => obtain ⟨rfl, rfl, _, _, rfl, rfl, rfl, rfl⟩ := h; simp [OwnI, ownerAt, mid] at *; omega
  case popWon => obtain ⟨rfl, rfl, _, _, rfl⟩ := h; simp [OwnI, mid] at *; omega
  case popNothing => obtain ⟨rfl, rfl, _, _, rfl, rfl⟩ := h; simp [OwnI, ownerAt, mid] at *; omega

/-- Where the top may rise, the owner allows it. -/
theorem own_rise {T B : Int} {o0 : OpS} (ho : OwnI T B o0) (h : T < B ∨ (T = B ∧ mid o0)) : OwnI (T + 1) B o0 := by
  obtain ⟨a, dn, t, u, n, v, en⟩ := o0
  unfold OwnI at *
  unfold mid at h
  cases dn
  · cases a <;> simp at * <;> omega
  · simp at *; omega

theorem thief_step {T B L N T' B' L' N' : Int} {o o' o0 : OpS} (h : StepSees T B L N T' B' L' N' o o') (hd : o.done = false) (hk : thiefAt o.at_ = true) (ho0 : OwnI T B o0) (ht : ThI T B o0 o) :
    OwnI T' B' o0 ∧ (o'.done = false → thiefAt o'.at_ = true) ∧ ThI T' B' o0 o' ∧ B' = B ∧ T ≤ T' := by
  have ht1 := ht hd
  obtain ⟨a, dn, t, u, n, v, en⟩ := o
  obtain ⟨a', dn', t', u', n', v', en'⟩ := o'
  have hd' : dn = false := hd
  subst hd'
  unfold StepSees at h
  cases a <;> simp only at h ht1 <;> try (simp [thiefAt] at hk; done)
  case stealReadTop =>
    obtain ⟨rfl, rfl, _, _, rfl, rfl, rfl⟩ := h
    exact ⟨ho0, fun _ => rfl, fun _ => Int.le_refl _, rfl, Int.le_refl _⟩
  case stealReadBottom =>
    obtain ⟨rfl, rfl, _, _, rfl, rfl, ⟨hlt, rfl⟩ | rfl⟩ := h
    · exact ⟨ho0, fun _ => rfl, fun _ => ⟨ht1, fun e => .inl (by simp only at e hlt; omega)⟩, rfl, Int.le_refl _⟩
    · exact ⟨ho0, fun _ => rfl, fun _ => trivial, rfl, Int.le_refl _⟩
  case stealSlot =>
    obtain ⟨rfl, rfl, _, _, rfl, rfl, rfl⟩ := h
    exact ⟨ho0, fun _ => rfl, fun _ => ht1, rfl, Int.le_refl _⟩
  case stealSwap =>
    obtain ⟨rfl, _, _, rfl, ⟨e, rfl⟩ | ⟨e, rfl⟩⟩ := h
    · subst e
      exact ⟨own_rise ho0 (ht1.2 rfl), fun h => by simp at h, fun h => by simp at h, rfl, by omega⟩
    · exact ⟨ho0, fun h => by simp at h, fun h => by simp at h, rfl, Int.le_refl _⟩
  case takeLock =>
    obtain ⟨rfl, rfl, _, rfl, ⟨_, _, rfl⟩ | ⟨_, _, rfl⟩⟩ := h <;> exact ⟨ho0, fun _ => rfl, fun _ => trivial, rfl, Int.le_refl _⟩
  case takeCount =>
    obtain ⟨rfl, rfl, _, _, rfl, rfl | rfl⟩ := h <;> exact ⟨ho0, fun _ => rfl, fun _ => trivial, rfl, Int.le_refl _⟩
  case takeCell => obtain ⟨rfl, rfl, _, _, rfl, rfl⟩ := h; exact ⟨ho0, fun _ => rfl, fun _ => trivial, rfl, Int.le_refl _⟩
  case takeCounted => obtain ⟨rfl, rfl, _, _, rfl, rfl⟩ := h; exact ⟨ho0, fun _ => rfl, fun _ => trivial, rfl, Int.le_refl _⟩
  case free => obtain ⟨rfl, rfl, _, _, rfl⟩ := h; exact ⟨ho0, fun h => by simp at h, fun h => by simp at h, rfl, Int.le_refl _⟩

theorem stk_step {C : Cfg} {T B L N T' B' L' N' : Int} {o o' : OpS} (h : StepSees T B L N T' B' L' N' o o') (hN : 0 ≤ N) (hc : CntOk C o) : 0 ≤ N' := by
  obtain ⟨a, dn, t, u, n, v, en⟩ := o
  unfold StepSees at h
  unfold CntOk at hc
  cases a <;> simp only at h hc <;> omega

theorem fi_step {C : Cfg} {l : List Int} {a : Nat → OpS} (h : FI C l a) (i : Nat) (hi : i ≤ 3) : FI C (stepOf C l (a i)).1 (upd a i (stepOf C l (a i)).2) := by
  by_cases hd : (a i).done = true
  · rw [stepOf_done C l hd]
    have e : upd a i (a i) = a := by funext k; unfold upd; split <;> simp_all
    rw [e]
    exact h
  have hd : (a i).done = false := by simpa using hd
  obtain ⟨hlen, hs⟩ := step_sees C l (a i) h.room hd
  have hcn := cnt_own C l (a i) (h.cnt i hi)
  have h0 := hn_vals (a 0)
  have h1 := hn_vals (a 1)
  have h2 := hn_vals (a 2)
  have h3 := hn_vals (a 3)
  have hlock := h.lock
  have hone := h.one
  have hL := hn_step hs hd (by omega) (by
    intro he
    have : i = 0 ∨ i = 1 ∨ i = 2 ∨ i = 3 := by omega
    rcases this with rfl | rfl | rfl | rfl <;> omega)
  have hst := stk_step hs h.stk (h.cnt i hi)
  generalize stepOf C l (a i) = R at *
  have cnts : ∀ j, j ≤ 3 → CntOk C (upd a i R.2 j) := by
    intro j hj
    unfold upd
    split
    · exact hcn
    · exact h.cnt j hj
  have locks : rd C R.1 2 = hn (upd a i R.2 0) + hn (upd a i R.2 1) + hn (upd a i R.2 2) + hn (upd a i R.2 3) := by
    have : i = 0 ∨ i = 1 ∨ i = 2 ∨ i = 3 := by omega
    rcases this with rfl | rfl | rfl | rfl <;> simp [upd] <;> omega
  by_cases h0i : i = 0
  · subst h0i
    obtain ⟨g1, g2, g3, g4⟩ := own_step hs hd (h.kind hd) h.own
    refine ⟨locks, hL.2, by simpa [upd] using g2, fun j hj1 hj2 => ?_, by simpa [upd] using g1, fun j hj1 hj2 => ?_, hst, cnts, by rw [hlen]; exact h.room, h.cap⟩
    · simp only [upd, if_neg (show ¬ j = 0 by omega)]
      exact h.kinds j hj1 hj2
    · simp only [upd, if_neg (show ¬ j = 0 by omega), if_true]
      exact thi_mono g3 g4 (h.thf j hj1 hj2)
  · obtain ⟨g1, g2, g3, g4, g5⟩ := thief_step hs hd (h.kinds i (by omega) hi hd) h.own (h.thf i (by omega) hi)
    refine ⟨locks, hL.2, ?_, fun j hj1 hj2 => ?_, ?_, fun j hj1 hj2 => ?_, hst, cnts, by rw [hlen]; exact h.room, h.cap⟩
    · simp only [upd, if_neg (show ¬ 0 = i by omega)]
      exact h.kind
    · by_cases e : j = i
      · simp only [upd, if_pos e]; exact g2
      · simp only [upd, if_neg e]; exact h.kinds j hj1 hj2
    · simp only [upd, if_neg (show ¬ 0 = i by omega)]
      exact g1
    · simp only [upd, if_neg (show ¬ 0 = i by omega)]
      by_cases e : j = i
      · simp only [if_pos e]; exact g3
      · simp only [if_neg e]
        exact thi_mono g5 (fun e2 hc => by rw [e2, g4]; exact hc) (h.thf j hj1 hj2)

/-- An operation of the right kind may begin where one is done. -/
theorem fi_begin {C : Cfg} {l : List Int} {a : Nat → OpS} (h : FI C l a) (i : Nat) (hi : i ≤ 3) (hd : (a i).done = true) (st : Stp) (v : Int) (hst : (i = 0 ∧ (st = .pushReadBottom ∨ st = .popReadBottom)) ∨ (1 ≤ i ∧ st = .stealReadTop)) : FI C l (upd a i (opNew st v)) := by
  have hh : hn (opNew st v) = hn (a i) := by
    rw [hn_done hd]
    rcases hst with ⟨_, rfl | rfl⟩ | ⟨_, rfl⟩ <;> rfl
  have locks : rd C l 2 = hn (upd a i (opNew st v) 0) + hn (upd a i (opNew st v) 1) + hn (upd a i (opNew st v) 2) + hn (upd a i (opNew st v) 3) := by
    have := h.lock
    have : i = 0 ∨ i = 1 ∨ i = 2 ∨ i = 3 := by omega
    rcases this with rfl | rfl | rfl | rfl <;> simp [upd] <;> omega
  have cnts : ∀ j, j ≤ 3 → CntOk C (upd a i (opNew st v) j) := by
    intro j hj
    unfold upd
    split
    · rcases hst with ⟨_, rfl | rfl⟩ | ⟨_, rfl⟩ <;> trivial
    · exact h.cnt j hj
  rcases hst with ⟨rfl, hst⟩ | ⟨hi1, rfl⟩
  · have ho := h.own
    unfold OwnI at ho
    rw [if_pos hd] at ho
    have nm : ¬ mid (a 0) := by unfold mid; simp [hd]
    refine ⟨locks, h.one, ?_, fun j hj1 hj2 => ?_, ?_, fun j hj1 hj2 => ?_, h.stk, cnts, h.room, h.cap⟩
    · simp only [upd, if_true]
      rcases hst with rfl | rfl <;> exact fun _ => rfl
    · simp only [upd, if_neg (show ¬ j = 0 by omega)]
      exact h.kinds j hj1 hj2
    · simp only [upd, if_true]
      rcases hst with rfl | rfl <;> exact ho
    · simp only [upd, if_neg (show ¬ j = 0 by omega), if_true]
      refine thi_mono (Int.le_refl _) (fun _ hc => ?_) (h.thf j hj1 hj2)
      rcases hc with hc | hc
      · exact .inl hc
      · exact absurd hc.2 nm
  · refine ⟨locks, h.one, ?_, fun j hj1 hj2 => ?_, ?_, fun j hj1 hj2 => ?_, h.stk, cnts, h.room, h.cap⟩
    · simp only [upd, if_neg (show ¬ 0 = i by omega)]
      exact h.kind
    · by_cases e : j = i
      · simp only [upd, if_pos e]; exact fun _ => rfl
      · simp only [upd, if_neg e]; exact h.kinds j hj1 hj2
    · simp only [upd, if_neg (show ¬ 0 = i by omega)]
      exact h.own
    · simp only [upd, if_neg (show ¬ 0 = i by omega)]
      by_cases e : j = i
      · simp only [if_pos e]; exact fun _ => trivial
      · simp only [if_neg e]
        exact h.thf j hj1 hj2

def rk : Stp → Nat
  | .pushReadBottom => 9 | .pushReadTop => 8 | .pushSlot => 2 | .pushBottom => 1 | .pushLock => 7 | .pushCount => 5 | .pushCell => 4 | .pushCounted => 3 | .free => 1
  | .popReadBottom => 12 | .popBottom => 11 | .popReadTop => 10 | .popSlot => 1 | .popLast => 9 | .popSwap => 8 | .popWon => 1 | .popNothing => 7
  | .stealReadTop => 9 | .stealReadBottom => 8 | .stealSlot => 2 | .stealSwap => 1 | .takeLock => 6 | .takeCount => 5 | .takeCell => 4 | .takeCounted => 3
def rank (o : OpS) : Nat := if o.done then 0 else rk o.at_
theorem rank_done {o : OpS} (h : o.done = true) : rank o = 0 := by simp [rank, h]
theorem rank_open {o : OpS} (h : o.done = false) : rank o = rk o.at_ := by simp [rank, h]
theorem rk_pos (a : Stp) : 1 ≤ rk a ∧ rk a ≤ 12 := by cases a <;> simp [rk]

/-- Each step but a try of a lock that is taken goes on. -/
theorem rank_step (C : Cfg) (l : List Int) (o : OpS) (hr : C.base + (4 + C.cap + C.over) ≤ l.length) (hd : o.done = false) :
    rank (stepOf C l o).2 < rank o ∨ (rd C l 2 ≠ 0 ∧ holdsAt o.at_ = false ∧ stepOf C l o = (l, o)) := by
  obtain ⟨-, h⟩ := step_sees C l o hr hd
  have hro := rank_open hd
  by_cases hlk : (o.at_ = .pushLock ∨ o.at_ = .takeLock) ∧ rd C l 2 ≠ 0
  · right
    refine ⟨hlk.2, ?_, ?_⟩
    · rcases hlk.1 with e | e <;> rw [e] <;> rfl
    · obtain ⟨a, dn, t, u, n, v, en⟩ := o
      have hd' : dn = false := hd
      subst hd'
      rcases hlk.1 with e | e <;> (simp only at e; subst e; simp [stepOf, hlk.2])
  · left
    generalize stepOf C l o = R at *
    obtain ⟨l', o'⟩ := R
    obtain ⟨a, dn, t, u, n, v, en⟩ := o
    obtain ⟨a', dn', t', u', n', v', en'⟩ := o'
    unfold StepSees at h
    rw [hro]
    cases a <;> simp only at h hlk ⊢
    case pushReadTop => obtain ⟨_, _, _, _, rfl, rfl | rfl, _⟩ := h <;> simp [rank, rk]
    case pushLock =>
      obtain ⟨_, _, _, rfl, ⟨_, _, rfl⟩ | ⟨hL, _, rfl⟩⟩ := h
      · simp [rank, rk]
      · exact absurd ⟨.inl trivial, hL⟩ hlk
    case takeLock =>
      obtain ⟨_, _, _, rfl, ⟨_, _, rfl⟩ | ⟨hL, _, rfl⟩⟩ := h
      · simp [rank, rk]
      · exact absurd ⟨.inr trivial, hL⟩ hlk
    case pushCount => obtain ⟨_, _, _, _, rfl, rfl | rfl⟩ := h <;> simp [rank, rk]
    case takeCount => obtain ⟨_, _, _, _, rfl, rfl | rfl⟩ := h <;> simp [rank, rk]
    case popReadTop => obtain ⟨_, _, _, _, rfl, _, _, ⟨_, rfl⟩ | ⟨_, rfl⟩ | ⟨_, rfl⟩⟩ := h <;> simp [rank, rk]
    case popSwap => obtain ⟨_, _, _, rfl, _, ⟨_, _, rfl⟩ | ⟨_, _, rfl⟩⟩ := h <;> simp [rank, rk]
    case stealReadBottom => obtain ⟨_, _, _, _, rfl, _, ⟨_, rfl⟩ | rfl⟩ := h <;> simp [rank, rk]
    case pushBottom => obtain ⟨_, _, _, _, rfl⟩ := h; simp [rank, rk]
    case free => obtain ⟨_, _, _, _, rfl⟩ := h; simp [rank, rk]
    case popSlot => obtain ⟨_, _, _, _, rfl⟩ := h; simp [rank, rk]
    case popWon => obtain ⟨_, _, _, _, rfl⟩ := h; simp [rank, rk]
    case stealSwap => obtain ⟨_, _, _, rfl, _⟩ := h; simp [rank, rk]
    case pushReadBottom => obtain ⟨_, _, _, _, rfl, rfl, _⟩ := h; simp [rank, rk]
    case pushSlot => obtain ⟨_, _, _, _, rfl, rfl, _⟩ := h; simp [rank, rk]
    case popReadBottom => obtain ⟨_, _, _, _, rfl, rfl, _⟩ := h; simp [rank, rk]
    case popBottom => obtain ⟨_, _, _, _, rfl, rfl, _⟩ := h; simp [rank, rk]
    case popLast => obtain ⟨_, _, _, _, rfl, rfl, _⟩ := h; simp [rank, rk]
    case stealReadTop => obtain ⟨_, _, _, _, rfl, rfl, _⟩ := h; simp [rank, rk]
    case stealSlot => obtain ⟨_, _, _, _, rfl, rfl, _⟩ := h; simp [rank, rk]
    case pushCell => obtain ⟨_, _, _, _, rfl, rfl⟩ := h; simp [rank, rk]
    case pushCounted => obtain ⟨_, _, _, _, rfl, rfl⟩ := h; simp [rank, rk]
    case popNothing => obtain ⟨_, _, _, _, rfl, rfl⟩ := h; simp [rank, rk]
    case takeCell => obtain ⟨_, _, _, _, rfl, rfl⟩ := h; simp [rank, rk]
    case takeCounted => obtain ⟨_, _, _, _, rfl, rfl⟩ := h; simp [rank, rk]

/-- The cells and the four operations. -/
abbrev AS := List Int × (Nat → OpS)
def aStep (C : Cfg) (S : AS) (i : Nat) : AS := ((stepOf C S.1 (S.2 i)).1, upd S.2 i (stepOf C S.1 (S.2 i)).2)
def aRound (C : Cfg) (S : AS) : AS := aStep C (aStep C (aStep C (aStep C S 0) 1) 2) 3
def aRounds (C : Cfg) : Nat → AS → AS
  | 0, S => S
  | k + 1, S => aRounds C k (aRound C S)
def tot (S : AS) : Nat := rank (S.2 0) + rank (S.2 1) + rank (S.2 2) + rank (S.2 3)
def AllDone (S : AS) : Prop := ∀ i, i ≤ 3 → (S.2 i).done = true

theorem fi_a {C : Cfg} {S : AS} (h : FI C S.1 S.2) (i : Nat) (hi : i ≤ 3) : FI C (aStep C S i).1 (aStep C S i).2 := fi_step h i hi
theorem fi_round {C : Cfg} {S : AS} (h : FI C S.1 S.2) : FI C (aRound C S).1 (aRound C S).2 := fi_a (fi_a (fi_a (fi_a h 0 (by omega)) 1 (by omega)) 2 (by omega)) 3 (by omega)
theorem fi_rounds {C : Cfg} (k : Nat) : ∀ {S : AS}, FI C S.1 S.2 → FI C (aRounds C k S).1 (aRounds C k S).2 := by
  induction k with
  | zero => exact fun h => h
  | succ k ih => exact fun h => ih (fi_round h)

theorem upd_same (a : Nat → OpS) (i : Nat) : upd a i (a i) = a := by funext k; unfold upd; split <;> simp_all

theorem a_dec {C : Cfg} {S : AS} (h : FI C S.1 S.2) (i : Nat) (hi : i ≤ 3) : tot (aStep C S i) < tot S ∨ (aStep C S i = S ∧ ((S.2 i).done = true ∨ (rd C S.1 2 ≠ 0 ∧ holdsAt (S.2 i).at_ = false))) := by
  by_cases hd : (S.2 i).done = true
  · right
    refine ⟨?_, .inl hd⟩
    unfold aStep
    rw [stepOf_done C S.1 hd, upd_same]
  · have hd' : (S.2 i).done = false := by simpa using hd
    rcases rank_step C S.1 (S.2 i) h.room hd' with h1 | ⟨h1, h2, h3⟩
    · left
      have : i = 0 ∨ i = 1 ∨ i = 2 ∨ i = 3 := by omega
      unfold tot aStep
      rcases this with rfl | rfl | rfl | rfl <;> simp [upd] <;> omega
    · right
      refine ⟨?_, .inr ⟨h1, h2⟩⟩
      unfold aStep
      rw [h3, upd_same]

theorem a_le {C : Cfg} {S : AS} (h : FI C S.1 S.2) (i : Nat) (hi : i ≤ 3) : tot (aStep C S i) ≤ tot S := by
  rcases a_dec h i hi with h1 | ⟨h1, _⟩
  · omega
  · rw [h1]; exact Nat.le_refl _

theorem round_dec {C : Cfg} {S : AS} (h : FI C S.1 S.2) : tot (aRound C S) < tot S ∨ (aRound C S = S ∧ AllDone S) := by
  have f1 := fi_a h 0 (by omega)
  have f2 := fi_a f1 1 (by omega)
  have f3 := fi_a f2 2 (by omega)
  have l1 := a_le f1 1 (by omega)
  have l2 := a_le f2 2 (by omega)
  have l3 := a_le f3 3 (by omega)
  rcases a_dec h 0 (by omega) with d0 | ⟨e0, c0⟩
  · left; unfold aRound; omega
  rcases a_dec f1 1 (by omega) with d1 | ⟨e1, c1⟩
  · left; unfold aRound; have t0 : tot (aStep C S 0) = tot S := by rw [e0]
    omega
  rcases a_dec f2 2 (by omega) with d2 | ⟨e2, c2⟩
  · left; unfold aRound; have t0 : tot (aStep C S 0) = tot S := by rw [e0]
    have t1 : tot (aStep C (aStep C S 0) 1) = tot (aStep C S 0) := by rw [e1]
    omega
  rcases a_dec f3 3 (by omega) with d3 | ⟨e3, c3⟩
  · left; unfold aRound; have t0 : tot (aStep C S 0) = tot S := by rw [e0]
    have t1 : tot (aStep C (aStep C S 0) 1) = tot (aStep C S 0) := by rw [e1]
    have t2 : tot (aStep C (aStep C (aStep C S 0) 1) 2) = tot (aStep C (aStep C S 0) 1) := by rw [e2]
    omega
  right
  refine ⟨by unfold aRound; rw [e3, e2, e1, e0], ?_⟩
  rw [e2, e1, e0] at c3
  rw [e1, e0] at c2
  rw [e0] at c1
  have hz : ∀ o : OpS, (o.done = true ∨ (rd C S.1 2 ≠ 0 ∧ holdsAt o.at_ = false)) → hn o = 0 := by
    intro o ho
    rcases ho with ho | ho
    · exact hn_done ho
    · simp [hn, ho.2]
  have hL := h.lock
  rw [hz _ c0, hz _ c1, hz _ c2, hz _ c3] at hL
  have hL0 : rd C S.1 2 = 0 := by omega
  have dn : ∀ o : OpS, (o.done = true ∨ (rd C S.1 2 ≠ 0 ∧ holdsAt o.at_ = false)) → o.done = true := by
    intro o ho
    rcases ho with ho | ho
    · exact ho
    · exact absurd hL0 ho.1
  intro i hi
  have : i = 0 ∨ i = 1 ∨ i = 2 ∨ i = 3 := by omega
  rcases this with rfl | rfl | rfl | rfl
  · exact dn _ c0
  · exact dn _ c1
  · exact dn _ c2
  · exact dn _ c3

theorem all_done_tot {S : AS} (h : tot S = 0) : AllDone S := by
  intro i hi
  have hp : ∀ o : OpS, rank o = 0 → o.done = true := by
    intro o ho
    cases hd : o.done
    · rw [rank_open hd] at ho
      have := (rk_pos o.at_).1
      omega
    · rfl
  unfold tot at h
  have : i = 0 ∨ i = 1 ∨ i = 2 ∨ i = 3 := by omega
  rcases this with rfl | rfl | rfl | rfl <;> exact hp _ (by omega)

theorem fi_ends (C : Cfg) (k : Nat) : ∀ (S : AS), FI C S.1 S.2 → tot S ≤ k → AllDone (aRounds C k S) := by
  induction k with
  | zero => intro S _ ht; show AllDone S; exact all_done_tot (by omega)
  | succ k ih =>
    intro S h ht
    rcases round_dec h with h1 | ⟨h1, h2⟩
    · exact ih _ (fi_round h) (by omega)
    · have e : ∀ j, aRounds C j S = S := by
        intro j
        induction j with
        | zero => rfl
        | succ j ihj => rw [aRounds, h1, ihj]
      rw [e]
      exact h2

theorem tot_le (S : AS) : tot S ≤ 48 := by
  have hp : ∀ o : OpS, rank o ≤ 12 := by
    intro o
    cases hd : o.done
    · rw [rank_open hd]; exact (rk_pos o.at_).2
    · rw [rank_done hd]; omega
  have := hp (S.2 0)
  have := hp (S.2 1)
  have := hp (S.2 2)
  have := hp (S.2 3)
  unfold tot
  omega
end Go.Proofs.YthpjlhfijkeciaaGreatDoor

/-
  Texts of the proof, several in one: DequeLaw, QuietLaw.
-/
import Derived.Test.YthpjlhfijkeciaaGreatDoorPack21
import Derived.Test.YthpjlhfijkeciaaGreatDoorPack18
import Derived.Test.YthpjlhfijkeciaaGreatDoorPack10
/-
  What the laws of package deque share: New, Need, an operation from its beginning to its end, two operations by turns.
-/
namespace Go.Proofs.YthpjlhfijkeciaaGreatDoor
open Go.RowKit

theorem need_ok (cap over : Nat) (hc : 1 ≤ cap ∧ cap ≤ 64) (ho : over ≤ 4096) (w : World) :
    Calls Tryz.prog 49 #[.int .i64 cap, .int .i64 over] w fun e w' => e = .returned (.int .i64 ((4 + cap + over : Nat) : Int)) ∧ w' = w := by
  have h1 : ¬ ((cap : Int) < 1) := by omega
  have h2 : ¬ ((64 : Int) < cap) := by omega
  have h3 : ¬ ((over : Int) < 0) := by omega
  have h4 : ¬ ((4096 : Int) < over) := by omega
  go_enter Tryz.func49, Tryz.ntmps49
  go_wp2_with fail
  go_ret
  refine ⟨?_, rfl⟩
  congr 2

theorem dnew_ok (w : World) (p q : Nat) (C : Cfg) (l : List Int) (s : Int) (hc : 1 ≤ C.cap ∧ C.cap ≤ 64) (ho : C.over ≤ 4096) (hr : C.base + (4 + C.cap + C.over) ≤ l.length) (hm : l.length ≤ 65536) (h : Mem w p q l s) :
    Calls Tryz.prog 66 #[.pointer (some ⟨p, 0, none⟩), .int .i64 C.base, .int .i64 C.cap, .int .i64 C.over] w fun e w' => e = .returned (.tuple #[.pointer (some ⟨w.heap.size, 0, none⟩), .int .i64 0]) ∧ Dq w' w.heap.size p q C l s ∧ Turned [] w w' ∧ w'.heap.size = w.heap.size + 1 := by
  have HN := hide (need_ok C.cap C.over hc ho w)
  have HL := hide (len_mem p q l s w h)
  have HH := hide h
  have h1 : ¬ (((4 + C.cap + C.over : Nat) : Int) = 0) := by omega
  have h2 : ¬ ((C.base : Int) < 0) := by omega
  have h3 : ¬ ((l.length : Int) - ((4 + C.cap + C.over : Nat) : Int) < (C.base : Int)) := by omega
  have hN : 5 ≤ 4 + C.cap + C.over ∧ 4 + C.cap + C.over ≤ 5000 := by omega
  have t0 : Turned [] w (w.alloc (.cells #[.pointer (some ⟨p, 0, none⟩), .int .i64 C.base, .int .i64 C.cap, .int .i64 C.over] 149)) := (Turned.refl _ _).alloc _
  have HD : Hid (Dq (w.alloc (.cells #[.pointer (some ⟨p, 0, none⟩), .int .i64 C.base, .int .i64 C.cap, .int .i64 C.over] 149)) w.heap.size p q C l s) :=
    ⟨⟨by have := h.ltp; omega, by have := h.ltq; omega⟩, hc, ho, hr, hm, heap_alloc_new _ _, h.turned t0 (by simp) (by simp)⟩
  generalize 4 + C.cap + C.over = need at *
  clear h
  generalize hn : l.length = n at *
  clear hn
  go_enter Tryz.func66, Tryz.ntmps66
  go_wp2_with fail
  refine HN.out.mono ?_
  rintro e w1 ⟨rfl, rfl⟩
  go_wp2_with fail
  refine HL.out.mono ?_
  rintro e w1 ⟨rfl, rfl⟩
  go_wp2_with fail
  all_goals first | (go_ret2; exact ⟨rfl, HD.out, t0, by simp⟩) | (rename_i hx; exfalso; rcases hx with (hx | hx) | hx <;> first | omega | (simp at hx; try omega))

/-- A deque, however many accesses were counted. -/
def Dn (w : World) (d p q : Nat) (C : Cfg) (l : List Int) : Prop := ∃ s, Dq w d p q C l s
theorem Dn.turned {w w' : World} {d p q : Nat} {C : Cfg} {l : List Int} (h : Dn w d p q C l) {S : List Nat} (t : Turned S w w') (hd : d ∉ S) (hp : p ∉ S) (hq : q ∉ S) : Dn w' d p q C l := by
  obtain ⟨s, h⟩ := h
  exact ⟨s, h.turned t hd hp hq⟩

theorem fit_new {C : Cfg} {l : List Int} {a : Stp} {v : Int} {N : Int} (ha : a = .pushReadBottom ∨ a = .popReadBottom ∨ a = .stealReadTop) (ht : -N ≤ rd C l 0 ∧ rd C l 0 ≤ N) (hb : -N ≤ rd C l 1 ∧ rd C l 1 ≤ N) : Fit C l (opNew a v) N :=
  ⟨ht, hb, by show -N ≤ (0 : Int) ∧ (0 : Int) ≤ N; omega, by show -N ≤ (0 : Int) ∧ (0 : Int) ≤ N; omega, by rcases ha with rfl | rfl | rfl <;> trivial⟩

/-- An operation from its beginning to its end, where nobody else is at work: twelve steps at most. -/
def opRun (C : Cfg) (a : Stp) (v : Int) (l : List Int) : List Int × OpS := goes C 12 (l, opNew a v)

theorem Dn.push {w : World} {d p q : Nat} {C : Cfg} {l : List Int} (h : Dn w d p q C l) (v : Int) :
    Calls Tryz.prog 90 #[.pointer (some ⟨d, 0, none⟩), .int .i64 v] w fun e w' => e = .returned (.pointer (some ⟨w.heap.size, 0, none⟩)) ∧ Dn w' d p q C l ∧ OpB w' w.heap.size d (opNew .pushReadBottom v) ∧ Turned [] w w' ∧ w.heap.size ≠ d ∧ w.heap.size ≠ p ∧ w.heap.size ≠ q := by
  obtain ⟨s, h⟩ := h
  refine (push_any w d p q C l s v h).mono ?_
  rintro e w' ⟨rfl, h1, h2, h3, h4⟩
  exact ⟨rfl, ⟨s, h1⟩, h2, h3, by have := h.ltd; omega, by have := h.mem.ltp; omega, by have := h.mem.ltq; omega⟩
theorem Dn.pop {w : World} {d p q : Nat} {C : Cfg} {l : List Int} (h : Dn w d p q C l) :
    Calls Tryz.prog 84 #[.pointer (some ⟨d, 0, none⟩)] w fun e w' => e = .returned (.pointer (some ⟨w.heap.size, 0, none⟩)) ∧ Dn w' d p q C l ∧ OpB w' w.heap.size d (opNew .popReadBottom 0) ∧ Turned [] w w' ∧ w.heap.size ≠ d ∧ w.heap.size ≠ p ∧ w.heap.size ≠ q := by
  obtain ⟨s, h⟩ := h
  refine (pop_any w d p q C l s h).mono ?_
  rintro e w' ⟨rfl, h1, h2, h3, h4⟩
  exact ⟨rfl, ⟨s, h1⟩, h2, h3, by have := h.ltd; omega, by have := h.mem.ltp; omega, by have := h.mem.ltq; omega⟩
theorem Dn.steal {w : World} {d p q : Nat} {C : Cfg} {l : List Int} (h : Dn w d p q C l) :
    Calls Tryz.prog 85 #[.pointer (some ⟨d, 0, none⟩)] w fun e w' => e = .returned (.pointer (some ⟨w.heap.size, 0, none⟩)) ∧ Dn w' d p q C l ∧ OpB w' w.heap.size d (opNew .stealReadTop 0) ∧ Turned [] w w' ∧ w.heap.size ≠ d ∧ w.heap.size ≠ p ∧ w.heap.size ≠ q := by
  obtain ⟨s, h⟩ := h
  refine (steal_any w d p q C l s h).mono ?_
  rintro e w' ⟨rfl, h1, h2, h3, h4⟩
  exact ⟨rfl, ⟨s, h1⟩, h2, h3, by have := h.ltd; omega, by have := h.mem.ltp; omega, by have := h.mem.ltq; omega⟩

/-- Two operations by turns. -/
def goes2 (C : Cfg) : Nat → List Int × OpS × OpS → List Int × OpS × OpS
  | 0, r => r
  | k + 1, r => goes2 C k ((stepOf C (stepOf C r.1 r.2.1).1 r.2.2).1, (stepOf C r.1 r.2.1).2, (stepOf C (stepOf C r.1 r.2.1).1 r.2.2).2)

theorem turn_step (C : Cfg) (r : Rs) (b : Nat) (hn : r.n < 100000) : (turn C r (some b)).l = (stepOf C r.l (r.m b)).1 ∧ (turn C r (some b)).m b = (stepOf C r.l (r.m b)).2 ∧ ∀ c, c ≠ b → (turn C r (some b)).m c = r.m c := by
  by_cases hd : (r.m b).done = true
  · rw [turn_skip C r (some b) hd, stepOf_done C r.l hd]
    exact ⟨rfl, rfl, fun _ _ => rfl⟩
  · have hd' : (r.m b).done = false := by simpa using hd
    have e : turn C r (some b) = ⟨(stepOf C r.l (r.m b)).1, upd r.m b (stepOf C r.l (r.m b)).2, r.n + 1⟩ := by simp [turn, hn, hd']
    rw [e]
    exact ⟨rfl, by simp [upd], fun c hc => by simp [upd, hc]⟩

theorem rounds_two (C : Cfg) (b1 b2 : Nat) (hne : b1 ≠ b2) (k : Nat) : ∀ (r : Rs), r.n + 2 * k < 100000 → (rounds C [some b1, some b2] k r).l = (goes2 C k (r.l, r.m b1, r.m b2)).1 ∧ (rounds C [some b1, some b2] k r).m b1 = (goes2 C k (r.l, r.m b1, r.m b2)).2.1 ∧ (rounds C [some b1, some b2] k r).m b2 = (goes2 C k (r.l, r.m b1, r.m b2)).2.2 ∧ (rounds C [some b1, some b2] k r).n ≤ r.n + 2 * k := by
  induction k with
  | zero => intro r _; exact ⟨rfl, rfl, rfl, by simp [rounds]⟩
  | succ k ih =>
    intro r hn
    rw [rounds]
    have e : roundR C [some b1, some b2] r = turn C (turn C r (some b1)) (some b2) := rfl
    have n1 := turn_n C r (some b1)
    have n2 := turn_n C (turn C r (some b1)) (some b2)
    have h1 := turn_step C r b1 (by omega)
    have h2 := turn_step C (turn C r (some b1)) b2 (by omega)
    have := ih (roundR C [some b1, some b2] r) (by rw [e]; omega)
    rw [e] at this ⊢
    rw [h2.1, h2.2.1, h2.2.2 b1 hne, h1.2.1, h1.2.2 b2 (Ne.symm hne), h1.1] at this
    exact ⟨this.1, this.2.1, this.2.2.1, by omega⟩

end Go.Proofs.YthpjlhfijkeciaaGreatDoor

/-
  What the laws of package quiet share: New, Offer, Idle; the count with no deques, and with one more.
-/
namespace Go.Proofs.YthpjlhfijkeciaaGreatDoor
open Go.RowKit

theorem qnew_ok (w : World) (p q : Nat) (l : List Int) (s : Int) (at_ n : Nat) (ha : at_ < l.length) (hm : l.length ≤ 65536) (hn : 1 ≤ n ∧ n ≤ 64) (h : Mem w p q l s) :
    Calls Tryz.prog 52 #[.pointer (some ⟨p, 0, none⟩), .int .i64 at_, .int .i64 n] w fun e w' => e = .returned (.tuple #[.pointer (some ⟨w.heap.size, 0, none⟩), .int .i64 0]) ∧ Sh w' w.heap.size p q [] ⟨at_, n, []⟩ l s ∧ Turned [] w w' ∧ w'.heap.size = w.heap.size + 1 := by
  have HL := hide (len_mem p q l s w h)
  have h1 : ¬ ((at_ : Int) < 0) := by omega
  have h2 : ¬ ((l.length : Int) ≤ (at_ : Int)) := by omega
  have h3 : ¬ ((n : Int) < 1) := by omega
  have h4 : ¬ ((64 : Int) < (n : Int)) := by omega
  have t0 : Turned [] w (w.alloc (.cells #[.pointer (some ⟨p, 0, none⟩), .int .i64 at_, .int .i64 n] 136)) := (Turned.refl _ _).alloc _
  have HD : Hid (Sh (w.alloc (.cells #[.pointer (some ⟨p, 0, none⟩), .int .i64 at_, .int .i64 n] 136)) w.heap.size p q [] ⟨at_, n, []⟩ l s) :=
    ⟨heap_alloc_new _ _, ha, hm, hn, by simp, h.turned t0 (by simp) (by simp), fun i d hi => by simp at hi⟩
  clear h
  generalize hn : l.length = ll at *
  clear hn
  go_enter Tryz.func52, Tryz.ntmps52
  go_wp2_with fail
  refine HL.out.mono ?_
  rintro e w1 ⟨rfl, rfl⟩
  go_wp2_with fail
  all_goals first | (go_ret2; exact ⟨rfl, HD.out, t0, by simp⟩) | (rename_i hx; exfalso; rcases hx with (hx | hx) | hx <;> first | omega | (simp at hx; try omega))

/-- One deque more. -/
theorem Sh.add {w w' : World} {a p q d : Nat} {ds : List Nat} {Q : QC} {l : List Int} {s : Int} {C : Cfg} (h : Sh w a p q ds Q l s) (hd : Dq w' d p q C l s) (t : Turned [] w w') (hlen : ds.length < 64) : Sh w' a p q (ds ++ [d]) { Q with cs := Q.cs ++ [C] } l s := by
  have h1 := h.turned t (by simp) (by simp) (by simp) (by simp)
  refine ⟨h1.head, h1.cell, h1.most, h1.n, ⟨by simp [h1.len.1], by simp; omega⟩, h1.mem, fun i x hi => ?_⟩
  by_cases hlt : i < ds.length
  · rw [List.getElem?_append_left hlt] at hi
    have := h1.dq i x hi
    have e : cOf { Q with cs := Q.cs ++ [C] } i = cOf Q i := by
      unfold cOf
      simp only [List.getD_eq_getElem?_getD]
      rw [List.getElem?_append_left (by have := h1.len.1; omega)]
    rw [e]
    exact this
  · have hi' : i = ds.length := by
      have := (List.getElem?_eq_some_iff.1 hi).1
      simp at this
      omega
    subst hi'
    simp at hi
    subst hi
    have e : cOf { Q with cs := Q.cs ++ [C] } ds.length = C := by
      unfold cOf
      simp only [List.getD_eq_getElem?_getD]
      rw [h1.len.1, List.getElem?_append_right (Nat.le_refl _)]
      simp
    rw [e]
    exact hd

def pd (d : Nat) : Value := .pointer (some ⟨d, 0, none⟩)
theorem Tryz.infoDq : (Tryz.prog.info? 120).map (fun i => (i.zero, i.size, i.bytes)) = some (some (.pointer none), 1, 8) := by kernel_rfl

theorem clone_dqs (b off n c : Nat) (l : List Nat) (w : World) (hl : l.length = n) (hn : n ≤ 65536) (hc : ∀ i x, l[i]? = some x → w.cell? ⟨b, off + i, none⟩ = some (pd x)) (h0 : 0 < n) :
    Calls Tryz.prog 94 #[.slice (some ⟨b, off, none⟩) n c] w fun e w' => ∃ v, e = .returned v ∧ w'.ownsRow w.heap.size 120 1 v n (l.map pd) ∧ Turned [] w w' := by
  have und : Tryz.prog.underlying 84 = some (.slice 120) := by kernel_rfl
  have heq := fun w => Lib.run_eql_slice_nil (P := Tryz.prog) w 84 120 (some ⟨b, off, none⟩) n c 0 0 und
  have hbs : ∀ w : World, (Instr.buildSlice 84 0 #[]).run Tryz.prog w = .ok (.slice (some ⟨w.heap.size, 0, none⟩) 0 0) (w.alloc (.cells #[] 120)) := fun _ => by kernel_rfl
  have hcl : ∀ j u, (l.map pd)[j]? = some u → (w.alloc (.cells #[] 120)).cell? (Addr.add ⟨b, off, none⟩ j) = some u := by
    intro j u hu
    rw [List.getElem?_map] at hu
    obtain ⟨x, hx, rfl⟩ := Option.map_eq_some_iff.1 hu
    have h1 := hc j x hx
    have h2 := block_lt h1
    rw [show Addr.add ⟨b, off, none⟩ j = ⟨b, off + j, none⟩ by simp [Addr.add]]
    rw [World.cell?_of_block (w := w) (Below.heap_alloc _ _ _ h2)]
    exact h1
  have HC : Hid (∀ j u, (l.map pd)[j]? = some u → (w.alloc (.cells #[] 120)).cell? (Addr.add ⟨b, off, none⟩ j) = some u) := hcl
  have HL : Hid (l.length = n) := hl
  clear hc hl hcl
  obtain ⟨i0, hi, hi0⟩ := Option.map_eq_some_iff.1 Tryz.infoDq
  simp only [Prod.mk.injEq] at hi0
  obtain ⟨hz0, hz1, hz2⟩ := hi0
  go_enter Tryz.func94, Tryz.ntmps94
  go_wp2_with (at_builtin; (refine wpList_append_grows _ rfl _ _ 84 rfl 120 i0 (.pointer none) 1 8 und hi hz0 hz1 hz2 rfl (by decide) (some ⟨w.heap.size, 0, none⟩) 0 0 [] rfl (by intro h; cases h) rfl (by intro b hb j u hu; simp at hu) ⟨b, off, none⟩ n c (l.map pd) rfl (by simp [Hid.out HL]) HC.out (by intro u hu; obtain ⟨x, _, rfl⟩ := List.mem_map.1 hu; rfl) (by omega) (by unfold maxLen; omega) (by omega) ?_); intro v' w3 hown hgr)
  go_ret
  simp only [Nat.zero_add, List.nil_append] at hown
  exact ⟨_, rfl, ownsRow_mono hown (by simp), ((Turned.refl _ _).alloc _).grown hgr (fun k hk => by cases hk)⟩

section
variable (w : World) (a p q b : Nat) (ds : List Nat) (Q : QC) (l : List Int) (s : Int)

theorem qnone_any (h : Sh w a p q ds Q l s) :
    Calls Tryz.prog 92 #[.pointer (some ⟨a, 0, none⟩)] w fun e w' => e = .returned (.bool false) ∧ w' = w := by
  have h2 := h.c2
  have hc := h.n
  have hz : ¬ ((Q.n : Int) = 0) := by omega
  clear h
  go_enter Tryz.func92, Tryz.ntmps92
  go_wp2_with fail
  all_goals (go_ret; exact ⟨by simp; omega, rfl⟩)

/-- An offer at its beginning. -/
def ofNew : OfS := ⟨.countIn, 0, 0, 0⟩

theorem offer_any (g off c : Nat) (hne : 0 < ds.length) (hc : ∀ i x, ds[i]? = some x → w.cell? ⟨g, off + i, none⟩ = some (pd x)) (h : Sh w a p q ds Q l s) :
    Calls Tryz.prog 82 #[.pointer (some ⟨a, 0, none⟩), .slice (some ⟨g, off, none⟩) ds.length c] w fun e w' => ∃ b, e = .returned (.pointer (some ⟨b, 0, none⟩)) ∧ w.heap.size ≤ b ∧ OfB w' b a ds ofNew ∧ Turned [] w w' := by
  have H := hide (qnone_any w a p q ds Q l s h)
  have HC := hide (clone_dqs g off ds.length c ds w rfl (by have := h.len; omega) hc hne)
  have HE := hide hne
  generalize hm : ds.length = m at *
  have HM := hide hm
  clear h hc hne hm
  go_enter Tryz.func82, Tryz.ntmps82
  go_wp2_with fail
  refine H.out.mono ?_
  rintro e w1 ⟨rfl, rfl⟩
  clear H
  go_wp2_with fail
  refine HC.out.mono ?_
  rintro e w2 ⟨v, rfl, ho, ht⟩
  obtain ⟨g2, cap2, rfl, h1, h2, _, h3, _, ⟨cc, h4⟩⟩ := ownsRow_open ho HE.out
  have HH := hide (And.intro h1 (And.intro h2 (And.intro h3 (And.intro h4 ht))))
  clear HC ho ht h1 h2 h3 h4
  go_wp2_with fail
  go_ret
  obtain ⟨h1, h2, h3, h4, ht⟩ := HH.out
  refine ⟨_, rfl, ht.size, ?_, ht.alloc _⟩
  have e := HM.out
  subst e
  refine ⟨g2, cap2, heap_alloc_new _ _, ⟨cc, _, by rw [Below.heap_alloc _ _ _ h2]; exact h4⟩, fun i d hi => ?_⟩
  rw [World.cell?_of_block (w := w2) (Below.heap_alloc _ _ _ h2)]
  exact h3 i _ (by rw [List.getElem?_map, hi]; rfl)

/-- The words of one cell. -/
theorem words_one (h : Sh w a p q ds Q l s) : Calls Tryz.prog 23 #[.pointer (some ⟨p, 0, none⟩), .int .i64 Q.at_, .int .i64 (IntKind.i64.wrap ((Q.at_ : Int) + 1))] w fun e w2 => ∃ g cap, e = .returned (.slice (some ⟨g, 0, none⟩) 1 cap) ∧ w2.cell? ⟨g, 0, none⟩ = some (.int .i64 (cnt Q l)) ∧ Turned [] w w2 := by
  have hc := h.cell
  have hm := h.most
  rw [show IntKind.i64.wrap ((Q.at_ : Int) + 1) = ((Q.at_ + 1 : Nat) : Int) by rw [IntKind.wrap_i64]; omega]
  refine (words_mem p q l s Q.at_ ((Q.at_ + 1 : Nat) : Int) w h.most h.mem).mono ?_
  rintro e w2 ⟨v, rfl, ho, ht⟩
  have e1 : (min (max ((Q.at_ + 1 : Nat) : Int) 0) (l.length : Int)).toNat = Q.at_ + 1 := by omega
  have e2 : (min (max (Q.at_ : Int) 0) (l.length : Int)).toNat = Q.at_ := by omega
  rw [e1, e2] at ho
  have e3 : (l.take (Q.at_ + 1)).drop Q.at_ = [cnt Q l] := by
    apply List.ext_getElem?
    intro i
    rw [List.getElem?_drop]
    by_cases hi : i = 0
    · subst hi
      rw [List.getElem?_take_of_lt (by omega)]
      simpa using h.at
    · rw [List.getElem?_eq_none (by simp; omega), List.getElem?_eq_none (by simp; omega)]
  rw [e3] at ho
  obtain ⟨g, cap, rfl, _, _, _, h3, _⟩ := ownsInts_open ho (by simp)
  exact ⟨g, cap, rfl, h3 0 _ rfl, ht⟩

end

/-- The count and the deques, however many accesses were counted. -/
def Sx (w : World) (a p q : Nat) (ds : List Nat) (Q : QC) (l : List Int) : Prop := ∃ s, Sh w a p q ds Q l s
section
variable {w w' : World} {a p q b : Nat} {ds : List Nat} {Q : QC} {l : List Int}
theorem Sx.turned (h : Sx w a p q ds Q l) {S : List Nat} (t : Turned S w w') (ha : a ∉ S) (hp : p ∉ S) (hq : q ∉ S) (hd : ∀ d, d ∈ ds → d ∉ S) : Sx w' a p q ds Q l := by
  obtain ⟨s, h⟩ := h
  exact ⟨s, h.turned t ha hp hq hd⟩
theorem Sx.turned0 (h : Sx w a p q ds Q l) (t : Turned [] w w') : Sx w' a p q ds Q l := h.turned t (by simp) (by simp) (by simp) (by simp)

/-- A step, by what it comes to. -/
theorem Sx.step (h : Sx w a p q ds Q l) {o o' : OfS} {l' : List Int} (ho : OfB w b a ds o) (hb : -1000000 ≤ cnt Q l ∧ cnt Q l ≤ 1000000) (hk : QOk Q o) (hr : stepQ Q l o = (l', o')) :
    Calls Tryz.prog 95 #[.pointer (some ⟨b, 0, none⟩)] w fun e w' => e = .returned (.int .i64 o'.state) ∧ Sx w' a p q ds Q l' ∧ OfB w' b a ds o' ∧ Turned [p, q, b] w w' := by
  obtain ⟨s, h⟩ := h
  refine (qstep_any w a p q b ds Q l s o hb hk h ho).mono ?_
  rintro e w' ⟨rfl, h1, h2, h3⟩
  rw [hr] at h1 h2
  exact ⟨by rw [hr], h1, h2, h3⟩

/-- Another offer stays through a step. -/
theorem OfB.other (h : Sx w a p q ds Q l) {o o2 : OfS} {b2 : Nat} (h1 : OfB w b a ds o) (h2 : OfB w b2 a ds o2) (hne : b2 ≠ b) (t : Turned [p, q, b] w w') : OfB w' b2 a ds o2 := by
  obtain ⟨s, h⟩ := h
  obtain ⟨c1, t1⟩ := h1.type
  obtain ⟨c2, t2⟩ := h2.type
  refine h2.turned t (by simp; exact ⟨ne_of_type t2 h.mem.head (by decide), ne_of_type t2 h.mem.row (by decide), hne⟩) (fun k hk => ?_)
  simp at hk
  rcases hk with rfl | rfl | rfl
  · exact noRow h.mem.head (by decide)
  · exact noRow h.mem.row (by decide)
  · exact noRow t1 (by decide)
end
end Go.Proofs.YthpjlhfijkeciaaGreatDoor

/-
  What the laws of package quiet share: New, Offer, Idle; the count with no deques, and with one more.
-/
import Derived.Test.YtokabpgdklihlaaQuietSteps
import Derived.Test.YtokabpgdklihlaaDequeLaw
namespace Go.Proofs.Ytokabpgdklihlaa
open Go.RowKit

theorem qnew_ok (w : World) (p q : Nat) (l : List Int) (s : Int) (at_ n : Nat) (ha : at_ < l.length) (hm : l.length ≤ 65536) (hn : 1 ≤ n ∧ n ≤ 64) (h : Mem w p q l s) :
    Calls Try.prog 9 #[.pointer (some ⟨p, 0, none⟩), .int .i64 at_, .int .i64 n] w fun e w' => e = .returned (.tuple #[.pointer (some ⟨w.heap.size, 0, none⟩), .int .i64 0]) ∧ Sh w' w.heap.size p q [] ⟨at_, n, []⟩ l s ∧ Turned [] w w' ∧ w'.heap.size = w.heap.size + 1 := by
  have HL := hide (len_mem p q l s w h)
  have h1 : ¬ ((at_ : Int) < 0) := by omega
  have h2 : ¬ ((l.length : Int) ≤ (at_ : Int)) := by omega
  have h3 : ¬ ((n : Int) < 1) := by omega
  have h4 : ¬ ((64 : Int) < (n : Int)) := by omega
  have t0 : Turned [] w (w.alloc (.cells #[.pointer (some ⟨p, 0, none⟩), .int .i64 at_, .int .i64 n] 64)) := (Turned.refl _ _).alloc _
  have HD : Hid (Sh (w.alloc (.cells #[.pointer (some ⟨p, 0, none⟩), .int .i64 at_, .int .i64 n] 64)) w.heap.size p q [] ⟨at_, n, []⟩ l s) :=
    ⟨heap_alloc_new _ _, ha, hm, hn, by simp, h.turned t0 (by simp) (by simp), fun i d hi => by simp at hi⟩
  clear h
  generalize hn : l.length = ll at *
  clear hn
  go_enter Try.func9, Try.ntmps9
  go_wp2_with fail
  refine HL.out.mono ?_
  rintro e w1 ⟨rfl, rfl⟩
  go_wp2_with fail
  all_goals first | (go_ret2; exact ⟨rfl, HD.out, t0, by simp⟩) | (rename_i hx; exfalso; rcases hx with (hx | hx) | hx <;> first | omega | (simp at hx; try omega))

/-- One deque more. -/
theorem Sh.add {w w' : World} {a p q d : Nat} {ds : List Nat} {Q : QC} {l : List Int} {s : Int} {C : Cfg} (h : Sh w a p q ds Q l s) (hd : Dq w' d p q C l s) (t : Turned [] w w') (hlen : ds.length < 64) : Sh w' a p q (ds ++ [d]) { Q with cs := Q.cs ++ [C] } l s := by
  have h1 := h.turned t (by simp) (by simp) (by simp) (by simp)
  refine ⟨h1.head, h1.cell, h1.most, h1.n, ⟨by simp [h1.len.1], by simp; omega⟩, h1.mem, fun i x hi => ?_⟩
  by_cases hlt : i < ds.length
  · rw [List.getElem?_append_left hlt] at hi
    have := h1.dq i x hi
    have e : cOf { Q with cs := Q.cs ++ [C] } i = cOf Q i := by
      unfold cOf
      simp only [List.getD_eq_getElem?_getD]
      rw [List.getElem?_append_left (by have := h1.len.1; omega)]
    rw [e]
    exact this
  · have hi' : i = ds.length := by
      have := (List.getElem?_eq_some_iff.1 hi).1
      simp at this
      omega
    subst hi'
    simp at hi
    subst hi
    have e : cOf { Q with cs := Q.cs ++ [C] } ds.length = C := by
      unfold cOf
      simp only [List.getD_eq_getElem?_getD]
      rw [h1.len.1, List.getElem?_append_right (Nat.le_refl _)]
      simp
    rw [e]
    exact hd

def pd (d : Nat) : Value := .pointer (some ⟨d, 0, none⟩)
theorem Try.infoDq : (Try.prog.info? 36).map (fun i => (i.zero, i.size, i.bytes)) = some (some (.pointer none), 1, 8) := by kernel_rfl

theorem clone_dqs (b off n c : Nat) (l : List Nat) (w : World) (hl : l.length = n) (hn : n ≤ 65536) (hc : ∀ i x, l[i]? = some x → w.cell? ⟨b, off + i, none⟩ = some (pd x)) (h0 : 0 < n) :
    Calls Try.prog 34 #[.slice (some ⟨b, off, none⟩) n c] w fun e w' => ∃ v, e = .returned v ∧ w'.ownsRow w.heap.size 36 1 v n (l.map pd) ∧ Turned [] w w' := by
  have und : Try.prog.underlying 33 = some (.slice 36) := by kernel_rfl
  have heq := fun w => Lib.run_eql_slice_nil (P := Try.prog) w 33 36 (some ⟨b, off, none⟩) n c 0 0 und
  have hbs : ∀ w : World, (Instr.buildSlice 33 0 #[]).run Try.prog w = .ok (.slice (some ⟨w.heap.size, 0, none⟩) 0 0) (w.alloc (.cells #[] 36)) := fun _ => by kernel_rfl
  have hcl : ∀ j u, (l.map pd)[j]? = some u → (w.alloc (.cells #[] 36)).cell? (Addr.add ⟨b, off, none⟩ j) = some u := by
    intro j u hu
    rw [List.getElem?_map] at hu
    obtain ⟨x, hx, rfl⟩ := Option.map_eq_some_iff.1 hu
    have h1 := hc j x hx
    have h2 := block_lt h1
    rw [show Addr.add ⟨b, off, none⟩ j = ⟨b, off + j, none⟩ by simp [Addr.add]]
    rw [World.cell?_of_block (w := w) (Below.heap_alloc _ _ _ h2)]
    exact h1
  have HC : Hid (∀ j u, (l.map pd)[j]? = some u → (w.alloc (.cells #[] 36)).cell? (Addr.add ⟨b, off, none⟩ j) = some u) := hcl
  have HL : Hid (l.length = n) := hl
  clear hc hl hcl
  obtain ⟨i0, hi, hi0⟩ := Option.map_eq_some_iff.1 Try.infoDq
  simp only [Prod.mk.injEq] at hi0
  obtain ⟨hz0, hz1, hz2⟩ := hi0
  go_enter Try.func34, Try.ntmps34
  go_wp2_with (at_builtin; (refine wpList_append_grows _ rfl _ _ 33 rfl 36 i0 (.pointer none) 1 8 und hi hz0 hz1 hz2 rfl (by decide) (some ⟨w.heap.size, 0, none⟩) 0 0 [] rfl (by intro h; cases h) rfl (by intro b hb j u hu; simp at hu) ⟨b, off, none⟩ n c (l.map pd) rfl (by simp [Hid.out HL]) HC.out (by intro u hu; obtain ⟨x, _, rfl⟩ := List.mem_map.1 hu; rfl) (by omega) (by unfold maxLen; omega) (by omega) ?_); intro v' w3 hown hgr)
  go_ret
  simp only [Nat.zero_add, List.nil_append] at hown
  exact ⟨_, rfl, ownsRow_mono hown (by simp), ((Turned.refl _ _).alloc _).grown hgr (fun k hk => by cases hk)⟩

section
variable (w : World) (a p q b : Nat) (ds : List Nat) (Q : QC) (l : List Int) (s : Int)

theorem qnone_any (h : Sh w a p q ds Q l s) :
    Calls Try.prog 32 #[.pointer (some ⟨a, 0, none⟩)] w fun e w' => e = .returned (.bool false) ∧ w' = w := by
  have h2 := h.c2
  have hc := h.n
  have hz : ¬ ((Q.n : Int) = 0) := by omega
  clear h
  go_enter Try.func32, Try.ntmps32
  go_wp2_with fail
  all_goals (go_ret; exact ⟨by simp; omega, rfl⟩)

/-- An offer at its beginning. -/
def ofNew : OfS := ⟨.countIn, 0, 0, 0⟩

theorem offer_any (g off c : Nat) (hne : 0 < ds.length) (hc : ∀ i x, ds[i]? = some x → w.cell? ⟨g, off + i, none⟩ = some (pd x)) (h : Sh w a p q ds Q l s) :
    Calls Try.prog 16 #[.pointer (some ⟨a, 0, none⟩), .slice (some ⟨g, off, none⟩) ds.length c] w fun e w' => ∃ b, e = .returned (.pointer (some ⟨b, 0, none⟩)) ∧ w.heap.size ≤ b ∧ OfB w' b a ds ofNew ∧ Turned [] w w' := by
  have H := hide (qnone_any w a p q ds Q l s h)
  have HC := hide (clone_dqs g off ds.length c ds w rfl (by have := h.len; omega) hc hne)
  have HE := hide hne
  generalize hm : ds.length = m at *
  have HM := hide hm
  clear h hc hne hm
  go_enter Try.func16, Try.ntmps16
  go_wp2_with fail
  refine H.out.mono ?_
  rintro e w1 ⟨rfl, rfl⟩
  clear H
  go_wp2_with fail
  refine HC.out.mono ?_
  rintro e w2 ⟨v, rfl, ho, ht⟩
  obtain ⟨g2, cap2, rfl, h1, h2, _, h3, _, ⟨cc, h4⟩⟩ := ownsRow_open ho HE.out
  have HH := hide (And.intro h1 (And.intro h2 (And.intro h3 (And.intro h4 ht))))
  clear HC ho ht h1 h2 h3 h4
  go_wp2_with fail
  go_ret
  obtain ⟨h1, h2, h3, h4, ht⟩ := HH.out
  refine ⟨_, rfl, ht.size, ?_, ht.alloc _⟩
  have e := HM.out
  subst e
  refine ⟨g2, cap2, heap_alloc_new _ _, ⟨cc, _, by rw [Below.heap_alloc _ _ _ h2]; exact h4⟩, fun i d hi => ?_⟩
  rw [World.cell?_of_block (w := w2) (Below.heap_alloc _ _ _ h2)]
  exact h3 i _ (by rw [List.getElem?_map, hi]; rfl)

/-- The words of one cell. -/
theorem words_one (h : Sh w a p q ds Q l s) : Calls Try.prog 41 #[.pointer (some ⟨p, 0, none⟩), .int .i64 Q.at_, .int .i64 (IntKind.i64.wrap ((Q.at_ : Int) + 1))] w fun e w2 => ∃ g cap, e = .returned (.slice (some ⟨g, 0, none⟩) 1 cap) ∧ w2.cell? ⟨g, 0, none⟩ = some (.int .i64 (cnt Q l)) ∧ Turned [] w w2 := by
  have hc := h.cell
  have hm := h.most
  rw [show IntKind.i64.wrap ((Q.at_ : Int) + 1) = ((Q.at_ + 1 : Nat) : Int) by rw [IntKind.wrap_i64]; omega]
  refine (words_mem p q l s Q.at_ ((Q.at_ + 1 : Nat) : Int) w h.most h.mem).mono ?_
  rintro e w2 ⟨v, rfl, ho, ht⟩
  have e1 : (min (max ((Q.at_ + 1 : Nat) : Int) 0) (l.length : Int)).toNat = Q.at_ + 1 := by omega
  have e2 : (min (max (Q.at_ : Int) 0) (l.length : Int)).toNat = Q.at_ := by omega
  rw [e1, e2] at ho
  have e3 : (l.take (Q.at_ + 1)).drop Q.at_ = [cnt Q l] := by
    apply List.ext_getElem?
    intro i
    rw [List.getElem?_drop]
    by_cases hi : i = 0
    · subst hi
      rw [List.getElem?_take_of_lt (by omega)]
      simpa using h.at
    · rw [List.getElem?_eq_none (by simp; omega), List.getElem?_eq_none (by simp; omega)]
  rw [e3] at ho
  obtain ⟨g, cap, rfl, _, _, _, h3, _⟩ := ownsInts_open ho (by simp)
  exact ⟨g, cap, rfl, h3 0 _ rfl, ht⟩

set_option maxHeartbeats 4000000 in
set_option maxRecDepth 4000 in
theorem idle_any (h : Sh w a p q ds Q l s) :
    Calls Try.prog 19 #[.pointer (some ⟨a, 0, none⟩)] w fun e w' => e = .returned (.int .i64 (cnt Q l)) ∧ Turned [] w w' := by
  have H := hide (qnone_any w a p q ds Q l s h)
  have HW := hide (words_one w.drew a p q ds Q l s h.drew)
  have c0 := h.c0
  have c1 := h.c1
  clear h
  generalize cnt Q l = y at *
  generalize (Q.at_ : Int) = z at *
  go_enter Try.func19, Try.ntmps19
  go_wp2_with fail
  refine H.out.mono ?_
  rintro e w1 ⟨rfl, rfl⟩
  clear H
  go_wp2_with fail
  go_region_with ((go_at_call 41; refine HW.out.mono ?_; rintro e w2 ⟨g, cap, rfl, hcell, ht⟩; have HT := hide ((Turned.refl [] w1).drew.trans ht); clear HW ht))
  all_goals (
    go_wp2_with fail
    go_ret
    exact ⟨rfl, HT.out⟩)
end

/-- The count and the deques, however many accesses were counted. -/
def Sx (w : World) (a p q : Nat) (ds : List Nat) (Q : QC) (l : List Int) : Prop := ∃ s, Sh w a p q ds Q l s
section
variable {w w' : World} {a p q b : Nat} {ds : List Nat} {Q : QC} {l : List Int}
theorem Sx.turned (h : Sx w a p q ds Q l) {S : List Nat} (t : Turned S w w') (ha : a ∉ S) (hp : p ∉ S) (hq : q ∉ S) (hd : ∀ d, d ∈ ds → d ∉ S) : Sx w' a p q ds Q l := by
  obtain ⟨s, h⟩ := h
  exact ⟨s, h.turned t ha hp hq hd⟩
theorem Sx.turned0 (h : Sx w a p q ds Q l) (t : Turned [] w w') : Sx w' a p q ds Q l := h.turned t (by simp) (by simp) (by simp) (by simp)

/-- A step, by what it comes to. -/
theorem Sx.step (h : Sx w a p q ds Q l) {o o' : OfS} {l' : List Int} (ho : OfB w b a ds o) (hb : -1000000 ≤ cnt Q l ∧ cnt Q l ≤ 1000000) (hk : QOk Q o) (hr : stepQ Q l o = (l', o')) :
    Calls Try.prog 17 #[.pointer (some ⟨b, 0, none⟩)] w fun e w' => e = .returned (.int .i64 o'.state) ∧ Sx w' a p q ds Q l' ∧ OfB w' b a ds o' ∧ Turned [p, q, b] w w' := by
  obtain ⟨s, h⟩ := h
  refine (qstep_any w a p q b ds Q l s o hb hk h ho).mono ?_
  rintro e w' ⟨rfl, h1, h2, h3⟩
  rw [hr] at h1 h2
  exact ⟨by rw [hr], h1, h2, h3⟩

/-- Another offer stays through a step. -/
theorem OfB.other (h : Sx w a p q ds Q l) {o o2 : OfS} {b2 : Nat} (h1 : OfB w b a ds o) (h2 : OfB w b2 a ds o2) (hne : b2 ≠ b) (t : Turned [p, q, b] w w') : OfB w' b2 a ds o2 := by
  obtain ⟨s, h⟩ := h
  obtain ⟨c1, t1⟩ := h1.type
  obtain ⟨c2, t2⟩ := h2.type
  refine h2.turned t (by simp; exact ⟨ne_of_type t2 h.mem.head (by decide), ne_of_type t2 h.mem.row (by decide), hne⟩) (fun k hk => ?_)
  simp at hk
  rcases hk with rfl | rfl | rfl
  · exact noRow h.mem.head (by decide)
  · exact noRow h.mem.row (by decide)
  · exact noRow t1 (by decide)
end
end Go.Proofs.Ytokabpgdklihlaa

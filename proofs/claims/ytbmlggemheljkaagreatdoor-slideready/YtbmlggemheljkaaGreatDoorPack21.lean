/-
  Texts of the proof, several in one: SlideTold.
-/
import Derived.Test.YtbmlggemheljkaaGreatDoorPack19
import Derived.Test.YtbmlggemheljkaaGreatDoorPack20
/-
  What a slider tells: Moves, Waits, Ready at the end; a nil slider.
-/
namespace Go.Proofs.YtbmlggemheljkaaGreatDoor
open Go.RowKit Bt
set_option linter.unusedVariables false
set_option linter.unusedSimpArgs false

def mvI (mv : List (Nat × Nat)) : List (Int × Int) := mv.map fun p => ((p.1 : Int), (p.2 : Int))
theorem mvI_len (mv : List (Nat × Nat)) : (mvI mv).length = mv.length := by simp [mvI]
theorem mvRow_len (mv : List (Nat × Nat)) : (mvRow mv).length = mv.length * 2 := by
  induction mv with
  | nil => rfl
  | cons p l ih => unfold mvRow at *; simp [ih]; omega
theorem mvRow_at (mv : List (Nat × Nat)) : ∀ (i : Nat) (p : Nat × Nat), mv[i]? = some p → (mvRow mv)[i * 2]? = some (.int .i64 (p.1 : Int)) ∧ (mvRow mv)[i * 2 + 1]? = some (.int .i64 (p.2 : Int)) := by
  induction mv with
  | nil => intro i p h; simp at h
  | cons q l ih =>
    intro i p h
    have he : mvRow (q :: l) = Value.int .i64 (q.1 : Int) :: Value.int .i64 (q.2 : Int) :: mvRow l := by unfold mvRow; rfl
    rw [he]
    cases i with
    | zero => simp at h; subst h; exact ⟨rfl, rfl⟩
    | succ i =>
      have := ih i p (by simpa using h)
      rw [show (i + 1) * 2 = i * 2 + 1 + 1 by omega]
      exact this
theorem own_pairs {w : World} {B : Nat} {v : Value} {mv : List (Nat × Nat)} (h : w.ownsRow B 46 2 v mv.length (mvRow mv)) (h6 : ∀ p, p ∈ mv → p.1 ≤ 65536 ∧ p.2 ≤ 65536) (hn : mv.length ≤ 1000000) : ∃ ao cap, v = .slice ao mv.length cap ∧ TwRd w ao mv.length (mvI mv) ∧ (∀ a, ao = some a → B ≤ a.block) ∧ (ao = none → cap = 0) := by
  have hin : ∀ c, c ∈ mvI mv → In64 c.1 ∧ In64 c.2 := fun c hc => by
    unfold mvI at hc
    obtain ⟨p, hp, rfl⟩ := List.mem_map.1 hc
    have := h6 p hp
    unfold In64
    simp only
    omega
  rcases h.2 with ⟨hv, h0⟩ | ⟨g, cap, cur, hv, hg, hh, hc, _, _, ht⟩
  · refine ⟨none, 0, by rw [h0]; exact hv, ⟨mvI_len _, by omega, fun i c hc => ?_, hin⟩, fun a ha => (by cases ha), fun _ => rfl⟩
    have := (List.getElem?_eq_some_iff.1 hc).1
    rw [mvI_len] at this
    omega
  · refine ⟨_, cap, hv, ⟨mvI_len _, by omega, fun i c hc => ?_, hin⟩, fun a ha => (by cases ha; exact hg), fun hn => (by cases hn)⟩
    unfold mvI at hc
    rw [List.getElem?_map] at hc
    obtain ⟨p, hp, rfl⟩ := Option.map_eq_some_iff.1 hc
    obtain ⟨a1, a2⟩ := mvRow_at mv i p hp
    refine ⟨g, 0, rfl, ?_, ?_⟩
    · rw [cell_of_heap hh, Nat.zero_add]
      rw [← ht, List.getElem?_take] at a1
      split at a1
      · simpa using a1
      · cases a1
    · rw [cell_of_heap hh, Nat.zero_add]
      rw [← ht, List.getElem?_take] at a2
      split at a2
      · simpa using a2
      · cases a2

set_option maxRecDepth 100000 in
theorem clone_pairs (B : Nat) (v : Value) (mv : List (Nat × Nat)) (w : World) (h : w.ownsRow B 46 2 v mv.length (mvRow mv)) (h6 : ∀ p, p ∈ mv → p.1 ≤ 65536 ∧ p.2 ≤ 65536) (hn : mv.length ≤ 1000000) :
    Calls Tryz.prog 41 #[v] w fun e w' => ∃ ao cap, e = .returned (.slice ao mv.length cap) ∧ TwRd w' ao mv.length (mvI mv) ∧ (∀ a, ao = some a → w.heap.size ≤ a.block) ∧ Turned [] w w' := by
  obtain ⟨ao, cap, rfl, hrd, hB, hcap⟩ := own_pairs h h6 hn
  have heq := fun w => Lib.run_eql_slice_nil (P := Tryz.prog) w 22 46 ao mv.length cap 0 0 Tryz.underlying22
  cases ao with
  | none =>
    have hc := hcap rfl
    subst hc
    have h0 : mv.length = 0 := by
      cases hm : mv.length with
      | zero => rfl
      | succ k =>
        obtain ⟨b, off, e, _⟩ := hrd.cell 0 _ (List.getElem?_eq_getElem (by rw [hrd.size]; omega))
        cases e
    have hrd2 := hide hrd
    rw [h0] at heq ⊢
    rw [h0] at hrd2
    clear h hrd hB hn h0 hcap
    go_enter Tryz.func41, Tryz.ntmps41
    go_wp2_with fail
    go_ret
    exact ⟨none, 0, rfl, hrd2.out, fun a ha => (by cases ha), Turned.refl _ _⟩
  | some ad =>
    have hbs : ∀ w : World, (Instr.buildSlice 22 0 #[]).run Tryz.prog w = .ok (.slice (some ⟨w.heap.size, 0, none⟩) 0 0) (w.alloc (.cells #[] 46)) := fun _ => by kernel_rfl
    obtain ⟨i0, hi, hi0⟩ := Option.map_eq_some_iff.1 Tryz.infoTwo2
    simp only [Prod.mk.injEq] at hi0
    obtain ⟨hz0, hz1, hz2⟩ := hi0
    have HI := hide (And.intro hi (And.intro hz0 (And.intro hz1 hz2)))
    have HO : Hid ((w.alloc (.cells #[] 46)).ownsRow w.heap.size 46 2 (.slice (some ⟨w.heap.size, 0, none⟩) 0 0) 0 []) := hide ⟨rfl, .inr ⟨w.heap.size, 0, #[], rfl, Nat.le_refl _, heap_alloc_new _ _, Nat.le_refl _, by unfold maxLen; omega, rfl, rfl⟩⟩
    have HT := hide ((Turned.refl [] w).alloc (.cells #[] 46))
    have HLn : Hid ((mvRow mv).length = mv.length * 2) := hide (mvRow_len mv)
    have HNw : Hid (∀ j u, (mvRow mv)[j]? = some u → (w.alloc (.cells #[] 46)).cell? (ad.add j) = some u) := hide (fun j u hu => by
      have hj : j < mv.length * 2 := by have := (List.getElem?_eq_some_iff.1 hu).1; rwa [mvRow_len] at this
      have hp : mv[j / 2]? = some (mv[j / 2]'(by omega)) := List.getElem?_eq_getElem (by omega)
      obtain ⟨a1, a2⟩ := mvRow_at mv (j / 2) _ hp
      obtain ⟨b, off, e, c1, c2⟩ := (hrd.turned HT.out).cell (j / 2) _ (show (mvI mv)[j / 2]? = some _ by unfold mvI; rw [List.getElem?_map, hp]; rfl)
      cases e
      rcases Nat.mod_two_eq_zero_or_one j with hm | hm
      · rw [show j / 2 * 2 = j by omega] at a1 c1
        rw [hu] at a1; cases a1
        rw [Addr.add_lit]; exact c1
      · rw [show j / 2 * 2 + 1 = j by omega] at a2
        rw [show off + j / 2 * 2 + 1 = off + j by omega] at c2
        rw [hu] at a2; cases a2
        rw [Addr.add_lit]; exact c2)
    have H6 := hide h6
    generalize hml : mv.length = n at *
    have HMl := hide hml
    clear h hrd hB hcap hi hz0 hz1 hz2 h6 hml
    go_enter Tryz.func41, Tryz.ntmps41
    go_wp2_with (at_builtin; (refine wpList_append_own _ rfl _ _ 22 rfl w.heap.size 46 i0 _ 2 16 Tryz.underlying22 HI.out.1 HI.out.2.1 HI.out.2.2.1 HI.out.2.2.2 rfl (by decide) _ _ _ rfl HO.out ad n cap (mvRow mv) rfl HLn.out HNw.out (by intro u hu; unfold mvRow at hu; simp at hu; rcases hu with ⟨a, b, _, rfl | rfl⟩ <;> rfl) (by unfold maxLen; omega) (by omega) (by simp) ?_); intro v3 w3 ho hg hnil; obtain ⟨vo, vc, rfl⟩ : ∃ vo vc, v3 = .slice vo (0 + n) vc := (by rcases ho.2 with ⟨hv, h0⟩ | ⟨g, cap, cur, hv, _⟩; exact ⟨none, 0, by rw [h0]; exact hv⟩; exact ⟨_, cap, hv⟩); have HO3 := hide ho; have HG3 := hide hg; clear ho hg hnil)
    go_ret
    have ho := HO3.out
    simp only [Nat.zero_add, List.nil_append] at ho
    rw [← HMl.out] at ho
    obtain ⟨ao', cap', e, h1, h2, _⟩ := own_pairs ho H6.out (by have := HMl.out; omega)
    rw [HMl.out] at e h1
    refine ⟨ao', cap', by rw [← e]; simp, h1, h2, HT.out.grown HG3.out (fun k hk => .inr ?_)⟩
    have h9 : (Value.slice (some ⟨w.heap.size, 0, none⟩) 0 0).ownBlock = some k := hk
    have : w.heap.size = k := by simpa [Value.ownBlock] using h9
    omega

/-- Moves. -/
theorem smoves_any (wb w : World) (I : SlI) (P : PN) (S : Nat → Nat) (s : SlS) (v m : Value) (h : Sl wb w I P S s v m) (h6 : ∀ p, p ∈ s.mv → p.1 ≤ 65536 ∧ p.2 ≤ 65536) (hn : s.mv.length ≤ 1000000) :
    Calls Tryz.prog 17 #[.pointer (some ⟨I.sb, 0, none⟩)] w fun e w' => ∃ ao cap, e = .returned (.slice ao s.mv.length cap) ∧ TwRd w' ao s.mv.length (mvI s.mv) ∧ (∀ a, ao = some a → w.heap.size ≤ a.block) ∧ Turned [] w w' := by
  have HC := hide (clone_pairs I.B m s.mv w h.mv h6 hn)
  have c15 := h.cs.2.2.2.2.2.2
  obtain ⟨mo, mc, rfl⟩ : ∃ mo mc, m = .slice mo s.mv.length mc := by
    rcases h.mv.2 with ⟨hv, h0⟩ | ⟨g, cap, cur, hv, _⟩
    · exact ⟨none, 0, by rw [h0]; exact hv⟩
    · exact ⟨_, cap, hv⟩
  clear h h6 hn
  generalize s.mv.length = n at *
  go_enter Tryz.func17, Tryz.ntmps17
  go_wp2_with fail
  refine (HC.out).mono ?_
  rintro e w1 ⟨ao, cap, rfl, h1, h2, t1⟩
  have HF := hide (And.intro h1 (And.intro h2 t1))
  clear h1 h2 t1 HC
  go_wp2_with fail
  go_ret
  exact ⟨ao, cap, rfl, HF.out⟩
theorem smoves_nil (w : World) : Calls Tryz.prog 17 #[.pointer none] w fun e w' => e = .returned (.slice none 0 0) ∧ w' = w := by
  go_enter Tryz.func17, Tryz.ntmps17
  go_wp2_with fail
  go_ret
  exact ⟨rfl, rfl⟩
/-- Waits. -/
theorem swaits_any (wb w : World) (I : SlI) (P : PN) (S : Nat → Nat) (s : SlS) (v m : Value) (h : Sl wb w I P S s v m) :
    Calls Tryz.prog 14 #[.pointer (some ⟨I.sb, 0, none⟩)] w fun e w' => ∃ z zc, e = .returned (.slice (some ⟨z, 0, none⟩) P.R zc) ∧ Ri w' 3 z P.R (fun j => (s.wt j : Nat)) ∧ w.heap.size ≤ z ∧ Turned [] w w' := by
  have HC := hide (clone_ints I.zq P.R I.zc (fun j => (s.wt j : Nat)) w h.zw (PN.R_few h.c.fit.ok))
  have c13 := h.cs.2.2.2.2.1
  clear h
  generalize P.R = R at *
  go_enter Tryz.func14, Tryz.ntmps14
  go_wp2_with fail
  refine (HC.out).mono ?_
  rintro e w1 ⟨z, zc, rfl, h1, h2, t1⟩
  have HF := hide (And.intro h1 (And.intro h2 t1))
  clear h1 h2 t1 HC
  go_wp2_with fail
  go_ret
  exact ⟨z, zc, rfl, HF.out⟩
theorem swaits_nil (w : World) : Calls Tryz.prog 14 #[.pointer none] w fun e w' => e = .returned (.slice none 0 0) ∧ w' = w := by
  go_enter Tryz.func14, Tryz.ntmps14
  go_wp2_with fail
  go_ret
  exact ⟨rfl, rfl⟩
/-- Ready, where all is done. -/
theorem sready_end (wb w : World) (I : SlI) (P : PN) (S : Nat → Nat) (s : SlS) (v m : Value) (h : Sl wb w I P S s v m) (h0 : s.left = 0) :
    Calls Tryz.prog 22 #[.pointer (some ⟨I.sb, 0, none⟩)] w fun e w' => e = .returned (.slice none 0 0) ∧ w' = w := by
  have HD := hide (sdone_any wb w I P S s v m h)
  rw [decide_eq_true h0] at HD
  clear h h0
  go_enter Tryz.func22, Tryz.ntmps22
  go_wp2_with fail
  refine (HD.out).mono ?_
  rintro e w1 ⟨rfl, hw1⟩
  subst hw1
  clear HD
  go_wp2_with fail
  go_ret
  exact ⟨rfl, rfl⟩
theorem sready_nil (w : World) : Calls Tryz.prog 22 #[.pointer none] w fun e w' => e = .returned (.slice none 0 0) ∧ w' = w := by
  have HD := hide (sdone_nil w)
  go_enter Tryz.func22, Tryz.ntmps22
  go_wp2_with fail
  refine (HD.out).mono ?_
  rintro e w1 ⟨rfl, hw1⟩
  subst hw1
  clear HD
  go_wp2_with fail
  go_ret
  exact ⟨rfl, rfl⟩
theorem sstep_nil (k : Int) (w : World) : Calls Tryz.prog 16 #[.pointer none, .int .i64 k] w fun e w' => e = .returned (.int .i64 2) ∧ w' = w := by
  have HD := hide (sdone_nil w)
  go_enter Tryz.func16, Tryz.ntmps16
  go_wp2_with fail
  refine (HD.out).mono ?_
  rintro e w1 ⟨rfl, hw1⟩
  subst hw1
  clear HD
  go_wp2_with fail
  go_ret
  exact ⟨rfl, rfl⟩
end Go.Proofs.YtbmlggemheljkaaGreatDoor

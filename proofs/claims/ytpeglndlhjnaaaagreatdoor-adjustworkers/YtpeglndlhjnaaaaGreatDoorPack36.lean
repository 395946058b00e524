/-
  Texts of the proof, several in one: AdjAwakeP, AdjAwake, AdjGood, AdjLs, AdjTwo, AdjDoc.
-/
import Derived.Test.YtpeglndlhjnaaaaGreatDoorPack35
import Derived.Test.YtpeglndlhjnaaaaGreatDoorPack34
import Derived.Test.YtpeglndlhjnaaaaGreatDoorPack33
import Derived.Test.YtpeglndlhjnaaaaGreatDoorPack32
import Derived.Test.YtpeglndlhjnaaaaGreatDoorPack31
import Derived.Test.YtpeglndlhjnaaaaGreatDoorPack25
import Derived.Test.YtpeglndlhjnaaaaGreatDoorPack21
import Derived.Test.YtpeglndlhjnaaaaGreatDoorPack15
import Derived.Test.YtpeglndlhjnaaaaGreatDoorPack14
import Derived.Deep.RegionHeld3
import Derived.Deep.LoopGhost
/-
  The example in the laws of layer 14, reckoned out. No Go is walked here.
-/
namespace Go.Proofs.YtpeglndlhjnaaaaGreatDoor
open Go.RowKit Bt
set_option linter.unusedVariables false
set_option linter.unusedSimpArgs false

def it14 : List Th := [⟨3, 0, []⟩, ⟨0, 0, [2]⟩, ⟨3, 0, []⟩]
def L14 : List Int := (heapOf it14 12).1
theorem at14 : (heapOf it14 12).2 = [1, 3, 7] := by decide +kernel
theorem walk14 : walkOf (heapOf it14 12).1 four 12 1 = some [⟨1, 4, 0, 2⟩, ⟨3, 1, 0, 4⟩, ⟨7, 4, 0, 2⟩, ⟨9, 0, 2, 3⟩] := by decide +kernel
theorem bs14 {top : Int} {bs : List Blk} (h : Hd 12 (heapOf it14 12).1 top bs) (ha : (heapOf it14 12).2 = bs.map Blk.t) : bs = [⟨1, 4, 0, 2⟩, ⟨3, 1, 0, 4⟩, ⟨7, 4, 0, 2⟩] := by
  have h1 := h.walk
  rw [show ((12 : Nat) : Int) = 12 from rfl, walk14] at h1
  have hl : bs.length = 3 := by
    have := congrArg List.length ha
    rw [at14, List.length_map] at this
    exact this.symm
  injection h1 with h1
  have h2 := congrArg (List.take 3) h1
  rw [← hl, List.take_left] at h2
  rw [← h2, hl]
  rfl
theorem rs14 : [(1 : Int)].map (rootOf (heapOf it14 12).2) = [3] := by rw [at14]; decide
def b14 : List Blk := [⟨1, 4, 0, 2⟩, ⟨3, 1, 0, 4⟩, ⟨7, 4, 0, 2⟩]
theorem refs14 : refWords (heapOf it14 12).1 four ⟨3, 1, 0, 4⟩ = [7, 0] := by decide +kernel
theorem refs14b : refWords (heapOf it14 12).1 four ⟨7, 4, 0, 2⟩ = [] := by decide +kernel
def Sa : Nat → Nat := fun k => if k = 3 then 4 else if k = 7 then 2 else 0
def Pa : PN := ⟨1, 12, 3, 1, 7⟩
def La (k : Nat) : Bool := decide (3 ≤ k ∧ k < 9)
theorem liveSa : live Sa = La := by
  funext k
  rw [Bool.eq_iff_iff]
  unfold live La
  rw [bo_true, decide_eq_true_eq]
  constructor
  · rintro ⟨a, h1, h2⟩
    unfold Sa at h2
    split at h2
    · omega
    · split at h2 <;> omega
  · intro h
    by_cases h1 : k < 7
    · exact ⟨3, by omega, by show k < 3 + 4; omega⟩
    · exact ⟨7, by omega, by show k < 7 + 2; omega⟩
theorem edA (K : Nat) : PN.ed Pa K = min (1 + K * 3) 12 := rfl
theorem makesPa0 : Makes Sa 1 12 3 0 Pa := by
  refine ⟨rfl, rfl, rfl, by rw [liveSa]; decide +kernel, 0, ⟨by decide, ?_, .inr ?_⟩, .inr ⟨fun a ha hx => ?_, rfl⟩⟩
  · rw [liveSa]; decide +kernel
  · rw [liveSa]; decide +kernel
  · have e : PN.ed Pa 0 = 1 := rfl
    rw [e] at ha hx
    have : a = 0 := by omega
    subst this
    exact absurd hx (by decide)
theorem cnt14 : ∀ x, x < 13 → cnt (live Sa) x = cnt La x := fun x _ => by rw [liveSa]
theorem reach14 {top : Int} {bs : List Blk} (h : Hd 12 (heapOf it14 12).1 top bs) (hb : bs = b14) {R : List Int} (hR : ∀ x, x ∈ R ↔ Rch (objOf (bs ++ tail4 12 top)) (refWords (heapOf it14 12).1 four) [3] x) : ∀ x, x ∈ R ↔ (x = 3 ∨ x = 7) := by
  have m3 : (⟨3, 1, 0, 4⟩ : Blk) ∈ bs := by rw [hb]; simp [b14]
  have m7 : (⟨7, 4, 0, 2⟩ : Blk) ∈ bs := by rw [hb]; simp [b14]
  have o3 := h.obj m3
  have o7 := h.obj m7
  simp only at o3 o7
  intro x
  rw [hR]
  constructor
  · refine rch_closed (fun x => x = 3 ∨ x = 7) (fun r hr _ => by simp at hr; exact .inl hr) (fun x b hx hxb y hy h0 => ?_)
    rcases hx with rfl | rfl
    · rw [o3] at hxb
      cases hxb
      rw [refs14] at hy
      simp at hy
      rcases hy with rfl | rfl
      · exact .inr rfl
      · exact absurd rfl h0
    · rw [o7] at hxb
      cases hxb
      rw [refs14b] at hy
      cases hy
  · have r3 : Rch (objOf (bs ++ tail4 12 top)) (refWords (heapOf it14 12).1 four) [3] 3 := .root (by simp) (by decide)
    rintro (rfl | rfl)
    · exact r3
    · exact .next r3 o3 (by rw [refs14]; simp) (by decide)
def V14 : List Blk := [⟨3, 1, 0, 4⟩, ⟨7, 4, 0, 2⟩]
theorem live14 {R : List Int} (h : ∀ x, x ∈ R ↔ (x = 3 ∨ x = 7)) : liveBs b14 R = V14 := by
  unfold liveBs b14 V14
  have h1 : (1 : Int) ∉ R := fun e => by have := (h 1).1 e; omega
  have h3 : (3 : Int) ∈ R := (h 3).2 (.inl rfl)
  have h7 : (7 : Int) ∈ R := (h 7).2 (.inr rfl)
  simp [List.filter_cons, h1, h3, h7]
theorem rowed14 : Rowed 12 V14 := by
  refine ⟨fun i b hb => ?_, fun i j a b hij ha hb => ?_⟩
  · match i, hb with
    | 0, hb => cases hb; decide
    | 1, hb => cases hb; decide
    | i + 2, hb => simp [V14] at hb
  · match i, j, ha, hb with
    | 0, 0, _, _ => omega
    | 0, 1, ha, hb => cases ha; cases hb; decide
    | 1, 1, _, _ => omega
    | i + 2, _, ha, _ => simp [V14] at ha
    | 0, j + 2, _, hb => simp [V14] at hb
    | 1, j + 2, _, hb => simp [V14] at hb
    | 1, 0, _, _ => omega
theorem mkL14 : mkL 12 V14 V14.length = Sa := by
  have hm := mkL_marked rowed14 2 (by decide)
  have e : V14.length = 2 := rfl
  rw [e]
  have a3 := hm.on 0 ⟨3, 1, 0, 4⟩ (by decide) rfl
  have a7 := hm.on 1 ⟨7, 4, 0, 2⟩ (by decide) rfl
  have a3' : mkL 12 V14 2 3 = 4 := a3
  have a7' : mkL 12 V14 2 7 = 2 := a7
  funext i
  unfold Sa
  by_cases h3 : i = 3
  · subst h3; rw [a3']; rfl
  · by_cases h7 : i = 7
    · subst h7; rw [a7']; rfl
    · rw [if_neg h3, if_neg h7]
      rcases Nat.eq_zero_or_pos (mkL 12 V14 2 i) with h0 | h0
      · exact h0
      · obtain ⟨k, b, k1, k2, k3, k4⟩ := hm.off i h0
        match k, k2 with
        | 0, k2 => cases k2; simp only at k3; omega
        | 1, k2 => cases k2; simp only at k3; omega
        | k + 2, k2 => simp [V14] at k2
/-- A step, reckoned. -/
def toX (r : Int) : Int := if r = 0 then 0 else if 0 ≤ r ∧ r < 12 ∧ 0 < Sa r.toNat then ((if r.toNat < 1 then r.toNat else 1 + (cnt La r.toNat - cnt La 1) : Nat) : Int) else r
theorem toX_eq (r : Int) : toA Pa Sa 12 r = toX r := by
  unfold toA toX fwA
  rw [liveSa]
  rfl
def workX (s : AdS) (x : AdW) : AdS :=
  if x.ph = 0 then
    match nxA Sa x.fr x.en with
    | none => takeA Pa s 0 x
    | some at_ => openA four 12 s 0 x at_
  else if x.ph = 1 then
    match x.pl with
    | [] => s
    | p :: l =>
      if okA Sa 12 (s.hw.getD p 0) = false then { s with ac := wrap64 (s.ac + 1), ft := 13, ws := s.ws.set 0 (goA14 { x with at_ := p, pl := l }) }
      else if s.hw.getD p 0 = 0 then { s with ac := wrap64 (s.ac + 1), ws := s.ws.set 0 (goA14 { x with at_ := p, pl := l }) }
      else { s with ac := wrap64 (s.ac + 1), ws := s.ws.set 0 { x with at_ := p, pl := l, rf := toX (s.hw.getD p 0), ph := 2 } }
  else storeA s 0 x
theorem workX_eq (s : AdS) (x : AdW) : workA Pa Sa four 12 s 0 x = workX s x := by
  obtain ⟨on, ph, fr, en, pl, at_, rf⟩ := x
  unfold workA workX readA
  simp only
  split
  · cases nxA Sa fr en <;> rfl
  · split
    · cases pl with
      | nil => rfl
      | cons p l => simp only [toX_eq]
    · rfl
def stX : Nat → AdS
  | 0 => s0A (heapOf it14 12).1 0 [0] 0 1
  | m + 1 => match (stX m).ws[0]? with
    | some x => if x.on = true then workX (stX m) x else stX m
    | none => stX m
def mayX (s : AdS) (x : AdW) : Bool :=
  (match s.cl[0]? with
    | some r => decide (0 ≤ r ∧ r < 1000000000)
    | none => false) && decide (0 ≤ s.cc ∧ s.cc < 1000000000) && decide (s.hw.length = 12) && decide (x.fr ≤ 12) && decide (x.en ≤ 12) && decide (x.ph = 1 → x.pl ≠ []) && x.pl.all (fun p => decide (p < 12)) && decide (x.at_ < 12 ∨ x.ph ≠ 2) && decide (x.ph ≤ 2) && s.hw.all (fun y => decide (-9223372036854775808 ≤ y ∧ y ≤ 9223372036854775807)) && decide (x.pl.length ≤ 65536)
theorem mayX_ok {s : AdS} {x : AdW} (h : mayX s x = true) : MayA Sa 12 s x := by
  unfold mayX at h
  simp only [Bool.and_eq_true, decide_eq_true_eq, List.all_eq_true] at h
  obtain ⟨⟨⟨⟨⟨⟨⟨⟨⟨⟨h1, h2⟩, h3⟩, h4⟩, h5⟩, h6⟩, h7⟩, h8⟩, h9⟩, h10⟩, h11⟩ := h
  refine ⟨?_, h2, h3, h4, h5, h6, h7, h8, h9, h10, h11⟩
  cases e : s.cl[0]? with
  | none => rw [e] at h1; cases h1
  | some r => rw [e] at h1; exact ⟨r, rfl, of_decide_eq_true h1⟩
def chk (m : Nat) : Bool := match (stX m).ws[0]? with
  | some x => x.on && mayX (stX m) x && (endA Pa Sa (stX m) x == decide (m = 9))
  | none => false
theorem chk_all : ∀ m, m < 10 → chk m = true := by decide +kernel
/-- Each step of the example. -/
theorem step14 {m : Nat} (hm : m < 10) : ∃ x, (stX m).ws[0]? = some x ∧ x.on = true ∧ MayA Sa 12 (stX m) x ∧ endA Pa Sa (stX m) x = decide (m = 9) ∧ workA Pa Sa four 12 (stX m) 0 x = stX (m + 1) := by
  have h := chk_all m hm
  unfold chk at h
  cases e : (stX m).ws[0]? with
  | none => rw [e] at h; cases h
  | some x =>
    rw [e] at h
    simp only [Bool.and_eq_true, beq_iff_eq] at h
    obtain ⟨⟨h1, h2⟩, h3⟩ := h
    refine ⟨x, rfl, h1, mayX_ok h2, h3, ?_⟩
    rw [workX_eq]
    show _ = (match (stX m).ws[0]? with | some x => if x.on = true then workX (stX m) x else stX m | none => stX m)
    rw [e]
    simp only
    rw [if_pos h1]
theorem fin14 : doneA (stX 10) = true ∧ (stX 10).hw[4]? = some 5 ∧ (stX 10).ft = 0 := by decide +kernel
theorem to14 : toX 3 = 1 ∧ toX 0 = 0 ∧ toX 9 = 9 := by decide +kernel
end Go.Proofs.YtpeglndlhjnaaaaGreatDoor

/-
  awake of the statements of layer 14 tells true.
-/
namespace Go.Proofs.YtpeglndlhjnaaaaGreatDoor
open Go.RowKit Bt
set_option linter.unusedVariables false
set_option linter.unusedSimpArgs false

def thC (g : Nat) : Array Value := #[.int .i64 3, .int .i64 0, .slice none 0 0, .int .i64 0, .int .i64 0, .slice (some ⟨g, 0, none⟩) 1 1, .int .i64 3, .int .i64 0, .slice none 0 0]
theorem thr14 (w : World) (g h : Nat) (hg : w.heap[g]? = some (.cells #[.int .i64 2] 3)) (hh : w.heap[h]? = some (.cells (thC g) 62)) : ThR w (some ⟨h, 0, none⟩) it14 := by
  refine ⟨by decide, fun i t ht => ?_⟩
  unfold thC at hh
  match i, ht with
  | 0, ht =>
    simp [it14] at ht
    subst ht
    exact ⟨h, 0, none, 0, rfl, by rw [cell_of_heap hh]; rfl, by rw [cell_of_heap hh]; rfl, by rw [cell_of_heap hh]; rfl, ⟨rfl, by decide, fun i x hx => by simp at hx, fun x hx => by simp at hx⟩⟩
  | 1, ht =>
    simp [it14] at ht
    subst ht
    refine ⟨h, 0, some ⟨g, 0, none⟩, 1, rfl, by rw [cell_of_heap hh]; rfl, by rw [cell_of_heap hh]; rfl, by rw [cell_of_heap hh]; rfl, ⟨rfl, by decide, fun i x hx => ⟨g, 0, rfl, ?_⟩, fun x hx => by simp at hx; subst hx; unfold In64; omega⟩⟩
    have hi : i = 0 := by have := (List.getElem?_eq_some_iff.1 hx).1; simpa using this
    subst hi
    simp at hx
    subst hx
    rw [cell_of_heap hg]; rfl
  | 2, ht =>
    simp [it14] at ht
    subst ht
    exact ⟨h, 0, none, 0, rfl, by rw [cell_of_heap hh]; rfl, by rw [cell_of_heap hh]; rfl, by rw [cell_of_heap hh]; rfl, ⟨rfl, by decide, fun i x hx => by simp at hx, fun x hx => by simp at hx⟩⟩
  | i + 3, ht => simp [it14] at ht
theorem ird_one14 (w : World) (g : Nat) (x : Int) (hx : In64 x) (hg : w.heap[g]? = some (.cells #[.int .i64 x] 3)) : IRd w (some ⟨g, 0, none⟩) 1 [x] := ⟨rfl, by omega, fun i y hy => ⟨g, 0, rfl, by
    have hi : i = 0 := by have := (List.getElem?_eq_some_iff.1 hy).1; simpa using this
    subst hi
    simp at hy
    subst hy
    rw [cell_of_heap hg]; rfl⟩, fun y hy => by simp at hy; subst hy; exact hx⟩
theorem bsThings14 : ∀ (w : World) (g : Nat), (Instr.buildSlice 22 3 #[(0, .agg #[.int .i64 3, .int .i64 0, .slice none 0 0]), (1, .agg #[.int .i64 0, .int .i64 0, .slice (some ⟨g, 0, none⟩) 1 1]), (2, .agg #[.int .i64 3, .int .i64 0, .slice none 0 0])]).run Tryz.prog w = .ok (.slice (some ⟨w.heap.size, 0, none⟩) 3 3) (w.alloc (.cells (thC g) 62)) := fun w g => by kernel_rfl

theorem ri_own14 {w : World} {B : Nat} {v : Value} {n : Nat} {g : Nat → Nat} (h : w.ownsRow B 3 1 v n (rowOf g n)) (hn : 0 < n) : ∃ q cap, v = .slice (some ⟨q, 0, none⟩) n cap ∧ Ri w 3 q n (fun i => (g i : Nat)) := by
  rcases h.2 with ⟨_, h0⟩ | ⟨q, cap, cur, hv, hg, hh, hc, _, _, ht⟩
  · omega
  · refine ⟨q, cap, hv, cur, hh, fun i hi => ?_⟩
    have h1 : (rowOf g n)[i]? = some (.int .i64 (g i : Nat)) := by unfold rowOf; rw [List.getElem?_map, List.getElem?_range hi]; rfl
    rw [← ht, List.getElem?_take] at h1
    split at h1
    · simpa using h1
    · cases h1
theorem doneA_acc (s : AdS) (l : List Int) (a : Int) : doneA { s with hw := l, ac := a } = doneA s := rfl
theorem ft_acc (s : AdS) (l : List Int) (a : Int) : ({ s with hw := l, ac := a } : AdS).ft = s.ft := rfl
theorem blSa : Bl 12 Sa := by have := mkL_bl 12 V14 V14.length; rwa [mkL14] at this
theorem R14 : Pa.R = 4 := by decide
theorem okPa : Pa.Ok := ⟨by decide, by decide, by decide, by decide⟩
theorem insSa : ∀ i, 0 < Sa i → Pa.f ≤ i ∧ i < Pa.t := fun i hi => by
  unfold Sa at hi
  show 1 ≤ i ∧ i < 12
  split at hi
  · omega
  · split at hi <;> omega

theorem xcs14 {w : World} {xb cp bp rp lq lc aq ac wq tq : Nat} {dv : Value} (h : w.heap[xb]? = some (.cells (wdC14 cp dv bp rp Pa (.slice (some ⟨lq, 0, none⟩) 4 lc) (.slice (some ⟨aq, 0, none⟩) 4 ac) (slc wq 4) (slc tq 4)) 44)) : w.cell? ⟨xb, 0, none⟩ = some (.pointer (some ⟨cp, 0, none⟩)) ∧ w.cell? ⟨xb, 2, none⟩ = some (.pointer (some ⟨bp, 0, none⟩)) ∧ w.cell? ⟨xb, 4, none⟩ = some (.int .i64 1) ∧ w.cell? ⟨xb, 5, none⟩ = some (.int .i64 12) ∧ w.cell? ⟨xb, 6, none⟩ = some (.int .i64 3) ∧ w.cell? ⟨xb, 7, none⟩ = some (.int .i64 1) ∧ w.cell? ⟨xb, 8, none⟩ = some (.int .i64 7) ∧ w.cell? ⟨xb, 9, none⟩ = some (.slice (some ⟨lq, 0, none⟩) 4 lc) ∧ w.cell? ⟨xb, 10, none⟩ = some (.slice (some ⟨aq, 0, none⟩) 4 ac) ∧ w.cell? ⟨xb, 11, none⟩ = some (.slice (some ⟨wq, 0, none⟩) 4 4) ∧ w.cell? ⟨xb, 12, none⟩ = some (.slice (some ⟨tq, 0, none⟩) 4 4) := by
  refine ⟨?_, ?_, ?_, ?_, ?_, ?_, ?_, ?_, ?_, ?_, ?_⟩ <;> (rw [cell_of_heap h]; rfl)

set_option maxRecDepth 100000 in
set_option maxHeartbeats 4000000 in
theorem awake14 (w : World) (hT : Tab w) :
    Calls Tryz.prog 7 #[] w fun e w' => e = .returned (.bool true) ∧ Turned [] w w' := by
  have hw0 : 0 < w.heap.size := by have := block_lt (hT 0 (by omega)); simpa using this
  have hbs := bsThings14
  unfold thC at hbs
  obtain ⟨z, hz⟩ : ∃ z, z = w.heap.size := ⟨_, rfl⟩
  obtain ⟨wA, hwA⟩ : ∃ wA, wA = ((w.alloc (.cells #[.int .i64 2] 3)).alloc (.cells (thC w.heap.size) 62)).alloc (.cells #[.int .i64 1] 3) := ⟨_, rfl⟩
  have hg : wA.heap[w.heap.size]? = some (.cells #[.int .i64 2] 3) := by rw [hwA, Below.heap_alloc _ _ _ (by simp; omega), Below.heap_alloc _ _ _ (by simp), heap_alloc_new]
  have hh : wA.heap[w.heap.size + 1]? = some (.cells (thC w.heap.size) 62) := by
    have := heap_alloc_new (w.alloc (.cells #[.int .i64 2] 3)) (.cells (thC w.heap.size) 62)
    rw [hwA, Below.heap_alloc _ _ _ (by simp)]
    simpa using this
  have hk : wA.heap[w.heap.size + 1 + 1]? = some (.cells #[.int .i64 1] 3) := by
    have := heap_alloc_new ((w.alloc (.cells #[.int .i64 2] 3)).alloc (.cells (thC w.heap.size) 62)) (.cells #[.int .i64 1] 3)
    rw [hwA]
    simpa using this
  have TA := hide (show Turned [] w wA by rw [hwA]; exact (((Turned.refl [] w).alloc _).alloc _).alloc _)
  have HMd := hide (lmade14 (some ⟨w.heap.size + 1, 0, none⟩) 3 it14 (some ⟨w.heap.size + 1 + 1, 0, none⟩) 1 [1] 3 0 12 wA (thr14 wA _ _ hg hh) (ird_one14 wA _ 1 (by unfold In64; omega) hk) (by omega) (by decide) (by decide) (by omega) (by omega) (by omega) (hT.turned TA.out (by simp)))
  rw [show it14.length = 3 from rfl, show [(1 : Int)].length = 1 from rfl, show ((3 : Nat) : Int) = 3 from rfl, show ((0 : Nat) : Int) = 0 from rfl, show ((12 : Nat) : Int) = 12 from rfl] at HMd
  unfold thC at hwA
  have HWA := hide hwA
  have HW := hide hw0
  have HT := hide hT
  clear hg hh hk hwA hz hw0 hT
  go_enter Tryz.func7, Tryz.ntmps7
  go_wp2_with fail
  rw [← HWA.out]
  clear HWA hbs
  refine HMd.out.mono ?_
  rintro e w1 ⟨xb, cp, cq, bp, bq, rp, rq, dq, P, l, a, wq, tq, R, bs, top, rv, rfl, hW, hM, hHd, hat, hR, ⟨B0, -, -, -, hrow⟩, ht1⟩
  have hb := bs14 hHd hat
  change bs = b14 at hb
  rw [rs14] at hR hrow
  have hR3 := reach14 hHd hb hR
  subst hb
  rw [live14 hR3, mkL14] at hW hM
  obtain rfl : P = Pa := makes_uniq14 blSa hM makesPa0 (by omega) (by omega) (by omega) (by omega) (noCutN blSa)
  clear hM hHd hat hR hR3
  obtain ⟨ro, rc, rfl⟩ := own_opens14 hrow
  obtain ⟨lq, lc, rfl, hl⟩ := ri_own14 hW.dpl.lv.choose_spec (by decide)
  obtain ⟨aq, ac, rfl, ha⟩ := ri_own14 hW.dpl.ah.choose_spec (by decide)
  have HTh := hide hW.th
  have HBt := hide hW.bts
  have HLv := hide hl
  have HAh := hide ha
  have HWt := hide hW.dpl.wt
  have HTk := hide hW.dpl.tk
  have HT1 := hide (TA.out.trans ht1)
  have HLo := hide (show w.heap.size ≤ xb ∧ w.heap.size ≤ cp ∧ w.heap.size ≤ cq by have := hW.th.lo; have := TA.out.size; omega)
  have hcs : ∀ w', Turned [] w1 w' → w'.heap[xb]? = some (.cells (wdC14 cp (.slice (some ⟨dq, 0, none⟩) 12 12) bp rp Pa (.slice (some ⟨lq, 0, none⟩) 4 lc) (.slice (some ⟨aq, 0, none⟩) 4 ac) (slc wq 4) (slc tq 4)) 44) := fun w' tt => by rw [tt.block xb (lt_of_heap hW.th.head) (by simp)]; exact hW.th.head
  have HCs := hide hcs
  clear hW hl ha ht1 hrow TA HMd hcs
  have HNew : Hid (∀ (w' : World), Turned [] w1 w' → ∀ (kp kq cb : Nat), Mem w' kp kq [0] 0 → CRow w' (some ⟨cb, 0, none⟩) 4 four → w1.heap.size ≤ kp → w1.heap.size ≤ kq → Calls Tryz.prog 11 #[.pointer (some ⟨cp, 0, none⟩), .slice (some ⟨cb, 0, none⟩) 4 4, .pointer (some ⟨bp, 0, none⟩), .agg #[.int .i64 1, .int .i64 12, .int .i64 3, .int .i64 1, .int .i64 7, .slice (some ⟨lq, 0, none⟩) 4 lc, .slice (some ⟨aq, 0, none⟩) 4 ac, .slice (some ⟨wq, 0, none⟩) 4 4, .slice (some ⟨tq, 0, none⟩) 4 4], .pointer (some ⟨kp, 0, none⟩), .int .i64 1] w' fun e w'' => ∃ I : AdI, e = .returned (.tuple #[.pointer (some ⟨I.ab, 0, none⟩), .int .i64 0]) ∧ Ad w'' I Pa Sa four (stX 0) ∧ (I.cp = cp ∧ I.N = 12 ∧ I.bp = bp ∧ xb ∉ OwnA I ∧ aq ∉ OwnA I) ∧ (∀ i, i ∈ OwnA I → w.heap.size ≤ i) ∧ Turned [kp, kq] w' w'') := hide (fun w' t kp kq cb hmk hc hkp hkq => by
    have hz := t.size
    have hw0 := HW.out
    have hz1 := HT1.out.size
    have hlo := HLo.out
    have hm := HTh.out.mem
    have hl1 := hm.ltp
    have hl2 := hm.ltq
    refine (anew_ok w' Pa Sa four cp cq kp kq bp bq 12 1 (heapOf it14 12).1 0 [0] 0 cb 0 4 4 lq lc aq ac wq 4 tq 4 _ _ _ (hm.turned t (by simp) (by simp)) hmk (by decide +kernel) (by omega) (by decide) (HBt.out.turned0 t) blSa okPa (by decide) (by decide) (by decide) (by decide) (by decide) insSa (by omega) (by omega) hc (by omega) (HLv.out.turned0 t) (HAh.out.turned0 t) (HWt.out.turned0 t) (HTk.out.turned0 t)).mono ?_
    rintro e w'' ⟨I, he, hA, e1, e2, e3, e4, e5, e6, e7, e8, hi, ht⟩
    have hn : ∀ x, x < w1.heap.size → x ≠ cp → x ≠ cq → x ∉ OwnA I := by
      intro x hx h1 h2 hi2
      unfold OwnA at hi2
      simp only [List.mem_cons] at hi2
      rcases hi2 with rfl | rfl | rfl | rfl | rfl | rfl | hi2
      · have := hi I.ab (by simp); omega
      · have := hi I.mb (by simp); omega
      · omega
      · omega
      · omega
      · omega
      · have := hi x (by simp [hi2]); omega
    have hxh := HTh.out.head
    have hah := HAh.out
    obtain ⟨ca, hac, _⟩ := hah
    refine ⟨I, he, hA, ⟨e1, e7, e5, hn xb (lt_of_heap hxh) (ne_of_type hxh hm.head (by decide)) (ne_of_type hxh hm.row (by decide)), hn aq (lt_of_heap hac) (ne_of_type hac hm.head (by decide)) (ne_of_type hac hm.row (by decide))⟩, fun i hi2 => ?_, ht⟩
    unfold OwnA at hi2
    simp only [List.mem_cons] at hi2
    rcases hi2 with rfl | rfl | rfl | rfl | rfl | rfl | hi2
    · have := hi I.ab (by simp); omega
    · have := hi I.mb (by simp); omega
    · omega
    · omega
    · omega
    · omega
    · have := hi i (by simp [hi2]); omega)
  obtain ⟨x0, x2, x4, x5, x6, x7, x8, x9, x10, x11, x12⟩ := xcs14 (HCs.out _ (Turned.refl [] w1).drew)
  go_wp2_with fail
  go_region_held3 (fun w' => w'.cell? ⟨xb, 0, none⟩ = some (.pointer (some ⟨cp, 0, none⟩)) ∧ w'.cell? ⟨xb, 2, none⟩ = some (.pointer (some ⟨bp, 0, none⟩)) ∧ w'.cell? ⟨xb, 4, none⟩ = some (.int .i64 1) ∧ w'.cell? ⟨xb, 5, none⟩ = some (.int .i64 12) ∧ w'.cell? ⟨xb, 6, none⟩ = some (.int .i64 3) ∧ w'.cell? ⟨xb, 7, none⟩ = some (.int .i64 1) ∧ w'.cell? ⟨xb, 8, none⟩ = some (.int .i64 7) ∧ w'.cell? ⟨xb, 9, none⟩ = some (.slice (some ⟨lq, 0, none⟩) 4 lc) ∧ w'.cell? ⟨xb, 10, none⟩ = some (.slice (some ⟨aq, 0, none⟩) 4 ac) ∧ w'.cell? ⟨xb, 11, none⟩ = some (.slice (some ⟨wq, 0, none⟩) 4 4) ∧ w'.cell? ⟨xb, 12, none⟩ = some (.slice (some ⟨tq, 0, none⟩) 4 4)) (go_keep)
    (first
      | (go_at_call 12; refine (four_any _).mono ?_; rintro e w2 ⟨cb, rfl, hc2, t2, hcb⟩; have HC2 := hide hc2; have HT2 := hide ((Turned.refl [] w1).drew.trans t2); obtain ⟨y0, y2, y4, y5, y6, y7, y8, y9, y10, y11, y12⟩ := xcs14 (HCs.out _ HT2.out); clear hc2 t2 hcb)
      | (go_at_call 10; refine (new_any 1 _).mono ?_; rintro e w3 ⟨rfl, hm3, t3, hz3⟩; have HM3 := hide hm3; have HC3 := hide (HC2.out.turned0 t3); have HS3 := hide (HT2.out.size); have HT3 := hide (HT2.out.trans t3); obtain ⟨u0, u2, u4, u5, u6, u7, u8, u9, u10, u11, u12⟩ := xcs14 (HCs.out _ HT3.out); clear hm3 t3 hz3)
      | (go_at_call 11; refine (HNew.out _ HT3.out _ _ _ HM3.out HC3.out (Nat.le_succ_of_le HS3.out) HS3.out).mono ?_; rintro e w4 ⟨I, rfl, hA, hI, hO, t4⟩; have HA4 := hide hA; have HI := hide hI; have HO := hide hO; have HT4 := hide t4; obtain ⟨v0, v2, v4, v5, v6, v7, v8, v9, v10, v11, v12⟩ := xcs14 (show w4.heap[xb]? = _ by rw [t4.block xb (block_lt u0) (by have := lt_of_heap HTh.out.head; have := HS3.out; simp; omega)]; exact HCs.out _ HT3.out); clear hA hI hO t4))
  have HT4w : Hid (Turned [] w w4) := hide ((HT1.out.trans HT3.out).trans_new HT4.out (fun i hi => .inr (by
    have h1 := HS3.out
    have h2 := HT1.out.size
    simp only [List.mem_cons, List.not_mem_nil, or_false] at hi
    rcases hi with rfl | rfl <;> omega)))
  have HX4 := hide (show w4.heap[xb]? = some (.cells (wdC14 cp (.slice (some ⟨dq, 0, none⟩) 12 12) bp rp Pa (.slice (some ⟨lq, 0, none⟩) 4 lc) (.slice (some ⟨aq, 0, none⟩) 4 ac) (slc wq 4) (slc tq 4)) 44) by rw [HT4.out.block xb (block_lt u0) (by have := lt_of_heap HTh.out.head; have := HS3.out; simp; omega)]; exact HCs.out _ HT3.out)
  have HAh4 : Hid (Ah w4 Pa Sa aq) := hide (by
    have h3 : Ah w3 Pa Sa aq := Ri.turned0 HAh.out HT3.out
    obtain ⟨ca, hac, _⟩ := HAh.out
    exact Ri.turned h3 HT4.out (by have := lt_of_heap hac; have := HS3.out; simp; omega))
  have HSt : Hid (∀ (m : Nat) (wr : World), m < 10 → Ad wr I Pa Sa four (stX m) → Calls Tryz.prog 14 #[.pointer (some ⟨I.ab, 0, none⟩), .int .i64 0] wr fun e w' => e = .returned (.int .i64 (if m = 9 then 2 else 0)) ∧ Ad w' I Pa Sa four (stX (m + 1)) ∧ Turned (OwnA I) wr w') := hide (fun m wr hm hA => by
    obtain ⟨x, h1, h2, h3, h4, h5⟩ := step14 hm
    refine (astep_on wr I Pa Sa four (stX m) 0 x hA h1 h2 (by rw [HI.out.2.1]; exact h3)).mono ?_
    rintro e w' ⟨he, hA', ht⟩
    rw [HI.out.2.1, h5] at hA'
    refine ⟨?_, hA', ht⟩
    rw [he, h4]
    by_cases hm9 : m = 9 <;> simp [hm9])
  clear u0 u2 u4 u5 u6 u7 u8 u9 u10 u11 u12 v0 v2 v4 v5 v6 v7 v8 v9 v10 v11 v12 x0 x2 x4 x5 x6 x7 x8 x9 x10 x11 x12 y0 y2 y4 y5 y6 y7 y8 y9 y10 y11 y12
  clear HNew HTh HBt HLv HAh HWt HTk HT1 HCs HC2 HT2 HM3 HC3 HS3 HT3 HT4 HT
  go_wp2_with fail
  go_loopg [5] 9 (fun gg s5 wr => ∃ m : Nat, gg = 9 - m ∧ m ≤ 9 ∧ s5 = .int .i64 (m : Int) ∧ Hid (Ad wr I Pa Sa four (stX m)) ∧ Hid (Turned (OwnA I) w4 wr))
  case atStart => exact ⟨0, rfl, by omega, rfl, HA4, hide (Turned.refl _ _)⟩
  case round =>
    clear HA4
    obtain ⟨m, rfl, hm, rfl, HAr, HTr⟩ := hrel
    have HS := hide (HSt.out m wr (by omega) HAr.out)
    by_cases h9 : m = 9
    · subst h9
      rw [if_pos rfl] at HS
      have hmi : ((9 : Nat) : Int) < 50 := by omega
      go_wp2_with fail
      refine HS.out.mono ?_
      rintro e w5 ⟨rfl, hA5, t5⟩
      have HA5 := hide hA5
      have HT5 := hide (HTr.out.trans t5)
      clear hA5 t5 HS HAr HTr
      have hx5 : w5.heap[xb]? = _ := (HT5.out.block xb (lt_of_heap HX4.out) HI.out.2.2.2.1).trans HX4.out
      have HX5 := hide hx5
      obtain ⟨x0, -⟩ := xcs14 hx5
      clear hx5
      have HLd := hide (load_in cp I.cq (stX 10).hw (stX 10).ac w5 4 5 fin14.2.1 (by rw [← HI.out.1]; exact HA5.out.mem))
      rw [show ((4 : Nat) : Int) = 4 from rfl] at HLd
      go_wp2_with fail
      refine HLd.out.mono ?_
      rintro e w6 ⟨rfl, hm6, t6⟩
      have HA6 := hide (HA5.out.acc (by rw [HI.out.1]; exact hm6) (by rw [HI.out.1]; exact t6))
      have HT6 := hide (HT5.out.trans (t6.mono (T := OwnA I) (fun i hi => by
        have := HI.out.1
        unfold OwnA
        simp only [List.mem_cons, List.not_mem_nil, or_false] at hi ⊢
        rcases hi with rfl | rfl <;> simp [this])))
      have hx6 : w6.heap[xb]? = _ := (HT6.out.block xb (lt_of_heap HX4.out) HI.out.2.2.2.1).trans HX4.out
      have HX6 := hide hx6
      have HAh6 : Hid (Ah w6 Pa Sa aq) := hide (Ri.turned HAh4.out HT6.out HI.out.2.2.2.2)
      have HRt : Hid (∀ (w' : World) (g : Nat), Turned [] w6 w' → w'.heap[g]? = some (.cells #[.int .i64 3, .int .i64 0, .int .i64 9] 2) → Calls Tryz.prog 19 #[.pointer (some ⟨bp, 0, none⟩), .agg #[.int .i64 1, .int .i64 12, .int .i64 3, .int .i64 1, .int .i64 7, .slice (some ⟨lq, 0, none⟩) 4 lc, .slice (some ⟨aq, 0, none⟩) 4 ac, .slice (some ⟨wq, 0, none⟩) 4 4, .slice (some ⟨tq, 0, none⟩) 4 4], .slice (some ⟨g, 0, none⟩) 3 3] w' fun e w'' => ∃ q, e = .returned (.slice (some ⟨q, 0, none⟩) 3 3) ∧ (w''.cell? ⟨q, 0, none⟩ = some (.int .i64 1) ∧ w''.cell? ⟨q, 1, none⟩ = some (.int .i64 0) ∧ w''.cell? ⟨q, 2, none⟩ = some (.int .i64 9)) ∧ Turned [] w' w'') := hide (fun w' g t hg => by
        have hb := HA6.out.bts
        rw [HI.out.2.2.1, HI.out.2.1] at hb
        refine (aroots_any (some ⟨bp, 0, none⟩) 12 Pa okPa Sa (.slice (some ⟨lq, 0, none⟩) 4 lc) (.slice (some ⟨wq, 0, none⟩) 4 4) (.slice (some ⟨tq, 0, none⟩) 4 4) aq ac (some ⟨g, 0, none⟩) 3 3 [3, 0, 9] w' (hb.brd.turned t) blSa (Ri.turned0 HAh6.out t) (by decide) (by decide) (by decide) insSa ⟨rfl, by omega, fun i x hx => ⟨g, 0, rfl, ?_⟩, fun x hx => ?_⟩ (by omega)).mono ?_
        · rw [Nat.zero_add, cell_of_heap hg]
          match i, hx with
          | 0, hx => simp at hx; subst hx; rfl
          | 1, hx => simp at hx; subst hx; rfl
          | 2, hx => simp at hx; subst hx; rfl
          | i + 3, hx => simp at hx
        · simp at hx
          unfold In64
          rcases hx with rfl | rfl | rfl <;> omega
        · rintro e w'' ⟨q, he, hr, -, ht⟩
          refine ⟨q, he, ⟨?_, ?_, ?_⟩, ht⟩
          · rw [hr.cell (i := 0) (by omega)]
            show some (Value.int .i64 (toA Pa Sa 12 3)) = _
            rw [toX_eq, to14.1]
          · rw [hr.cell (i := 1) (by omega)]
            show some (Value.int .i64 (toA Pa Sa 12 0)) = _
            rw [toX_eq, to14.2.1]
          · rw [hr.cell (i := 2) (by omega)]
            show some (Value.int .i64 (toA Pa Sa 12 9)) = _
            rw [toX_eq, to14.2.2])
      obtain ⟨y0, y2, y4, y5, y6, y7, y8, y9, y10, y11, y12⟩ := xcs14 (show w6.drew.heap[xb]? = _ from hx6)
      have hal : (w6.alloc (.cells #[.int .i64 3, .int .i64 0, .int .i64 9] 2)).heap[xb]? = _ := (Below.heap_alloc _ _ _ (lt_of_heap hx6)).trans hx6
      obtain ⟨q0, q2, q4, q5, q6, q7, q8, q9, q10, q11, q12⟩ := xcs14 (show (w6.alloc (.cells #[.int .i64 3, .int .i64 0, .int .i64 9] 2)).drew.heap[xb]? = _ from hal)
      have HRt2 := hide (HRt.out (w6.alloc (.cells #[.int .i64 3, .int .i64 0, .int .i64 9] 2)).drew w6.heap.size ((Turned.refl [] w6).alloc _).drew (heap_alloc_new _ _))
      have HT7 := hide (show Turned [] w6 (w6.alloc (.cells #[.int .i64 3, .int .i64 0, .int .i64 9] 2)).drew from ((Turned.refl [] w6).alloc _).drew)
      have HAl := hide hal
      clear HRt hal
      clear hm6 t6 hx6 HLd x0 HA5 HT5 HX5
      go_wp2_with fail
      go_region_held3 (fun w' => w'.cell? ⟨xb, 0, none⟩ = some (.pointer (some ⟨cp, 0, none⟩)) ∧ w'.cell? ⟨xb, 2, none⟩ = some (.pointer (some ⟨bp, 0, none⟩)) ∧ w'.cell? ⟨xb, 4, none⟩ = some (.int .i64 1) ∧ w'.cell? ⟨xb, 5, none⟩ = some (.int .i64 12) ∧ w'.cell? ⟨xb, 6, none⟩ = some (.int .i64 3) ∧ w'.cell? ⟨xb, 7, none⟩ = some (.int .i64 1) ∧ w'.cell? ⟨xb, 8, none⟩ = some (.int .i64 7) ∧ w'.cell? ⟨xb, 9, none⟩ = some (.slice (some ⟨lq, 0, none⟩) 4 lc) ∧ w'.cell? ⟨xb, 10, none⟩ = some (.slice (some ⟨aq, 0, none⟩) 4 ac) ∧ w'.cell? ⟨xb, 11, none⟩ = some (.slice (some ⟨wq, 0, none⟩) 4 4) ∧ w'.cell? ⟨xb, 12, none⟩ = some (.slice (some ⟨tq, 0, none⟩) 4 4)) (go_keep)
        (first
          | (go_at_call 19; refine HRt2.out.mono ?_; rintro e w7 ⟨q, rfl, ⟨r0, r1, r2⟩, t7⟩; have HT8 := hide (HT7.out.trans t7); obtain ⟨v0, v2, v4, v5, v6, v7, v8, v9, v10, v11, v12⟩ := xcs14 (show w7.heap[xb]? = _ from (t7.block xb (lt_of_heap HAl.out) (by simp)).trans HAl.out); clear t7))
      have HA7 := hide (HA6.out.quiet HT8.out)
      have HDn : Hid (Calls Tryz.prog 15 #[.pointer (some ⟨I.ab, 0, none⟩)] w7 fun e w' => e = .returned (.bool true) ∧ w' = w7) := hide ((adone_any w7 I Pa Sa four _ HA7.out).mono (fun e w' ⟨h1, h2⟩ => ⟨by rw [h1, doneA_acc, fin14.1], h2⟩))
      have HFt : Hid (Calls Tryz.prog 18 #[.pointer (some ⟨I.ab, 0, none⟩)] w7 fun e w' => e = .returned (.int .i64 0) ∧ w' = w7) := hide ((afault_any w7 I Pa Sa four _ HA7.out).mono (fun e w' ⟨h1, h2⟩ => ⟨by rw [h1, ft_acc, fin14.2.2], h2⟩))
      have HTf : Hid (Turned [] w w7) := hide ((HT4w.out.trans_new HT6.out (fun i hi => .inr (HO.out i hi))).trans HT8.out)
      clear y0 y2 y4 y5 y6 y7 y8 y9 y10 y11 y12 q0 q2 q4 q5 q6 q7 q8 q9 q10 q11 q12 v0 v2 v4 v5 v6 v7 v8 v9 v10 v11 v12 HRt2 HAl HT7 HT8 HA6 HA7 HT6 HX6 HAh6
      go_wp2_with fail
      refine HDn.out.mono ?_
      rintro e w8 ⟨rfl, rfl⟩
      go_wp2_with fail
      refine HFt.out.mono ?_
      rintro e w9 ⟨rfl, rfl⟩
      go_wp2_with fail
      go_ret
      exact ⟨rfl, HTf.out⟩
    · rw [if_neg h9] at HS
      have hmi : (m : Int) < 50 := by omega
      have HMl := hide (show m + 1 ≤ 9 by omega)
      have HMe := hide (show 9 - (m + 1) < 9 - m by omega)
      go_wp2_with fail
      refine HS.out.mono ?_
      rintro e w5 ⟨rfl, hA5, t5⟩
      have HA5 := hide hA5
      have HT5 := hide (HTr.out.trans t5)
      clear hA5 t5 HS HAr HTr h9
      go_wp2_with fail
      go_roundg (9 - (m + 1))
      case measure => exact HMe.out
      case rel => exact ⟨m + 1, rfl, HMl.out, by go_num, HA5, HT5⟩
end Go.Proofs.YtpeglndlhjnaaaaGreatDoor

/-
  The heap of a law on turning is good: references stand within their blocks, and refer to marked ones. No Go is walked here.
-/
namespace Go.Proofs.YtpeglndlhjnaaaaGreatDoor
open Go.RowKit Bt
set_option linter.unusedVariables false
set_option linter.unusedSimpArgs false

theorem plA_eq {cs : List Cls} {N a r : Nat} {h : Int} (hr : (refsOf cs (hdC h) (hdL h)) = (r : Int)) (hN : a + r < N) : plA cs N a h = (List.range r).map fun i => a + (i + 1) := by
  unfold plA
  rw [hr, Int.toNat_natCast]
  refine List.filter_eq_self.2 (fun p hp => ?_)
  obtain ⟨i, hi, rfl⟩ := List.mem_map.1 hp
  have := List.mem_range.1 hi
  simp; omega
theorem plA_nodup (a r : Nat) : ((List.range r).map fun i => a + (i + 1)).Nodup := by
  rw [List.nodup_iff_pairwise_ne, List.pairwise_map]
  exact (List.nodup_iff_pairwise_ne.1 List.nodup_range).imp (fun h e => h (by omega))
/-- What a marked block is. -/
structure Blk14 (N : Nat) (L : List Int) (S : Nat → Nat) (bs : List Blk) (a : Nat) where
  b : Blk
  mem : b ∈ bs
  t_ : b.t = (a : Int)
  s_ : b.s = (S a : Nat)
  r : Nat
  rf : refsOf four b.k b.n = (r : Int)
  q : Qp S four N L a = (List.range r).map fun i => a + (i + 1)
  le : a + r < a + S a ∧ a + S a ≤ N
section
variable {N : Nat} {L : List Int} {top : Int} {bs : List Blk} {R rs : List Int}
theorem blk14 (h : Hd N L top bs) {a : Nat} (ha : 0 < mkL N (liveBs bs R) (liveBs bs R).length a) : Nonempty (Blk14 N L (mkL N (liveBs bs R) (liveBs bs R).length) bs a) := by
  have hrow := live_rowed h R
  have hm := mkL_marked hrow _ (Nat.le_refl _)
  obtain ⟨k, b, k1, k2, k3, k4⟩ := hm.off a ha
  have hmem := List.mem_of_getElem? k2
  have hbs := (List.mem_filter.1 hmem).1
  have hrd := readOf_some (h.chain.read b hbs).1
  obtain ⟨r1, r2, r3, r4, r5, r6, r7, x, r8, r9, r10, r11⟩ := hrd
  have hw := refs_within r6
  rw [← r7] at hw
  have hlen := h.chain.len
  have hx : L.getD a 0 = x := by
    unfold wordAt at r8
    rw [k3, if_pos (by omega), Int.toNat_natCast] at r8
    rw [List.getD_eq_getElem?_getD, r8]; rfl
  have h0 : 0 ≤ refsOf four b.k b.n := by
    have := (h.chain.read b hbs).2
    exact (refsOf_range four b.k b.n).1
  obtain ⟨r, hr⟩ := Int.eq_ofNat_of_zero_le h0
  have e := hrow.each k b k2
  refine ⟨⟨b, hbs, k3, k4, r, hr, ?_, by omega, by omega⟩⟩
  unfold Qp
  rw [if_pos ha, hx]
  have e1 : hdC x = b.k := by unfold hdC; rw [if_pos r9, r10]
  have e2 : hdL x = b.n := by unfold hdL; rw [if_pos r9, r11]
  exact plA_eq (by rw [e1, e2]; exact hr) (by omega)
theorem Blk14.mem_q {S : Nat → Nat} {a p : Nat} (B : Blk14 N L S bs a) : p ∈ Qp S four N L a ↔ a < p ∧ p ≤ a + B.r := by
  rw [B.q, List.mem_map]
  constructor
  · rintro ⟨i, hi, rfl⟩
    have := List.mem_range.1 hi
    omega
  · rintro ⟨h1, h2⟩
    exact ⟨p - a - 1, List.mem_range.2 (by omega), by omega⟩
theorem qp_pos {S : Nat → Nat} {cs : List Cls} {a p : Nat} (h : p ∈ Qp S cs N L a) : 0 < S a := by
  unfold Qp at h
  split at h
  · assumption
  · cases h
theorem good14 (h : Hd N L top bs) (hb : ∀ x, x ∈ R ↔ Rch (objOf (bs ++ tail4 N top)) (refWords L four) rs x) (hr : ∀ r, r ∈ rs → r = 0 ∨ ∃ b, b ∈ bs ∧ r = b.t) (hin : AllIn L) (hN : 1 ≤ N ∧ N ≤ 65536) {k v : Nat} (hk : 1 ≤ k ∧ k ≤ 65536) {P : PN} (hP : Makes (mkL N (liveBs bs R) (liveBs bs R).length) 1 N k v P) : GoodA P (mkL N (liveBs bs R) (liveBs bs R).length) four N L := by
  have hrow := live_rowed h R
  have hm := mkL_marked hrow _ (Nat.le_refl _)
  have hbl := mkL_bl N (liveBs bs R) (liveBs bs R).length
  have hB := fun (a : Nat) => blk14 (R := R) h (a := a)
  generalize mkL N (liveBs bs R) (liveBs bs R).length = S at *
  have one : ∀ a b p, p ∈ Qp S four N L a → p ∈ Qp S four N L b → a = b := fun a b p h1 h2 => by
    obtain ⟨A⟩ := hB a (qp_pos h1)
    obtain ⟨B⟩ := hB b (qp_pos h2)
    have a1 := A.mem_q.1 h1
    have b1 := B.mem_q.1 h2
    have a2 := A.le
    have b2 := B.le
    exact hbl.one (k := p) ⟨by omega, by omega⟩ ⟨by omega, by omega⟩
  have cnt1 : ∀ a p, (Qp S four N L a).count p ≤ 1 := fun a p => by
    by_cases h0 : 0 < S a
    · obtain ⟨A⟩ := hB a h0
      rw [A.q]
      exact List.nodup_iff_count.1 (plA_nodup a A.r) p
    · unfold Qp; rw [if_neg h0]; simp
  refine ⟨hP.ok hN.1 hN.2 hk.1 hk.2, by rw [hP.t_]; exact Nat.le_refl _, hN.2, h.chain.len, fun a ha => ?_, fun a ha b hb2 => ?_, fun b p hp => ?_, fun p => ?_, fun y hy => hin y hy, fun a => ?_, hbl, fun a ha => ?_⟩
  · obtain ⟨A⟩ := hB a ha
    obtain ⟨k', b, k1, k2, k3, k4⟩ := hm.off a ha
    have := (hrow.each k' b k2).1
    have := A.le
    rw [hP.f_, hP.t_]
    omega
  · obtain ⟨B⟩ := hB b (qp_pos hb2)
    have b1 := B.mem_q.1 hb2
    have b2 := B.le
    have := hbl.one (k := a) (a := a) (b := b) ⟨Nat.le_refl _, by omega⟩ ⟨by omega, by omega⟩
    omega
  · obtain ⟨B⟩ := hB b (qp_pos hp)
    have b1 := B.mem_q.1 hp
    have b2 := B.le
    have hlen := h.chain.len
    have hwd : wordAt L (B.b.t + ((p - b : Nat) : Int)) = some (L.getD p 0) := by
      unfold wordAt
      rw [B.t_, if_pos (by omega), show ((b : Int) + ((p - b : Nat) : Int)).toNat = p by omega, List.getD_eq_getElem?_getD, List.getElem?_eq_getElem (by omega)]
      rfl
    have href := h.chain.refs B.b B.mem ((p - b : Nat) : Int) (by omega) (by rw [B.rf]; omega) _ hwd
    unfold okA
    rw [decide_eq_true_eq]
    rcases href with h0 | ⟨c, hc, hy⟩
    · exact .inl h0
    · right
      by_cases hz : L.getD p 0 = 0
      · exfalso
        have := (readOf_some (h.chain.read c hc).1)
        have hlo := (conn_le _ _ _ h.chain.chain).2 c hc
        omega
      · -- c is reached, so it is marked
        have hbR : B.b.t ∈ R := by
          obtain ⟨k', b', k1, k2, k3, k4⟩ := hm.off b (qp_pos hp)
          have h1 := (List.mem_filter.1 (List.mem_of_getElem? k2)).2
          rw [B.t_, ← k3]
          simpa using h1
        have hcR : c.t ∈ R := by
          rw [← hy]
          refine (hb _).2 (.next ((hb _).1 hbR) (h.obj B.mem) ?_ hz)
          unfold refWords
          rw [List.mem_filterMap]
          refine ⟨((p - b : Nat) : Int), ?_, hwd⟩
          rw [B.rf, Int.toNat_natCast]
          unfold rowTo
          rw [List.mem_map]
          exact ⟨p - b - 1, List.mem_range.2 (by omega), by omega⟩
        obtain ⟨j, hj⟩ := List.getElem?_of_mem (show c ∈ liveBs bs R from List.mem_filter.2 ⟨hc, by simpa using hcR⟩)
        have hj2 := (List.getElem?_eq_some_iff.1 hj).1
        have e := hrow.each j c hj
        have hon := hm.on j c hj2 hj
        rw [hy]
        exact ⟨by omega, by omega, by rw [hon]; omega⟩
  · by_cases hex : ∃ a, P.f ≤ a ∧ a < P.t ∧ p ∈ Qp S four N L a
    · obtain ⟨a, a1, a2, a3⟩ := hex
      have hz : ∀ b, b ≠ a → (Qp S four N L b).count p = 0 := fun b hne => List.count_eq_zero.2 (fun hb3 => hne (one b a p hb3 a3))
      rw [sumR_split _ (show P.f ≤ a + 1 by omega) (show a + 1 ≤ P.t by omega), sumR_split _ a1 (Nat.le_succ a), sumR_one, sumR_zero _ (fun b b1 b2 => hz b (by omega)), sumR_zero _ (fun b b1 b2 => hz b (by omega))]
      have := cnt1 a p
      omega
    · rw [sumR_zero _ (fun b b1 b2 => List.count_eq_zero.2 (fun hb3 => hex ⟨b, b1, b2, hb3⟩))]
      omega
  · by_cases h0 : 0 < S a
    · obtain ⟨A⟩ := hB a h0
      rw [A.q]
      have := A.le
      simp; omega
    · unfold Qp; rw [if_neg h0]; simp
  · obtain ⟨A⟩ := hB a ha
    rw [A.q]
    have := A.le
    simp; omega
end
/-- From the first on. -/
theorem inv0A {P : PN} {S : Nat → Nat} {cs : List Cls} {N : Nat} {L : List Int} (hG : GoodA P S cs N L) (cl : List Int) (hcl : 0 < cl.length) (ac cc : Int) (n : Nat) : InvA P S cs N L (s0A L ac cl cc n) := by
  have hc : (s0A L ac cl cc n).cl[0]? = some (((0 : Nat) : Int)) := List.getElem?_set_self hcl
  have hcA : cA (s0A L ac cl cc n) = 0 := by
    unfold cA
    rw [List.getD_eq_getElem?_getD, hc]; rfl
  have hw : ∀ (k : Nat) (x : AdW), (s0A L ac cl cc n).ws[k]? = some x → x = w0A := fun k x hx => by
    unfold s0A at hx
    rw [List.getElem?_replicate] at hx
    split at hx
    · exact (Option.some.inj hx).symm
    · cases hx
  have hz : ∀ p, ((s0A L ac cl cc n).ws.map (cwA S cs N L p)).sum = 0 := fun p => sum_zeroA _ _ (fun k x hx => by
    rw [hw k x hx]
    unfold cwA w0A
    simp [sumR_none])
  have htot : ∀ p, totA P S cs N L (s0A L ac cl cc n) p = sumR (fun a => (Qp S cs N L a).count p) P.f P.t := fun p => by
    unfold totA
    rw [hz p, hcA, Nat.zero_min, PN.ed_zero hG.ok, Nat.zero_add]
    rfl
  refine ⟨⟨0, hc⟩, fun k x hx => ?_, hG.len, fun p => by rw [htot]; exact hG.one p, fun p hp h0 hi => ?_, fun p hp _ => rfl, rfl⟩
  · rw [hw k x hx]
    exact ⟨by decide, fun _ => rfl, fun e => (by cases e), Nat.zero_le _, Nat.zero_le _, fun p hp => (by cases hp), fun e => (by cases e), by decide, fun e => (by cases e)⟩
  · obtain ⟨b, hb⟩ := hi
    have h1 := hG.ins b (qp_pos hb)
    have h2 := sumR_pos (fun a => (Qp S cs N L a).count p) h1.1 h1.2
    rw [htot] at h0
    have h3 : 0 < (Qp S cs N L b).count p := List.count_pos_iff.2 hb
    omega
/-- So much is left at first. -/
theorem mea0A {P : PN} {S : Nat → Nat} {cs : List Cls} {N : Nat} {L : List Int} (hG : GoodA P S cs N L) (cl : List Int) (hcl : 0 < cl.length) (ac cc : Int) (n : Nat) : meaA P S cs N L (s0A L ac cl cc n) ≤ n + 3 * N ∧ cA (s0A L ac cl cc n) = 0 := by
  have hc : (s0A L ac cl cc n).cl[0]? = some (((0 : Nat) : Int)) := List.getElem?_set_self hcl
  have hcA : cA (s0A L ac cl cc n) = 0 := by
    unfold cA
    rw [List.getD_eq_getElem?_getD, hc]; rfl
  refine ⟨?_, hcA⟩
  have hs : ∀ m, ((List.replicate m w0A).map (mwA S cs N L)).sum = m := fun m => by
    induction m with
    | zero => rfl
    | succ m ih =>
      rw [List.replicate_succ, List.map_cons, List.sum_cons, ih]
      have : mwA S cs N L w0A = 1 := by unfold mwA w0A; simp [sumR_none]
      omega
  unfold meaA
  rw [hcA, Nat.zero_min, PN.ed_zero hG.ok]
  have h1 := wq_all hG
  have h2 := R_le hG.ok
  have h3 := hG.tN
  have h4 := hs n
  show ((List.replicate n w0A).map (mwA S cs N L)).sum + _ + _ ≤ _
  omega
end Go.Proofs.YtpeglndlhjnaaaaGreatDoor

/-
  An adjuster through a law: what made gives, all that stays, what each call does.
-/
namespace Go.Proofs.YtpeglndlhjnaaaaGreatDoor
open Go.RowKit Bt
set_option linter.unusedVariables false
set_option linter.unusedSimpArgs false

/-- What made gives. -/
structure LJ where
  xb : Nat
  cp : Nat
  cq : Nat
  bp : Nat
  bq : Nat
  rp : Nat
  rq : Nat
  dq : Nat
  lq : Nat
  lc : Nat
  aq : Nat
  ac : Nat
  wq : Nat
  tq : Nat
  N : Nat
  L : List Int
  S : Nat → Nat
  P : PN
def LJ.plan (J : LJ) : Array Value := plC J.P (.slice (some ⟨J.lq, 0, none⟩) J.P.R J.lc) (.slice (some ⟨J.aq, 0, none⟩) J.P.R J.ac) (.slice (some ⟨J.wq, 0, none⟩) J.P.R J.P.R) (.slice (some ⟨J.tq, 0, none⟩) J.P.R J.P.R)
def LJ.cells (J : LJ) : Array Value := wdC14 J.cp (.slice (some ⟨J.dq, 0, none⟩) J.N J.N) J.bp J.rp J.P (.slice (some ⟨J.lq, 0, none⟩) J.P.R J.lc) (.slice (some ⟨J.aq, 0, none⟩) J.P.R J.ac) (slc J.wq J.P.R) (slc J.tq J.P.R)
/-- All of it in memory but the heap's words. -/
structure Wx (J : LJ) (w : World) : Prop where
  head : w.heap[J.xb]? = some (.cells J.cells 44)
  doc : Doc w J.dq J.L
  dne : J.dq ≠ J.cp ∧ J.dq ≠ J.cq
  bts : Bts w J.bp J.bq J.N (sidesOf J.S)
  rb : RB w J.rp J.rq J.N J.S
  lv : Ri w 3 J.lq J.P.R (fun r => (lvR J.P (live J.S) r : Nat))
  ah : Ah w J.P J.S J.aq
  wt : Ri w 3 J.wq J.P.R (fun r => (wtR J.P (live J.S) r : Nat))
  tk : Rp w J.tq J.P.R (fun r s => tkR J.P (live J.S) r s)
  gd : GoodA J.P J.S four J.N J.L
  fd : J.P.f ≤ J.P.d
  dt : J.P.d ≤ J.P.t
  ft : J.P.f = 1 ∧ J.P.t = J.N
  n6 : J.N ≤ 1000
section
variable {J : LJ} {w w' wm : World}
/-- The heap's words may turn. -/
theorem Wx.turned (h : Wx J wm) {L : List Int} {a : Int} (hm : Mem wm J.cp J.cq L a) (t : Turned [J.cp, J.cq] wm w) (hp : 0 < J.cp ∧ 0 < J.cq) : Wx J w := by
  have hT : ∀ (x : Nat) (c : Array Value) (e : TypeId) (fr : Nat × Nat), wm.heap[x]? = some (.cells c e fr) → e ≠ 86 → e ≠ 2 → x ∉ [J.cp, J.cq] := by
    intro x c e fr hx h1 h2
    have a1 := ne_of_type hx hm.head h1
    have a2 := ne_of_type hx hm.row h2
    simp; exact ⟨a1, a2⟩
  obtain ⟨d1, d2⟩ := h.dne
  obtain ⟨bc, hbc, _⟩ := h.bts.row
  obtain ⟨rc, hrc, _⟩ := h.rb.row
  have k1 := h.lv
  have k2 := h.ah
  have k3 := h.wt
  have k4 := h.tk
  obtain ⟨c1, hc1, _⟩ := k1
  obtain ⟨c2, hc2, _⟩ := k2
  obtain ⟨c3, hc3, _⟩ := k3
  obtain ⟨c4, hc4, _⟩ := k4
  exact ⟨by rw [t.block _ (lt_of_heap h.head) (hT _ _ _ _ h.head (by decide) (by decide))]; exact h.head, h.doc.turned t (by simp; exact ⟨d1, d2⟩), h.dne, h.bts.turned t (hT _ _ _ _ h.bts.head (by decide) (by decide)) (hT _ _ _ _ hbc (by decide) (by decide)) (by simp; omega), h.rb.turned t (hT _ _ _ _ h.rb.head (by decide) (by decide)) (hT _ _ _ _ hrc (by decide) (by decide)), h.lv.turned t (hT _ _ _ _ hc1 (by decide) (by decide)), Ri.turned h.ah t (hT _ _ _ _ hc2 (by decide) (by decide)), h.wt.turned t (hT _ _ _ _ hc3 (by decide) (by decide)), h.tk.turned t (hT _ _ _ _ hc4 (by decide) (by decide)), h.gd, h.fd, h.dt, h.ft, h.n6⟩
theorem Wx.quiet (h : Wx J w) (t : Turned [] w w') : Wx J w' :=
  ⟨by rw [t.block _ (lt_of_heap h.head) (by simp)]; exact h.head, h.doc.turned t (by simp), h.dne, h.bts.turned0 t, h.rb.turned0 t, h.lv.turned0 t, Ri.turned0 h.ah t, h.wt.turned0 t, h.tk.turned0 t, h.gd, h.fd, h.dt, h.ft, h.n6⟩
/-- The cells of the law's own struct. -/
theorem Wx.cs (h : Wx J w) : w.cell? ⟨J.xb, 0, none⟩ = some (.pointer (some ⟨J.cp, 0, none⟩)) ∧ w.cell? ⟨J.xb, 1, none⟩ = some (.slice (some ⟨J.dq, 0, none⟩) J.N J.N) ∧ w.cell? ⟨J.xb, 2, none⟩ = some (.pointer (some ⟨J.bp, 0, none⟩)) ∧ w.cell? ⟨J.xb, 3, none⟩ = some (.pointer (some ⟨J.rp, 0, none⟩)) ∧ w.cell? ⟨J.xb, 4, none⟩ = some (.int .i64 J.P.f) ∧ w.cell? ⟨J.xb, 5, none⟩ = some (.int .i64 J.P.t) ∧ w.cell? ⟨J.xb, 6, none⟩ = some (.int .i64 J.P.k) ∧ w.cell? ⟨J.xb, 7, none⟩ = some (.int .i64 J.P.d) ∧ w.cell? ⟨J.xb, 8, none⟩ = some (.int .i64 J.P.e) ∧ w.cell? ⟨J.xb, 9, none⟩ = some (.slice (some ⟨J.lq, 0, none⟩) J.P.R J.lc) ∧ w.cell? ⟨J.xb, 10, none⟩ = some (.slice (some ⟨J.aq, 0, none⟩) J.P.R J.ac) ∧ w.cell? ⟨J.xb, 11, none⟩ = some (.slice (some ⟨J.wq, 0, none⟩) J.P.R J.P.R) ∧ w.cell? ⟨J.xb, 12, none⟩ = some (.slice (some ⟨J.tq, 0, none⟩) J.P.R J.P.R) := by
  refine ⟨?_, ?_, ?_, ?_, ?_, ?_, ?_, ?_, ?_, ?_, ?_, ?_, ?_⟩ <;> (rw [cell_of_heap h.head]; rfl)
end

/-- Numbers that can be read, elsewhere. -/
structure IRk (w : World) (T : List Nat) (ao : Option Addr) (len : Nat) (l : List Int) : Prop where
  rd : IRd w ao len l
  ne : ∀ a, ao = some a → a.block ∉ T
theorem IRk.turned {w w' : World} {T : List Nat} {ao : Option Addr} {len : Nat} {l : List Int} (h : IRk w T ao len l) (t : Turned T w w') : IRk w' T ao len l :=
  ⟨⟨h.rd.size, h.rd.room, fun i x hx => (by
    obtain ⟨b, off, e1, e2⟩ := h.rd.cell i x hx
    exact ⟨b, off, e1, by rw [t.cell (block_lt e2) (show b ∉ T from h.ne ⟨b, off, none⟩ e1)]; exact e2⟩), h.rd.inn⟩, h.ne⟩
theorem IRk.turned0 {w w' : World} {T : List Nat} {ao : Option Addr} {len : Nat} {l : List Int} (h : IRk w T ao len l) (t : Turned [] w w') : IRk w' T ao len l := ⟨h.rd.turned t, h.ne⟩
/-- Which marks made lays. -/
def MadeS (ths : List Th) (ls : List Int) (N : Nat) (S : Nat → Nat) : Prop := ∃ (top : Int) (bs : List Blk) (R : List Int), Hd N (heapOf ths N).1 top bs ∧ (heapOf ths N).2 = bs.map Blk.t ∧ (∀ x, x ∈ R ↔ Rch (objOf (bs ++ tail4 N top)) (refWords (heapOf ths N).1 four) (ls.map (rootOf (heapOf ths N).2)) x) ∧ S = mkL N (liveBs bs R) (liveBs bs R).length
theorem MadeS.uniq {ths : List Th} {ls : List Int} {N : Nat} {S S' : Nat → Nat} (h : MadeS ths ls N S) (h' : MadeS ths ls N S') : S = S' := by
  obtain ⟨top, bs, R, h1, h2, h3, rfl⟩ := h
  obtain ⟨top', bs', R', k1, k2, k3, rfl⟩ := h'
  have e1 := h1.walk
  rw [k1.walk] at e1
  have e2 : bs.map Blk.t = bs'.map Blk.t := h2.symm.trans k2
  have e3 : bs.length = bs'.length := by have := congrArg List.length e2; simpa using this
  injection e1 with e1
  obtain ⟨e4, e5⟩ := List.append_inj e1 e3.symm
  subst e4
  rw [e5] at k3
  have e6 : liveBs bs' R = liveBs bs' R' := by
    unfold liveBs
    refine List.filter_congr (fun b hb => ?_)
    have : b.t ∈ R ↔ b.t ∈ R' := (h3 _).trans (k3 _).symm
    simp [this]
  rw [e6]
theorem R_pos {P : PN} (h : P.f < P.t) : 0 < P.R := by unfold PN.R; rw [if_pos h]; exact Nat.succ_pos _
/-- made, all told. -/
theorem la_made (ao : Option Addr) (cap : Nat) (ths : List Th) (bo : Option Addr) (bcap : Nat) (ls : List Int) (k v N : Nat) (w : World) (h : ThR w ao ths) (hl : IRd w bo ls.length ls) (hN : 2 ≤ N ∧ N ≤ 1000) (hths : ths.length ≤ 100) (hls : ls.length ≤ 100) (hk : 1 ≤ k) (hk2 : k ≤ 65536) (hv : v ≤ 1000000) (hT : Tab w) :
    Calls Tryz.prog 8 #[.slice ao ths.length cap, .slice bo ls.length bcap, .int .i64 (k : Int), .int .i64 (v : Int), .int .i64 (N : Int)] w fun e w' => ∃ (J : LJ) (ro : Option Addr) (rc : Nat) (rs : List Int), e = .returned (.tuple #[.pointer (some ⟨J.xb, 0, none⟩), .slice ro ls.length rc]) ∧ Wx J w' ∧ Mem w' J.cp J.cq J.L 0 ∧ J.N = N ∧ J.L = (heapOf ths N).1 ∧ MadeS ths ls N J.S ∧ Makes J.S 1 N k v J.P ∧ Bl N J.S ∧ NoCut J.S N ∧ rs.length = ls.length ∧ IRk w' [J.cp, J.cq] ro ls.length rs ∧ (∀ r, r ∈ rs → okA J.S N r = true) ∧ (w.heap.size ≤ J.cp ∧ w.heap.size ≤ J.cq ∧ w.heap.size ≤ J.xb) ∧ Turned [] w w' := by
  refine (lmade14 ao cap ths bo bcap ls k v N w h hl hN hths hls hk hk2 hv hT).mono ?_
  rintro e w' ⟨xb, cp, cq, bp, bq, rp, rq, dq, P, l, a, wq, tq, R, bs, top, rv, rfl, hW, hM, hHd, hat, hR, ⟨B, hB0, hB1, hB2, hrow⟩, ht⟩
  have hobj := roots_obj14 hat ls
  have hG := good14 hHd hR hobj (heapOf_in ths N (by omega) (by omega) (by omega)) ⟨by omega, by omega⟩ ⟨hk, hk2⟩ hM
  have hrw := live_rowed hHd R
  have hmk := mkL_marked hrw _ (Nat.le_refl _)
  have hbl := mkL_bl N (liveBs bs R) (liveBs bs R).length
  have hMS : MadeS ths ls N (mkL N (liveBs bs R) (liveBs bs R).length) := ⟨top, bs, R, hHd, hat, hR, rfl⟩
  generalize mkL N (liveBs bs R) (liveBs bs R).length = S at *
  have hok := hG.ok
  have hRp : 0 < P.R := R_pos (by rw [hM.f_, hM.t_]; omega)
  obtain ⟨ro, rc, rfl⟩ := own_opens14 hrow
  obtain ⟨lq, lc, rfl, hl2⟩ := ri_own14 hW.dpl.lv.choose_spec hRp
  obtain ⟨aq, ac, rfl, ha2⟩ := ri_own14 hW.dpl.ah.choose_spec hRp
  have hcut := noCutN hbl
  have hird : IRk w' [cp, cq] ro ls.length (ls.map (rootOf (heapOf ths N).2)) := by
    have hin := roots_in14 hHd (by omega) hobj
    refine ⟨⟨by simp, by omega, fun i x hx => ?_, fun x hx => hin x hx⟩, fun a ha => ?_⟩
    · have hi := (List.getElem?_eq_some_iff.1 hx).1
      rw [List.length_map] at hi
      obtain ⟨g, cap2, hv2, -, -, -, hcell, -⟩ := ownsRow_open hrow (by omega)
      cases hv2
      exact ⟨g, 0, rfl, by rw [Nat.zero_add]; exact hcell i _ (by rw [List.getElem?_map, hx]; rfl)⟩
    · subst ha
      rcases hrow.2 with ⟨hv, h0⟩ | ⟨g, cap, cur, hv, hg, h1⟩
      · cases hv
      · cases hv
        simp
        omega
  refine ⟨⟨xb, cp, cq, bp, bq, rp, rq, dq, lq, lc, aq, ac, wq, tq, N, (heapOf ths N).1, S, P⟩, ro, rc, _, rfl, ⟨hW.th.head, hW.th.doc, hW.th.dne, hW.bts, hW.rb, hl2, ha2, hW.dpl.wt, hW.dpl.tk, hG, hM.f_ ▸ hM.fle hok, by rw [hM.t_]; exact hM.dle hbl hcut, ⟨hM.f_, hM.t_⟩, hN.2⟩, hW.th.mem, rfl, rfl, hMS, hM, hbl, hcut, by simp, hird, fun r hr => ?_, ⟨hW.th.lo.2.1, hW.th.lo.2.2, hW.th.lo.1⟩, ht⟩
  unfold okA
  rw [decide_eq_true_eq]
  by_cases h0 : r = 0
  · exact .inl h0
  · right
    rcases hobj r hr with h1 | ⟨c, hc, rfl⟩
    · exact absurd h1 h0
    · have hcR : c.t ∈ R := (hR _).2 (.root hr h0)
      obtain ⟨j, hj⟩ := List.getElem?_of_mem (show c ∈ liveBs bs R from List.mem_filter.2 ⟨hc, by simpa using hcR⟩)
      have hj2 := (List.getElem?_eq_some_iff.1 hj).1
      have e := hrw.each j c hj
      have hon := hmk.on j c hj2 hj
      exact ⟨by omega, by omega, by show 0 < S c.t.toNat; rw [hon]; omega⟩

/-- An adjuster through a law: from the world wm on. -/
structure Lx (J : LJ) (I : AdI) (n : Nat) (wm w : World) (s : AdS) : Prop where
  wx : Wx J wm
  mm : Mem wm J.cp J.cq J.L 0
  ad : Ad w I J.P J.S four s
  inv : InvA J.P J.S four J.N J.L s
  num : NumA J.P J.S four J.N J.L s
  ic : I.cp = J.cp ∧ I.cq = J.cq ∧ I.N = J.N ∧ I.bp = J.bp ∧ I.bq = J.bq
  ws : s.ws.length = n
  n0 : 0 < n ∧ n ≤ 64
  own : ∀ i, i ∈ OwnA I → i = J.cp ∨ i = J.cq ∨ wm.heap.size ≤ i
  t : Turned [J.cp, J.cq] wm w
  pos : 0 < J.cp ∧ 0 < J.cq
section
variable {J : LJ} {I : AdI} {n : Nat} {wm w w' : World} {s : AdS}
theorem Lx.wxw (h : Lx J I n wm w s) : Wx J w := h.wx.turned h.mm h.t h.pos
theorem Lx.quiet (h : Lx J I n wm w s) (t : Turned [] w w') : Lx J I n wm w' s :=
  ⟨h.wx, h.mm, h.ad.quiet t, h.inv, h.num, h.ic, h.ws, h.n0, h.own, h.t.trans_new t (by simp), h.pos⟩
theorem Lx.new (h : Lx J I n wm w s) : Turned (OwnA I) w w' → Turned [J.cp, J.cq] wm w' := fun t =>
  h.t.trans_new t (fun i hi => by
    rcases h.own i hi with h1 | h1 | h1
    · left; simp [h1]
    · left; simp [h1]
    · exact .inr h1)
/-- Step. -/
theorem la_step (h : Lx J I n wm w s) (k : Nat) (hk : k < n) :
    Calls Tryz.prog 14 #[.pointer (some ⟨I.ab, 0, none⟩), .int .i64 (k : Int)] w fun e w' => (∃ r, e = .returned (.int .i64 r)) ∧ Lx J I n wm w' (stepA14 J.P J.S four J.N s k) ∧ (stepA14 J.P J.S four J.N s k).ac + (stepA14 J.P J.S four J.N s k).cc ≤ s.ac + s.cc + 1 ∧ Turned (OwnA I) w w' := by
  obtain ⟨x, hx⟩ : ∃ x, s.ws[k]? = some x := ⟨_, List.getElem?_eq_getElem (by rw [h.ws]; exact hk)⟩
  have hG := h.wx.gd
  obtain ⟨h1, h2, h3⟩ := h.inv.next hG k
  obtain ⟨h4, h5, h6⟩ := h.num.next hG h.inv k
  have hl : (stepA14 J.P J.S four J.N s k).ws.length = n := by rw [step_len]; exact h.ws
  have hnum := h.num
  have e := hnum.a0
  have e2 := hnum.c0
  have e3 := hnum.le
  by_cases ho : x.on = true
  · have hm : MayA J.S J.N s x := h.inv.may hG hx (by omega) ⟨e2, by omega⟩
    have hst : stepA14 J.P J.S four J.N s k = workA J.P J.S four J.N s k x := by unfold stepA14; rw [hx]; simp only; rw [if_pos ho]
    refine (astep_on w I J.P J.S four s k x h.ad hx ho (by rw [h.ic.2.2.1]; exact hm)).mono ?_
    rintro e w' ⟨rfl, hA, ht⟩
    rw [h.ic.2.2.1, ← hst] at hA
    exact ⟨⟨_, rfl⟩, ⟨h.wx, h.mm, hA, h1, h4, h.ic, hl, h.n0, h.own, h.new ht, h.pos⟩, h5, ht⟩
  · have hst : stepA14 J.P J.S four J.N s k = s := by unfold stepA14; rw [hx]; simp only; rw [if_neg ho]
    refine (astep_off w I J.P J.S four s k x h.ad hx (by simpa using ho)).mono ?_
    rintro e w' ⟨rfl, rfl⟩
    rw [hst]
    exact ⟨⟨_, rfl⟩, h, by omega, Turned.refl _ _⟩
theorem doneA_on : doneA s = true ↔ ∀ k, ¬ onA s k := by
  unfold doneA onA
  rw [List.all_eq_true]
  constructor
  · rintro h k ⟨x, hx, ho⟩
    have := h x (List.mem_of_getElem? hx)
    rw [ho] at this
    cases this
  · intro h x hx
    obtain ⟨k, hk⟩ := List.getElem?_of_mem hx
    cases ho : x.on with
    | false => rfl
    | true => exact absurd ⟨x, hk, ho⟩ (h k)
theorem la_done (h : Lx J I n wm w s) :
    Calls Tryz.prog 15 #[.pointer (some ⟨I.ab, 0, none⟩)] w fun e w' => e = .returned (.bool (doneA s)) ∧ w' = w := adone_any w I J.P J.S four s h.ad
theorem la_fault (h : Lx J I n wm w s) :
    Calls Tryz.prog 18 #[.pointer (some ⟨I.ab, 0, none⟩)] w fun e w' => e = .returned (.int .i64 0) ∧ w' = w := (afault_any w I J.P J.S four s h.ad).mono (fun e w' ⟨h1, h2⟩ => ⟨by rw [h1, h.inv.ft], h2⟩)
theorem la_steps (h : Lx J I n wm w s) :
    Calls Tryz.prog 13 #[.pointer (some ⟨J.cp, 0, none⟩)] w fun e w' => e = .returned (.int .i64 s.ac) ∧ w' = w := by
  have := h.ad.mem
  rw [h.ic.1, h.ic.2.1] at this
  exact steps_mem J.cp J.cq s.hw s.ac w this
theorem la_ksteps (h : Lx J I n wm w s) :
    Calls Tryz.prog 13 #[.pointer (some ⟨I.kp, 0, none⟩)] w fun e w' => e = .returned (.int .i64 s.cc) ∧ w' = w := steps_mem I.kp I.kq s.cl s.cc w h.ad.sh.mem
/-- What a word is in the end. -/
noncomputable def finA (J : LJ) (i : Nat) : Int := by
  classical exact if IsPl J.S four J.N J.L i then toA J.P J.S J.N (J.L.getD i 0) else J.L.getD i 0
theorem Lx.fin (h : Lx J I n wm w s) (hd : ∀ k, ¬ onA s k) : s.hw = (List.range J.N).map (finA J) := by
  have hz := h.inv.over h.wx.gd (fun k x hx => by
    cases ho : x.on with
    | false => rfl
    | true => exact absurd ⟨x, hx, ho⟩ (hd k)) (by rw [h.ws]; exact h.n0.1)
  refine List.ext_getElem? (fun i => ?_)
  by_cases hi : i < J.N
  · have h1 : s.hw[i]? = some (s.hw.getD i 0) := by
      rw [List.getD_eq_getElem?_getD, List.getElem?_eq_getElem (by rw [h.inv.len]; exact hi)]; rfl
    rw [h1, List.getElem?_map, List.getElem?_range hi]
    show some _ = some (finA J i)
    congr 1
    unfold finA
    split
    · rename_i hp; exact h.inv.dn i hi (hz i) hp
    · rename_i hp; exact h.inv.nd i hi (fun _ => hp)
  · rw [List.getElem?_eq_none (by rw [h.inv.len]; omega), List.getElem?_eq_none (by simp; omega)]
/-- Words of the heap. -/
theorem la_words (h : Lx J I n wm w s) (hd : ∀ k, ¬ onA s k) (hN : 0 < J.N) :
    Calls Tryz.prog 17 #[.pointer (some ⟨J.cp, 0, none⟩), .int .i64 0, .int .i64 (J.N : Int)] w fun e w' => ∃ g cap, e = .returned (.slice (some ⟨g, 0, none⟩) J.N cap) ∧ J.N ≤ cap ∧ (∀ i, i < J.N → w'.cell? ⟨g, i, none⟩ = some (.int .i64 (finA J i))) ∧ w.heap.size ≤ g ∧ Turned [] w w' := by
  have hmm := h.ad.mem
  rw [h.ic.1, h.ic.2.1, h.fin hd] at hmm
  have hp := h.wx.n6
  have hl : ((List.range J.N).map (finA J)).length = J.N := by simp
  refine (words_mem J.cp J.cq _ s.ac 0 (J.N : Int) w (by omega) hmm).mono ?_
  rw [hl, show (min (max (J.N : Int) 0) (J.N : Int)).toNat = J.N by omega, show (min (max (0 : Int) 0) (J.N : Int)).toNat = 0 by omega, List.take_of_length_le (Nat.le_of_eq hl), List.drop_zero, hl]
  rintro e w' ⟨v', rfl, ho, t⟩
  obtain ⟨g, cap, rfl, hg, -, hc, hcell, -⟩ := ownsRow_open ho hN
  exact ⟨g, cap, rfl, hc, fun i hi => hcell i _ (by rw [List.getElem?_map, List.getElem?_map, List.getElem?_range hi]; rfl), hg, t⟩
/-- Roots. -/
theorem la_roots (h : Lx J I n wm w s) (ro : Option Addr) (rn rc : Nat) (rs : List Int) (hr : IRd w ro rn rs) (hn : rn ≤ 65536) :
    Calls Tryz.prog 19 #[.pointer (some ⟨J.bp, 0, none⟩), .agg J.plan, .slice ro rn rc] w fun e w' => ∃ q, e = .returned (.slice (some ⟨q, 0, none⟩) rn rn) ∧ Ri w' 2 q rn (fun i => toA J.P J.S J.N (rs.getD i 0)) ∧ w.heap.size ≤ q ∧ Turned [] w w' := by
  have hx := h.wxw
  exact aroots_any (some ⟨J.bp, 0, none⟩) J.N J.P hx.gd.ok J.S _ _ _ J.aq J.ac ro rn rc rs w hx.bts.brd hx.gd.bl hx.ah hx.gd.tN hx.fd hx.dt hx.gd.ins hr hn
/-- New. -/
theorem la_new (hx : Wx J wm) (hm : Mem wm J.cp J.cq J.L 0) (hp : 0 < J.cp ∧ 0 < J.cq) (t : Turned [] wm w) (kp kq cb ck cn : Nat) (n : Nat) (cl : List Int) (hcl : 0 < cl.length ∧ cl.length ≤ 65536) (hk : Mem w kp kq cl 0) (hc : CRow w (some ⟨cb, 0, none⟩) 4 four) (hkp : wm.heap.size ≤ kp) (hkq : wm.heap.size ≤ kq) (hn : 1 ≤ n ∧ n ≤ 64) :
    Calls Tryz.prog 11 #[.pointer (some ⟨J.cp, 0, none⟩), .slice (some ⟨cb, 0, none⟩) 4 ck, .pointer (some ⟨J.bp, 0, none⟩), .agg J.plan, .pointer (some ⟨kp, 0, none⟩), .int .i64 (n : Int)] w fun e w' => ∃ (I : AdI) (s : AdS), e = .returned (.tuple #[.pointer (some ⟨I.ab, 0, none⟩), .int .i64 0]) ∧ Lx J I n wm w' s ∧ I.kp = kp ∧ s.ac = 0 ∧ s.cc = 0 ∧ meaA J.P J.S four J.N J.L s ≤ n + 3 * J.N ∧ Turned [kp, kq] w w' := by
  have hG := hx.gd
  have hxw := hx.quiet t
  have hmw := hm.turned t (by simp) (by simp)
  have l1 := hm.ltp
  have l2 := hm.ltq
  have hsz := t.size
  have hR6 : J.P.R ≤ 65536 := PN.R_few hG.ok
  refine (anew_ok w J.P J.S four J.cp J.cq kp kq J.bp J.bq J.N n J.L 0 cl 0 cb 0 4 ck J.lq J.lc J.aq J.ac J.wq J.P.R J.tq J.P.R _ _ _ hmw hk hG.len (by omega) hcl hxw.bts hG.bl hG.ok hx.fd hx.dt hG.tN hG.ok.k1 hR6 hG.ins hn (by omega) hc (by omega) hxw.lv hxw.ah hxw.wt hxw.tk).mono ?_
  rintro e w' ⟨I, he, hA, e1, e2, e3, e4, e5, e6, e7, e8, hi, ht⟩
  obtain ⟨m1, m2⟩ := mea0A hG cl hcl.1 0 0 n
  have hn6 := hx.n6
  refine ⟨I, _, he, ⟨hx, hm, hA, inv0A hG cl hcl.1 0 0 n, ⟨Int.le_refl _, Int.le_refl _, ?_⟩, ⟨e1, e2, e7, e5, e6⟩, List.length_replicate, by omega, fun i hi2 => ?_, ?_, hp⟩, e3, rfl, rfl, m1, ht⟩
  · show (0 : Int) + 0 + _ + _ ≤ _
    rw [m2]
    omega
  · unfold OwnA at hi2
    simp only [List.mem_cons] at hi2
    rcases hi2 with rfl | rfl | rfl | rfl | rfl | rfl | hi2
    · have := hi I.ab (by simp); omega
    · have := hi I.mb (by simp); omega
    · exact .inl e1
    · exact .inr (.inl e2)
    · omega
    · omega
    · have := hi i (by simp [hi2]); omega
  · exact ((Turned.refl [J.cp, J.cq] wm).trans_new t (by simp)).trans_new ht (fun i hi2 => by
      simp only [List.mem_cons, List.not_mem_nil, or_false] at hi2
      rcases hi2 with rfl | rfl <;> exact .inr (by omega))
end
end Go.Proofs.YtpeglndlhjnaaaaGreatDoor

/-
  Two gangs' words in an array. No Go is walked here.
-/
namespace Go.Proofs.YtpeglndlhjnaaaaGreatDoor
open Go.RowKit Bt
set_option linter.unusedVariables false
set_option linter.unusedSimpArgs false

/-- Made of the same. -/
structure Same14 (T : List Th) (RS : List Int) (k v : Nat) (J : LJ) : Prop where
  n : J.N = 300
  l : J.L = (heapOf T 300).1
  s : MadeS T RS 300 J.S
  m : Makes J.S 1 300 k v J.P
  b : Bl 300 J.S
  c : NoCut J.S 300
theorem Same14.fin {T : List Th} {RS : List Int} {k v : Nat} {J J' : LJ} (h : Same14 T RS k v J) (h' : Same14 T RS k v J') (hk : 1 ≤ k ∧ k ≤ 65536) (i : Nat) : finA J i = finA J' i := by
  have e1 := h.s.uniq h'.s
  have e2 : J.P = J'.P := makes_uniq14 h.b h.m (by rw [e1]; exact h'.m) (by omega) (by omega) hk.1 hk.2 h.c
  unfold finA
  rw [h.n, h'.n, h.l, h'.l, e1, e2]
def Got14 (T : List Th) (RS : List Int) (k v : Nat) (w : World) (V : Value) : Prop := ∃ (J : LJ) (g c : Nat), V = .slice (some ⟨g, 0, none⟩) 300 c ∧ Same14 T RS k v J ∧ ∀ i, i < 300 → w.cell? ⟨g, i, none⟩ = some (.int .i64 (finA J i))
structure WA14 (T : List Th) (RS : List Int) (k v : Nat) (w' : World) (ab kq : Nat) (V : Nat → Value) : Prop where
  hw : ∃ ca, w'.heap[ab]? = some (.cells ca 59) ∧ ca.size = 2 ∧ ∀ i, i < 2 → ca[i]? = some (V i)
  got : ∀ i, i < kq → Got14 T RS k v w' (V i)
theorem WA14.turned {T : List Th} {RS : List Int} {k v : Nat} {w w' : World} {ab kq : Nat} {V : Nat → Value} (h : WA14 T RS k v w ab kq V) (t : Turned [] w w') : WA14 T RS k v w' ab kq V := by
  obtain ⟨ca, h1, h2, h3⟩ := h.hw
  refine ⟨⟨ca, by rw [t.block ab (lt_of_heap h1) (by simp)]; exact h1, h2, h3⟩, fun i hi => ?_⟩
  obtain ⟨J, g, c, e1, e2, e3⟩ := h.got i hi
  exact ⟨J, g, c, e1, e2, fun j hj => by rw [t.cell (block_lt (e3 j hj)) (by simp)]; exact e3 j hj⟩
theorem WA14.next {T : List Th} {RS : List Int} {k v : Nat} {w : World} {ab kq : Nat} {V : Nat → Value} (h : WA14 T RS k v w ab kq V) (hk : kq < 2) {J : LJ} {g c : Nat} (hJ : Same14 T RS k v J) (hg : ∀ i, i < 300 → w.cell? ⟨g, i, none⟩ = some (.int .i64 (finA J i))) (hgt : g ≠ ab) (hold : ∀ i, i < kq → ∀ g' c', V i = .slice (some ⟨g', 0, none⟩) 300 c' → g' ≠ ab) :
    WA14 T RS k v (w.setCell ⟨ab, kq, none⟩ (.slice (some ⟨g, 0, none⟩) 300 c)) ab (kq + 1) (fun i => if i = kq then .slice (some ⟨g, 0, none⟩) 300 c else V i) := by
  obtain ⟨ca, h1, h2, h3⟩ := h.hw
  have t : Turned [ab] w (w.setCell ⟨ab, kq, none⟩ (.slice (some ⟨g, 0, none⟩) 300 c)) := (Turned.refl [ab] w).setCell (p := ⟨ab, kq, none⟩) (.inl (by simp)) _
  refine ⟨⟨ca.set! kq (.slice (some ⟨g, 0, none⟩) 300 c), by rw [heap_setCell_at _ _ _ _ _ _ h1]; simp [Array.set!], by simp [h2], fun i hi => ?_⟩, fun i hi => ?_⟩
  · by_cases e : i = kq
    · subst e
      rw [if_pos rfl]
      simp [Array.getElem?_setIfInBounds, h2, hi]
    · rw [if_neg e]
      have := h3 i hi
      rw [Array.set!_eq_setIfInBounds, Array.getElem?_setIfInBounds, if_neg (Ne.symm e)]
      exact this
  · by_cases e : i = kq
    · rw [if_pos e]
      exact ⟨J, g, c, rfl, hJ, fun j hj => by rw [t.cell (block_lt (hg j hj)) (by simpa using hgt)]; exact hg j hj⟩
    · rw [if_neg e]
      obtain ⟨J', g', c', e1, e2, e3⟩ := h.got i (by omega)
      have hne := hold i (by omega) g' c' e1
      exact ⟨J', g', c', e1, e2, fun j hj => by rw [t.cell (block_lt (e3 j hj)) (by simpa using hne)]; exact e3 j hj⟩
/-- The words lie elsewhere. -/
theorem Got14.ne {w : World} {ab : Nat} {ca : Array Value} (hab : w.heap[ab]? = some (.cells ca 59)) (hca : ∀ i, i < 2 → ∃ a n c, ca[i]? = some (.slice a n c)) {J : LJ} {g : Nat} (h : w.cell? ⟨g, 0, none⟩ = some (.int .i64 (finA J 0))) : g ≠ ab := by
  rintro rfl
  obtain ⟨a, n, c, h1⟩ := hca 0 (by omega)
  rw [cell_of_heap hab, h1] at h
  cases h
end Go.Proofs.YtpeglndlhjnaaaaGreatDoor

/-
  The document's turning (ballastref14): Forward, Turn, All.
-/
namespace Go.Proofs.YtpeglndlhjnaaaaGreatDoor
open Go.RowKit Bt
set_option linter.unusedVariables false
set_option linter.unusedSimpArgs false

/-- Each marked block has a header, and its references have cells. -/
def HdA (S : Nat → Nat) (L : List Int) (N : Nat) : Prop := ∀ a, 0 < S a → isHead (L.getD a 0) = true ∧ ∃ r : Nat, refsOf four (partC (L.getD a 0)) (partL (L.getD a 0)) = (r : Int) ∧ a + r < N
theorem MadeS.head {ths : List Th} {ls : List Int} {N : Nat} {S : Nat → Nat} (h : MadeS ths ls N S) : HdA S (heapOf ths N).1 N := by
  obtain ⟨top, bs, R, hHd, -, -, rfl⟩ := h
  intro a ha
  have hrow := live_rowed hHd R
  have hm := mkL_marked hrow _ (Nat.le_refl _)
  obtain ⟨k, b, k1, k2, k3, k4⟩ := hm.off a ha
  have hmem := List.mem_of_getElem? k2
  have hbs := (List.mem_filter.1 hmem).1
  have hrd := readOf_some (hHd.chain.read b hbs).1
  obtain ⟨r1, r2, r3, r4, r5, r6, r7, x, r8, r9, r10, r11⟩ := hrd
  have hw := refs_within r6
  rw [← r7] at hw
  have hlen := hHd.chain.len
  have hx : (heapOf ths N).1.getD a 0 = x := by
    unfold wordAt at r8
    rw [k3, if_pos (by omega), Int.toNat_natCast] at r8
    rw [List.getD_eq_getElem?_getD, r8]; rfl
  rw [hx]
  refine ⟨r9, ?_⟩
  rw [← r10, ← r11]
  obtain ⟨r, hr⟩ := Int.eq_ofNat_of_zero_le (refsOf_range four b.k b.n).1
  refine ⟨r, hr, ?_⟩
  omega
section
variable {P : PN} {S : Nat → Nat} {N : Nat} {L : List Int}
theorem qp_eq (hH : HdA S L N) {a r : Nat} (ha : 0 < S a) (hr : refsOf four (partC (L.getD a 0)) (partL (L.getD a 0)) = (r : Int)) (i : Nat) : i ∈ Qp S four N L a ↔ a < i ∧ i ≤ a + r := by
  obtain ⟨h1, r', h2, h3⟩ := hH a ha
  rw [hr] at h2
  have e : r' = r := by omega
  subst e
  have e1 : hdC (L.getD a 0) = partC (L.getD a 0) := by unfold hdC; rw [if_pos h1]
  have e2 : hdL (L.getD a 0) = partL (L.getD a 0) := by unfold hdL; rw [if_pos h1]
  unfold Qp
  rw [if_pos ha, plA_eq (r := r') (by rw [e1, e2]; exact hr) h3, List.mem_map]
  constructor
  · rintro ⟨i, hi, rfl⟩
    have := List.mem_range.1 hi
    omega
  · rintro ⟨h1, h2⟩
    exact ⟨i - a - 1, List.mem_range.2 (by omega), by omega⟩
theorem GoodA.uniq {cs : List Cls} (hG : GoodA P S cs N L) {a b p : Nat} (h1 : p ∈ Qp S cs N L a) (h2 : p ∈ Qp S cs N L b) : a = b := by
  rcases Nat.lt_trichotomy a b with h | h | h
  · exfalso
    have ia := hG.ins a (qp_pos h1)
    have ib := hG.ins b (qp_pos h2)
    have c1 : 0 < (Qp S cs N L a).count p := List.count_pos_iff.2 h1
    have c2 : 0 < (Qp S cs N L b).count p := List.count_pos_iff.2 h2
    have h3 := hG.one p
    rw [sumR_split _ (show P.f ≤ b by omega) (show b ≤ P.t by omega)] at h3
    have h4 := sumR_pos (fun a => (Qp S cs N L a).count p) ia.1 h
    have h5 := sumR_pos (fun a => (Qp S cs N L a).count p) (Nat.le_refl b) ib.2
    omega
  · exact h
  · exfalso
    have ia := hG.ins a (qp_pos h1)
    have ib := hG.ins b (qp_pos h2)
    have c1 : 0 < (Qp S cs N L a).count p := List.count_pos_iff.2 h1
    have c2 : 0 < (Qp S cs N L b).count p := List.count_pos_iff.2 h2
    have h3 := hG.one p
    rw [sumR_split _ (show P.f ≤ a by omega) (show a ≤ P.t by omega)] at h3
    have h4 := sumR_pos (fun a => (Qp S cs N L a).count p) ib.1 h
    have h5 := sumR_pos (fun a => (Qp S cs N L a).count p) (Nat.le_refl a) ia.2
    omega
/-- The words once the blocks ahead of a are done. -/
noncomputable def outF (P : PN) (S : Nat → Nat) (N : Nat) (L : List Int) (a i : Nat) : Int := by
  classical exact if ∃ b, b < a ∧ i ∈ Qp S four N L b then toA P S N (L.getD i 0) else L.getD i 0
noncomputable def outG (P : PN) (S : Nat → Nat) (N : Nat) (L : List Int) (a j i : Nat) : Int := if a < i ∧ i ≤ a + j then toA P S N (L.getD i 0) else outF P S N L a i
theorem outG_zero (a i : Nat) : outG P S N L a 0 i = outF P S N L a i := by unfold outG; rw [if_neg (by omega)]
theorem outG_next (a j i : Nat) : outG P S N L a (j + 1) i = if i = a + (j + 1) then toA P S N (L.getD i 0) else outG P S N L a j i := by
  unfold outG
  by_cases e : i = a + (j + 1)
  · rw [if_pos (by omega), if_pos e]
  · rw [if_neg e]
    by_cases h : a < i ∧ i ≤ a + j
    · rw [if_pos h, if_pos (by omega)]
    · rw [if_neg h, if_neg (by omega)]
theorem outF_next (hH : HdA S L N) {a r : Nat} (ha : 0 < S a) (hr : refsOf four (partC (L.getD a 0)) (partL (L.getD a 0)) = (r : Int)) (i : Nat) : outG P S N L a r i = outF P S N L (a + 1) i := by
  unfold outG outF
  by_cases h : a < i ∧ i ≤ a + r
  · rw [if_pos h, if_pos ⟨a, by omega, (qp_eq hH ha hr i).2 h⟩]
  · rw [if_neg h]
    by_cases h2 : ∃ b, b < a ∧ i ∈ Qp S four N L b
    · obtain ⟨b, h3, h4⟩ := h2
      rw [if_pos ⟨b, h3, h4⟩, if_pos ⟨b, by omega, h4⟩]
    · rw [if_neg h2, if_neg (fun ⟨b, h3, h4⟩ => by
        by_cases e : b = a
        · subst e; exact h ((qp_eq hH ha hr i).1 h4)
        · exact h2 ⟨b, by omega, h4⟩)]
theorem outF_skip {a : Nat} (ha : S a = 0) (i : Nat) : outF P S N L a i = outF P S N L (a + 1) i := by
  unfold outF
  by_cases h2 : ∃ b, b < a ∧ i ∈ Qp S four N L b
  · obtain ⟨b, h3, h4⟩ := h2
    rw [if_pos ⟨b, h3, h4⟩, if_pos ⟨b, by omega, h4⟩]
  · rw [if_neg h2, if_neg (fun ⟨b, h3, h4⟩ => by
      by_cases e : b = a
      · subst e; have := qp_pos h4; omega
      · exact h2 ⟨b, by omega, h4⟩)]
/-- Ahead of its turn a reference is as it was. -/
theorem outG_at (hG : GoodA P S four N L) (hH : HdA S L N) {a r : Nat} (ha : 0 < S a) (hr : refsOf four (partC (L.getD a 0)) (partL (L.getD a 0)) = (r : Int)) {j : Nat} (hj : j < r) : outG P S N L a j (a + (j + 1)) = L.getD (a + (j + 1)) 0 := by
  unfold outG outF
  rw [if_neg (by omega), if_neg (fun ⟨b, h3, h4⟩ => by
    have := hG.uniq h4 ((qp_eq hH ha hr (a + (j + 1))).2 (by omega))
    omega)]
theorem outF_first (hG : GoodA P S four N L) (i : Nat) : outF P S N L P.f i = L.getD i 0 := by
  unfold outF
  rw [if_neg (fun ⟨b, h3, h4⟩ => by have := hG.ins b (qp_pos h4); omega)]
theorem outF_last {J : LJ} (hG : GoodA J.P J.S four J.N J.L) (i : Nat) : outF J.P J.S J.N J.L J.P.t i = finA J i := by
  unfold outF finA IsPl
  by_cases h : ∃ b, i ∈ Qp J.S four J.N J.L b
  · obtain ⟨b, hb⟩ := h
    rw [if_pos ⟨b, (hG.ins b (qp_pos hb)).2, hb⟩, if_pos ⟨b, hb⟩]
  · rw [if_neg (fun ⟨b, _, h4⟩ => h ⟨b, h4⟩), if_neg h]
end
theorem live_at {S : Nat → Nat} {a : Nat} (h : 0 < S a) : live S a = true := by
  unfold live
  rw [bo_true]
  exact ⟨a, Nat.le_refl _, by omega⟩
set_option maxHeartbeats 4000000 in
set_option maxRecDepth 100000 in
theorem rforward14 (p q n : Nat) (S : Nat → Nat) (P : PN) (l a wt tk : Value) (x : Nat) (w : World) (h : RB w p q n S) (hS : 0 < S x) (hx : P.f ≤ x ∧ x < P.t) (hn : P.t ≤ n) (hd : P.d ≤ P.t) :
    Calls Tryz.prog 46 #[.agg (plC P l a wt tk), .pointer (some ⟨p, 0, none⟩), .int .i64 (x : Int)] w fun e w' => e = .returned (.int .i64 (fwA P S x : Nat)) ∧ Turned [] w w' := by
  have hn6 := h.few
  have HT := hide ((Turned.refl [] w).alloc (.cells (plC P l a wt tk) 42))
  have HB := hide (pb_new w P l a wt tk)
  have HL := hide (fun (w' : World) (t : Turned [] w w') => rlives13 p q n S w' (h.turned0 t))
  have HC := hide (fun (w' : World) (t : Turned [] w w') => rcount13 p q n S P.d x w' (h.turned0 t) (by omega) (by omega))
  have HLv := hide (live_at hS)
  have hcc : cnt (live S) x - cnt (live S) P.d ≤ 65536 := by have : cnt (live S) x ≤ x := Bt.cnt_le _ _; omega
  obtain ⟨F, hF⟩ : ∃ F : Nat, F = fwA P S x := ⟨_, rfl⟩
  have HF := hide hF
  rw [← hF]
  have hF2 : F = if x < P.d then x else P.d + (cnt (live S) x - cnt (live S) P.d) := by rw [hF]; rfl
  have HF2 := hide hF2
  clear hF hF2 h
  generalize cnt (live S) x - cnt (live S) P.d = cc at *
  obtain ⟨f, t, k, d, e⟩ := P
  unfold plC at HT HB ⊢
  simp only at *
  go_enter Tryz.func46, Tryz.ntmps46
  go_upto_region 1 with fail
  obtain ⟨z, hz⟩ : ∃ z, z = w.heap.size := ⟨_, rfl⟩
  rw [← hz] at HB ⊢
  generalize w.alloc (.cells #[Value.int .i64 f, Value.int .i64 t, Value.int .i64 k, Value.int .i64 d, Value.int .i64 e, l, a, wt, tk] 42) = w1 at *
  clear hz
  obtain ⟨c0, c1, c2, c3, c4, c5, c6, c7, c8⟩ := HB.out.cs
  have h1 : ¬ (x : Int) < (f : Int) := by omega
  have h2 : ¬ (t : Int) ≤ (x : Int) := by omega
  have hxn : (x : Int) < (n : Int) := by omega
  have hxn2 : x < n := by omega
  have HL1 := hide (HL.out w1 HT.out)
  clear HL hx hn
  go_wp2_with fail
  refine HL1.out.mono ?_
  rintro e' w2 ⟨g, rfl, hr, hg, t2⟩
  have hc := hr.cell hxn2
  rw [HLv.out] at hc
  have HT2 := hide (HT.out.trans t2)
  have d3 : w2.cell? ⟨z, 3, none⟩ = some (.int .i64 d) := by rw [t2.cell (block_lt c3) (by simp)]; exact c3
  clear c0 c1 c2 c3 c4 c5 c6 c7 c8 HB hr hg t2 HL1 HT
  by_cases hlt : x < d
  · have hF3 : F = x := by rw [HF2.out, if_pos hlt]
    have hlti : (x : Int) < (d : Int) := by omega
    subst hF3
    clear HF2
    go_wp2_with fail
    go_ret
    exact ⟨rfl, HT2.out⟩
  · have HF3 : Hid (F = d + cc) := hide (by rw [HF2.out, if_neg hlt])
    have hlti : ¬ (x : Int) < (d : Int) := by omega
    have d3' : w2.drew.cell? ⟨z, 3, none⟩ = some (.int .i64 d) := d3
    have hwr : IntKind.i64.wrap ((d : Int) + (cc : Int)) = (F : Int) := by have := HF3.out; rw [IntKind.wrap_i64]; omega
    have HC2 := hide (HC.out w2.drew HT2.out.drew)
    have hsz2 : w2.drew.heap.size = w2.heap.size := rfl
    clear HF2 HC
    go_wp2_with fail
    go_region_held3 (fun w' => w'.cell? ⟨z, 3, none⟩ = some (.int .i64 d)) (go_keep)
      (first
        | (go_at_call 78; refine HC2.out.mono ?_; rintro e' w3 ⟨rfl, t3⟩; have HT3 := hide (HT2.out.drew.trans t3); have d3'' : w3.cell? ⟨z, 3, none⟩ = some (.int .i64 d) := (by rw [t3.cell (block_lt d3') (by simp)]; exact d3'); clear t3))
    go_wp2_with fail
    go_ret
    exact ⟨rfl, HT3.out⟩
set_option maxHeartbeats 4000000 in
set_option maxRecDepth 100000 in
theorem rturn14 (p q n : Nat) (S : Nat → Nat) (P : PN) (l a wt tk : Value) (r : Int) (w : World) (h : RB w p q n S) (ho : okA S n r = true) (hi : ∀ a, 0 < S a → P.f ≤ a ∧ a < P.t) (hn : P.t ≤ n) (hd : P.d ≤ P.t) :
    Calls Tryz.prog 20 #[.pointer (some ⟨p, 0, none⟩), .agg (plC P l a wt tk), .int .i64 r] w fun e w' => e = .returned (.tuple #[.int .i64 (toA P S n r), .bool true]) ∧ Turned [] w w' := by
  have hn6 := h.few
  have HT := hide ((Turned.refl [] w).alloc (.cells (plC P l a wt tk) 42))
  have HB := hide (pb_new w P l a wt tk)
  rcases okA_cases ho with h0 | ⟨h0, hN, hS⟩
  · subst h0
    have e1 : toA P S n 0 = 0 := by unfold toA; rw [if_pos rfl]
    rw [e1]
    clear h ho hi hn hd e1
    unfold plC at *
    go_enter Tryz.func20, Tryz.ntmps20
    go_wp2_with fail
    go_ret2
    exact ⟨rfl, HT.out⟩
  · obtain ⟨x, rfl⟩ := Int.eq_ofNat_of_zero_le h0
    rw [Int.toNat_natCast] at hS
    have hxi := hi x hS
    by_cases hz : x = 0
    · subst hz
      have e1 : toA P S n ((0 : Nat) : Int) = 0 := by unfold toA; simp
      rw [e1]
      clear h ho hi hn hd e1 hS
      unfold plC at *
      rw [show ((0 : Nat) : Int) = 0 from rfl]
      go_enter Tryz.func20, Tryz.ntmps20
      go_wp2_with fail
      go_ret2
      exact ⟨rfl, HT.out⟩
    have e1 : toA P S n (x : Int) = (fwA P S x : Nat) := by unfold toA; rw [if_neg (by omega), if_pos ⟨h0, hN, by rw [Int.toNat_natCast]; exact hS⟩, Int.toNat_natCast]
    rw [e1]
    have HF := hide (fun (w' : World) (t : Turned [] w w') => rforward14 p q n S P l a wt tk x w' (h.turned0 t) hS hxi hn hd)
    generalize fwA P S x = F at *
    obtain ⟨c, hc, hci⟩ := (h.turned0 HT.out).row
    have k0 := (h.turned0 HT.out).c0
    have k1 := (cell_of_heap hc x).trans (hci x (by omega))
    obtain ⟨sz, hsz⟩ : ∃ sz, sz = S x := ⟨_, rfl⟩
    rw [← hsz] at k1
    have h1 : ¬ (x : Int) < 0 := by omega
    have h2 : ¬ (n : Int) ≤ (x : Int) := by omega
    have h3 : ¬ (sz : Int) = 0 := by omega
    have h4 : ¬ (x : Int) < (P.f : Int) := by omega
    have h5 : ¬ (P.t : Int) ≤ (x : Int) := by omega
    have h6 : ¬ (x : Int) = 0 := by omega
    clear h ho hi hd e1 hS hc hci hxi hsz hz hn
    obtain ⟨f, t, k, d, e⟩ := P
    unfold plC at *
    simp only at *
    go_enter Tryz.func20, Tryz.ntmps20
    go_upto_region 1 with fail
    obtain ⟨z, hz⟩ : ∃ z, z = w.heap.size := ⟨_, rfl⟩
    rw [← hz] at HB ⊢
    generalize w.alloc (.cells #[Value.int .i64 f, Value.int .i64 t, Value.int .i64 k, Value.int .i64 d, Value.int .i64 e, l, a, wt, tk] 42) = w1 at *
    clear hz
    obtain ⟨c0, c1, c2, c3, c4, c5, c6, c7, c8⟩ := HB.out.cs
    have HF1 := hide (HF.out w1 HT.out)
    clear HF
    go_wp2_with fail
    refine HF1.out.mono ?_
    rintro e' w2 ⟨rfl, t2⟩
    have HT2 := hide (HT.out.trans t2)
    clear t2 HF1 HB c0 c1 c2 c3 c4 c5 c6 c7 c8 k0 k1
    go_wp2_with fail
    go_ret2
    exact ⟨rfl, HT2.out⟩
theorem ri_own64 {w : World} {B : Nat} {v : Value} {n : Nat} {xs : List Value} {f : Nat → Int} (h : w.ownsRow B 2 1 v n xs) (hn : 0 < n) (hx : ∀ i, i < n → xs[i]? = some (.int .i64 (f i))) : ∃ g cap, v = .slice (some ⟨g, 0, none⟩) n cap ∧ Ri w 2 g n f ∧ B ≤ g := by
  rcases h.2 with ⟨_, h0⟩ | ⟨g, cap, cur, hv, hg, hh, hc, _, _, ht⟩
  · omega
  · refine ⟨g, cap, hv, ⟨cur, hh, fun i hi => ?_⟩, hg⟩
    have h1 := hx i hi
    rw [← ht, List.getElem?_take] at h1
    split at h1
    · simpa using h1
    · cases h1
theorem partL_in (h : Int) : -9223372036854775808 ≤ partL h ∧ partL h ≤ 9223372036854775807 := by unfold partL; omega
theorem wrapD1 {a j p : Nat} (h : p = a + j) (h6 : p ≤ 1000) : wrap64 ((a : Int) + (j : Int)) = (p : Int) := by unfold wrap64; omega
theorem wrapD2 {a j p : Nat} (h : p = a + j) (h6 : p ≤ 1000) : IntKind.i64.wrap ((a : Int) + (j : Int)) = (p : Int) := by rw [IntKind.wrap_i64]; omega
theorem irdKeep {w w' : World} {b off : Nat} {len : Nat} {l : List Int} {T : List Nat} (h : IRd w (some ⟨b, off, none⟩) len l) (t : Turned T w w') (hb : b ∉ T) : IRd w' (some ⟨b, off, none⟩) len l :=
  ⟨h.size, h.room, fun i x hx => (by
    obtain ⟨b', off', e1, e2⟩ := h.cell i x hx
    cases e1
    exact ⟨b, off, rfl, by rw [t.cell (block_lt e2) hb]; exact e2⟩), h.inn⟩
theorem less_nextD {n i i1 : Nat} (h : i1 = i + 1) (hlt : i < n) : n - i1 < n - i := by omega
set_option maxHeartbeats 8000000 in
set_option maxRecDepth 100000 in
theorem rall14 (J : LJ) (w : World) (hx : Wx J w) (hH : HdA J.S J.L J.N) (cb : Nat) (hC : CRd w (some ⟨cb, 0, none⟩) 4 four) (hN : 0 < J.N) :
    Calls Tryz.prog 16 #[.slice (some ⟨J.dq, 0, none⟩) J.N J.N, .slice (some ⟨cb, 0, none⟩) 4 4, .pointer (some ⟨J.rp, 0, none⟩), .agg J.plan] w fun e w' => ∃ g c, e = .returned (.tuple #[.slice (some ⟨g, 0, none⟩) J.N c, .bool true]) ∧ Ri w' 2 g J.N (finA J) ∧ w.heap.size ≤ g ∧ Turned [] w w' := by
  have HT := hide ((Turned.refl [] w).alloc (.cells J.plan 42))
  have HB := hide (show Pb (w.alloc (.cells J.plan 42)) w.heap.size J.P (.slice (some ⟨J.lq, 0, none⟩) J.P.R J.lc) (.slice (some ⟨J.aq, 0, none⟩) J.P.R J.ac) (.slice (some ⟨J.wq, 0, none⟩) J.P.R J.P.R) (.slice (some ⟨J.tq, 0, none⟩) J.P.R J.P.R) from heap_alloc_new _ _)
  have HX := hide hx
  have HH := hide hH
  have HC := hide hC
  have HG := hide hx.gd
  have HTu := hide (fun (w' : World) (t : Turned [] w w') (r : Int) (ho : okA J.S J.N r = true) => rturn14 J.rp J.rq J.N J.S J.P (.slice (some ⟨J.lq, 0, none⟩) J.P.R J.lc) (.slice (some ⟨J.aq, 0, none⟩) J.P.R J.ac) (.slice (some ⟨J.wq, 0, none⟩) J.P.R J.P.R) (.slice (some ⟨J.tq, 0, none⟩) J.P.R J.P.R) r w' (hx.rb.turned0 t) ho hx.gd.ins hx.gd.tN hx.dt)
  have hn6 := hx.n6
  have htN := hx.gd.tN
  have hft := hx.gd.ok.le
  obtain ⟨i0, hi, hi0⟩ := Option.map_eq_some_iff.1 Tryz.info2
  simp only [Prod.mk.injEq] at hi0
  obtain ⟨hz0, hz1, hz2⟩ := hi0
  clear hx hH hC
  unfold LJ.plan plC at *
  go_enter Tryz.func16, Tryz.ntmps16
  go_upto_region 1 with fail
  obtain ⟨z, hz⟩ : ∃ z, z = w.heap.size := ⟨_, rfl⟩
  have HZ := hide hz
  rw [← hz] at HB ⊢
  generalize w.alloc (.cells #[Value.int .i64 J.P.f, Value.int .i64 J.P.t, Value.int .i64 J.P.k, Value.int .i64 J.P.d, Value.int .i64 J.P.e, .slice (some ⟨J.lq, 0, none⟩) J.P.R J.lc, .slice (some ⟨J.aq, 0, none⟩) J.P.R J.ac, .slice (some ⟨J.wq, 0, none⟩) J.P.R J.P.R, .slice (some ⟨J.tq, 0, none⟩) J.P.R J.P.R] 42) = w1 at *
  clear hz
  have HDw : Hid (∀ j u, (J.L.map (Value.int .i64))[j]? = some u → w1.cell? ((⟨J.dq, 0, none⟩ : Addr).add j) = some u) := hide (fun j u hu => by
    rw [List.getElem?_map] at hu
    cases hy : J.L[j]? with
    | none => rw [hy] at hu; cases hu
    | some y =>
      rw [hy] at hu
      cases hu
      have := (HX.out.doc.turned HT.out (by simp)).word hy
      have e : (⟨J.dq, 0, none⟩ : Addr).add j = ⟨J.dq, j, none⟩ := by unfold Addr.add; split <;> simp_all
      rw [e]; exact this)
  have hlen := HG.out.len
  have HSz := hide HT.out.size
  go_upto_region 4 with (at_builtin; (refine wpList_append_own w1 rfl _ _ 28 rfl w1.heap.size 2 i0 (.int .i64 0) 1 8 Tryz.underlying28 hi hz0 hz1 hz2 rfl (by decide) _ 0 [] rfl (World.ownsRow_nil _ _ _ _) ⟨J.dq, 0, none⟩ J.N J.N (J.L.map (Value.int .i64)) rfl (by simp [hlen]) HDw.out (fun u hu => by obtain ⟨y, _, rfl⟩ := List.mem_map.1 hu; rfl) (by unfold maxLen; omega) (by omega) (Nat.le_refl _) ?_); intro v' w2 hown hgr hnil; have HO := hide hown; have HT2 := hide (HT.out.grown hgr (fun k hk => by cases hk)); have HU2 := hide ((Turned.refl [] w1).grown hgr (fun k hk => by cases hk)); clear hown hgr hnil)
  obtain ⟨g, gc, hv', hri, hgB⟩ := ri_own64 (f := outF J.P J.S J.N J.L J.P.f) HO.out (by omega) (fun i hi => by
    rw [outF_first HG.out, List.nil_append, List.getElem?_map, List.getD_eq_getElem?_getD, List.getElem?_eq_getElem (by omega)]
    rfl)
  rw [Nat.zero_add] at hv' hri
  subst hv'
  have HRi := hide hri
  have HGl := hide (show w.heap.size ≤ g by have := HSz.out; omega)
  have HGz := hide (show g ≠ z by have := HB.out.lt; omega)
  have HB2 := hide (HB.out.turned0 HU2.out)
  have HT1 := hide (HT.out)
  clear hri hgB HO HU2 HB HDw hi hz0 hz1 hz2 hlen
  obtain ⟨c0, c1, -⟩ := HB2.out.cs
  go_wp2_with fail
  clear c0 c1
  go_loopg [11, 12, 13, 14, 15, 16, 17, 18, 19] (J.P.t - J.P.f) (fun gg s11 s12 s13 s14 s15 s16 s17 s18 s19 wr => ∃ (a : Nat), gg = J.P.t - a ∧ J.P.f ≤ a ∧ a ≤ J.P.t ∧ s12 = .int .i64 (a : Int) ∧ s11 = .bool true ∧ Hid (Ri wr 2 g J.N (outF J.P J.S J.N J.L a)) ∧ Hid (Pb wr z J.P (.slice (some ⟨J.lq, 0, none⟩) J.P.R J.lc) (.slice (some ⟨J.aq, 0, none⟩) J.P.R J.ac) (.slice (some ⟨J.wq, 0, none⟩) J.P.R J.P.R) (.slice (some ⟨J.tq, 0, none⟩) J.P.R J.P.R)) ∧ Hid (Turned [] w wr))
  case atStart => exact ⟨J.P.f, rfl, Nat.le_refl _, hft, rfl, rfl, HRi, HB2, HT2⟩
  case round =>
    clear HRi HB2 HT2
    obtain ⟨a, rfl, hfa, hat, rfl, rfl, HRi, HB2, HT2⟩ := hrel
    obtain ⟨c0, c1, -⟩ := HB2.out.cs
    by_cases hlt : a < J.P.t
    · have hlti : (a : Int) < (J.P.t : Int) := by omega
      have haN : (a : Int) < (J.N : Int) := by omega
      have haN2 : a < J.N := by omega
      have hXr := HX.out.quiet HT2.out
      obtain ⟨cS, hcS, hcSi⟩ := hXr.rb.row
      have k0 := hXr.rb.c0
      have k1 := (cell_of_heap hcS a).trans (hcSi a haN2)
      obtain ⟨sz, hsz⟩ : ∃ sz, sz = J.S a := ⟨_, rfl⟩
      rw [← hsz] at k1
      have HSz2 := hide hsz
      have HMe := hide (less_nextD (n := J.P.t) rfl hlt)
      have HLe := hide (show J.P.f ≤ a + 1 ∧ a + 1 ≤ J.P.t by omega)
      by_cases h0 : sz = 0
      · have hF := hide (HRi.out.congr (fun i _ => outF_skip (a := a) (by omega) i))
        subst h0
        clear hsz hXr hcS hcSi HRi c0
        go_wp2_with fail
        go_roundg (J.P.t - (a + 1))
        case measure => exact HMe.out
        case rel => exact ⟨a + 1, rfl, HLe.out.1, HLe.out.2, by go_num, rfl, hF, HB2, HT2⟩
      · have hS0 : 0 < J.S a := by omega
        obtain ⟨hhd, r, hr, har⟩ := HH.out a hS0
        have hLa : J.L[a]? = some (J.L.getD a 0) := by rw [List.getD_eq_getElem?_getD, List.getElem?_eq_getElem (by have := HG.out.len; omega)]; rfl
        have k2 := hXr.doc.word hLa
        have HP := hide (fun w' => rparts_yes (J.L.getD a 0) w' hhd)
        have HRf := hide (fun (w' : World) (t : Turned [] w w') => rrefs_new (some ⟨cb, 0, none⟩) 4 4 four (partC (J.L.getD a 0)) (partL (J.L.getD a 0)) w' (partL_in (J.L.getD a 0)) (HC.out.turned t))
        rw [hr] at HRf
        simp only [Int.toNat_natCast] at HRf
        have HR6 : Hid (r ≤ 65536) := hide (by omega)
        have HAt : Hid (∀ j, j < r → outG J.P J.S J.N J.L a j (a + (j + 1)) = J.L.getD (a + (j + 1)) 0 ∧ okA J.S J.N (J.L.getD (a + (j + 1)) 0) = true) := hide (fun j hj => ⟨outG_at (P := J.P) HG.out HH.out hS0 hr hj, HG.out.okk a _ ((qp_eq HH.out hS0 hr _).2 (by omega))⟩)
        have HLast : Hid (∀ i, outG J.P J.S J.N J.L a r i = outF J.P J.S J.N J.L (a + 1) i) := hide (outF_next HH.out hS0 hr)
        have HAr := hide har
        have hszi : ¬ (sz : Int) = 0 := by omega
        generalize partC (J.L.getD a 0) = pC at *
        generalize partL (J.L.getD a 0) = pL at *
        generalize J.L.getD a 0 = La at *
        clear hsz hXr hcS hcSi c0 hhd hr hLa hS0 har
        go_wp2_with fail
        refine (HP.out wr).mono ?_
        rintro e w3 ⟨rfl, hw3⟩
        rw [hw3]; clear hw3 w3 HP k0 k1 k2 c1
        go_wp2_with fail
        refine (HRf.out wr HT2.out).mono ?_
        rintro e w4 ⟨ar, cp, rfl, hrd, hlow, t4⟩
        have HRd := hide hrd
        have HRi4 := hide ((HRi.out.turned0 t4).congr (fun i _ => (outG_zero (P := J.P) (S := J.S) (N := J.N) (L := J.L) a i).symm))
        have HB4 := hide (HB2.out.turned0 t4)
        have HT4 := hide (HT2.out.trans t4)
        have HArN : Hid (∀ b, ar = some b → b.block ≠ g) := hide (fun b hb => by
          have h1 := hlow b hb
          have h2 := HRi.out.lt
          omega)
        clear hrd hlow t4 HRf HRi HB2 HT2
        go_wp2_with fail
        go_loopg [11, 17, 18, 19] r (fun gg s11 s17 s18 s19 wr => ∃ (j : Nat), gg = r - j ∧ j ≤ r ∧ s17 = .int .i64 (j : Int) ∧ s11 = .bool true ∧ Hid (Ri wr 2 g J.N (outG J.P J.S J.N J.L a j)) ∧ Hid (Pb wr z J.P (.slice (some ⟨J.lq, 0, none⟩) J.P.R J.lc) (.slice (some ⟨J.aq, 0, none⟩) J.P.R J.ac) (.slice (some ⟨J.wq, 0, none⟩) J.P.R J.P.R) (.slice (some ⟨J.tq, 0, none⟩) J.P.R J.P.R)) ∧ Hid (IRd wr ar r (rowTo r)) ∧ Hid (Turned [] w wr))
        case atStart => exact ⟨0, rfl, Nat.zero_le _, rfl, rfl, HRi4, HB4, HRd, HT4⟩
        case round =>
          clear HRi4 HB4 HRd HT4
          obtain ⟨j, rfl, hj, rfl, rfl, HRi5, HB5, HRd5, HT5⟩ := hrel
          obtain ⟨w5, hw5⟩ : ∃ w5, w5 = wr := ⟨_, rfl⟩
          subst hw5
          by_cases hjr : j < r
          · have hjri : (j : Int) < (r : Int) := by omega
            have HMe2 := hide (less_nextD (n := r) rfl hjr)
            obtain ⟨p, hp⟩ : ∃ p : Nat, p = a + (j + 1) := ⟨_, rfl⟩
            obtain ⟨j1, hj1⟩ : ∃ j1 : Nat, j1 = j + 1 := ⟨_, rfl⟩
            have hrow : (rowTo r)[j]? = some ((j1 : Nat) : Int) := by
              unfold rowTo
              rw [List.getElem?_map, List.getElem?_range hjr, hj1]
              rfl
            obtain ⟨mb, mo, rfl, cm⟩ := HRd5.out.cell j _ hrow
            have hpN : p < J.N := by have := HAr.out; omega
            obtain ⟨hval, hok⟩ := HAt.out j hjr
            rw [← hp] at hval hok
            have co := HRi5.out.cell hpN
            rw [hval] at co
            have HTu1 := hide (fun (w' : World) (t : Turned [] w w') => HTu.out w' t (J.L.getD p 0) hok)
            have HNx : Hid (∀ v, v = toA J.P J.S J.N (J.L.getD p 0) → ∀ i, i < J.N → (if i = p then v else outG J.P J.S J.N J.L a j i) = outG J.P J.S J.N J.L a j1 i) := hide (fun v hv i _ => by
              rw [hj1, outG_next, ← hp, hv]
              by_cases e : i = p
              · rw [if_pos e, if_pos e, e]
              · rw [if_neg e, if_neg e])
            have HVe : Hid (toA J.P J.S J.N (J.L.getD p 0) = toA J.P J.S J.N (J.L.getD p 0)) := hide rfl
            have hpj : p = a + j1 := by rw [hp, hj1]
            have h6p : p ≤ 1000 := Nat.le_of_lt (Nat.lt_of_lt_of_le hpN hn6)
            have wp1 : wrap64 ((a : Int) + (j1 : Int)) = (p : Int) := wrapD1 hpj h6p
            have wp2 : IntKind.i64.wrap ((a : Int) + (j1 : Int)) = (p : Int) := wrapD2 hpj h6p
            have hpi : (p : Int) < (J.N : Int) := Int.ofNat_lt.2 hpN
            obtain ⟨tv, htv⟩ : ∃ tv, tv = toA J.P J.S J.N (J.L.getD p 0) := ⟨_, rfl⟩
            rw [← htv] at HTu1
            have HTv := hide htv
            have HJ1 := hide hj1
            have hle1 : Hid (j1 ≤ r) := hide (by rw [hj1]; exact hjr)
            have HJw : Hid (wrap64 ((j : Int) + 1) = (j1 : Int)) := hide (wrap_next14 hj1 hjr HR6.out)
            have HMe3 : Hid (r - j1 < r - j) := hide (by rw [hj1]; exact HMe2.out)
            have hmg : mb ≠ g := HArN.out ⟨mb, mo, none⟩ rfl
            clear hpj h6p htv hj1 hp hrow hval hok HVe HMe2
            generalize J.L.getD p 0 = rv at *
            obtain ⟨c0, c1, c2, c3, c4, c5, c6, c7, c8⟩ := (show Pb w5.drew z J.P _ _ _ _ from HB5.out).cs
            have cm' : w5.drew.cell? ⟨mb, mo + j, none⟩ = some (.int .i64 (j1 : Int)) := cm
            have co' : w5.drew.cell? ⟨g, p, none⟩ = some (.int .i64 rv) := co
            have HTd := hide HT5.out.drew
            go_wp2_with fail
            go_region_held3 (fun w' => w'.cell? ⟨z, 0, none⟩ = some (.int .i64 (J.P.f : Int)) ∧ w'.cell? ⟨z, 1, none⟩ = some (.int .i64 (J.P.t : Int)) ∧ w'.cell? ⟨z, 2, none⟩ = some (.int .i64 (J.P.k : Int)) ∧ w'.cell? ⟨z, 3, none⟩ = some (.int .i64 (J.P.d : Int)) ∧ w'.cell? ⟨z, 4, none⟩ = some (.int .i64 (J.P.e : Int)) ∧ w'.cell? ⟨z, 5, none⟩ = some (.slice (some ⟨J.lq, 0, none⟩) J.P.R J.lc) ∧ w'.cell? ⟨z, 6, none⟩ = some (.slice (some ⟨J.aq, 0, none⟩) J.P.R J.ac) ∧ w'.cell? ⟨z, 7, none⟩ = some (.slice (some ⟨J.wq, 0, none⟩) J.P.R J.P.R) ∧ w'.cell? ⟨z, 8, none⟩ = some (.slice (some ⟨J.tq, 0, none⟩) J.P.R J.P.R) ∧ w'.cell? ⟨mb, mo + j, none⟩ = some (.int .i64 (j1 : Int)) ∧ w'.cell? ⟨g, p, none⟩ = some (.int .i64 rv)) (go_keep)
              (first
                | (go_at_call 20; refine (HTu1.out _ HTd.out).mono ?_; rintro e w6 ⟨rfl, t6⟩; have HB6 := hide ((show Pb w5.drew z J.P _ _ _ _ from HB5.out).turned0 t6); obtain ⟨y0, y1, y2, y3, y4, y5, y6, y7, y8⟩ := HB6.out.cs; have ym : w6.cell? ⟨mb, mo + j, none⟩ = some (.int .i64 (j1 : Int)) := (by rw [t6.cell (block_lt cm') (by simp)]; exact cm'); have yo : w6.cell? ⟨g, p, none⟩ = some (.int .i64 rv) := (by rw [t6.cell (block_lt co') (by simp)]; exact co'); have HU6 := hide ((Turned.refl [] w5).drew.trans t6); clear t6))
            have HRi6 := hide (HRi5.out.turned0 HU6.out)
            have f0 := HRi6.out.fz p
            have HS6 := hide ((HRi6.out.set p tv).congr (g' := outG J.P J.S J.N J.L a j1) (fun i hi => HNx.out tv HTv.out i hi))
            have HB7 : Hid (Pb (w6.setCell ⟨g, p, none⟩ (.int .i64 tv)) z J.P (.slice (some ⟨J.lq, 0, none⟩) J.P.R J.lc) (.slice (some ⟨J.aq, 0, none⟩) J.P.R J.ac) (.slice (some ⟨J.wq, 0, none⟩) J.P.R J.P.R) (.slice (some ⟨J.tq, 0, none⟩) J.P.R J.P.R)) := hide (HB6.out.turned ((Turned.refl [g] w6).setCell (p := ⟨g, p, none⟩) (.inl (by simp)) _) (by simpa using HGz.out.symm))
            have HT7 := hide ((HT5.out.trans HU6.out).setCell (p := ⟨g, p, none⟩) (.inr (show w.heap.size ≤ g from HGl.out)) (.int .i64 tv))
            have HRd7 : Hid (IRd (w6.setCell ⟨g, p, none⟩ (.int .i64 tv)) (some ⟨mb, mo, none⟩) r (rowTo r)) := hide (irdKeep (HRd5.out.turned HU6.out) ((Turned.refl [g] w6).setCell (p := ⟨g, p, none⟩) (.inl (by simp)) _) (by simpa using hmg))
            clear HRi5 HB5 HRd5 HT5 c0 c1 c2 c3 c4 c5 c6 c7 c8 cm' co' cm co HTd HTu1 y0 y1 y2 y3 y4 y5 y6 y7 y8 HB6 HU6 HRi6
            have hgl := block_lt yo
            go_wp2_with fail
            go_roundg (r - j1)
            case measure => exact HMe3.out
            case rel => exact ⟨j1, rfl, hle1.out, congrArg (Value.int .i64) HJw.out, rfl, HS6, HB7, HRd7, HT7⟩
          · have hjri : ¬ (j : Int) < (r : Int) := by omega
            have hjr2 : j = r := by omega
            have HF := hide (HRi5.out.congr (g' := outF J.P J.S J.N J.L (a + 1)) (fun i _ => by rw [hjr2]; exact HLast.out i))
            clear HRi5 hjr2 HRd5
            go_wp2_with fail
            go_roundg (J.P.t - (a + 1))
            case measure => exact HMe.out
            case rel => exact ⟨a + 1, rfl, HLe.out.1, HLe.out.2, by go_num, rfl, HF, HB5, HT5⟩
    · have hlti : ¬ (a : Int) < (J.P.t : Int) := by omega
      have hae : a = J.P.t := by omega
      have HF := hide (HRi.out.congr (g' := finA J) (fun i _ => by rw [hae]; exact outF_last HG.out i))
      clear HRi hae c0
      go_wp2_with fail
      go_ret2
      first | exact ⟨g, ⟨gc, rfl⟩, HF.out, HGl.out, HT2.out⟩ | exact ⟨g, gc, rfl, HF.out, HGl.out, HT2.out⟩
end Go.Proofs.YtpeglndlhjnaaaaGreatDoor

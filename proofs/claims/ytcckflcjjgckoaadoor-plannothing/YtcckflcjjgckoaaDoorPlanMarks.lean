/-
  marks of the statements of layer 13: bits with the blocks of a list of pairs; such a list that comes in can be read.
-/
import Derived.Test.YtcckflcjjgckoaaDoorPlanGaps
import Derived.Test.YtcckflcjjgckoaaDoorBitsRefC
import Derived.Test.YtcckflcjjgckoaaDoorLawKit
import Derived.Deep.Slices
namespace Go.Proofs.YtcckflcjjgckoaaDoor
open Go.RowKit Go.ChangeShapes Go.WideShapes Go.ChangeAt Bt
set_option linter.unusedVariables false
set_option linter.unusedSimpArgs false

/-- A slice of pairs that can be read. -/
structure TwRd (w : World) (ao : Option Addr) (len : Nat) (cs : List (Int × Int)) : Prop where
  size : cs.length = len
  room : len ≤ 9223372036854775807
  cell : ∀ i c, cs[i]? = some c → ∃ b off, ao = some ⟨b, off, none⟩ ∧ w.cell? ⟨b, off + i * 2, none⟩ = some (.int .i64 c.1) ∧ w.cell? ⟨b, off + i * 2 + 1, none⟩ = some (.int .i64 c.2)
  inn : ∀ c, c ∈ cs → In64 c.1 ∧ In64 c.2
theorem TwRd.turned {w w' : World} {ao : Option Addr} {len : Nat} {cs : List (Int × Int)} (h : TwRd w ao len cs) (ht : Turned [] w w') : TwRd w' ao len cs := by
  refine ⟨h.size, h.room, fun i c hc => ?_, h.inn⟩
  obtain ⟨b, off, h0, h1, h2⟩ := h.cell i c hc
  exact ⟨b, off, h0, by rw [ht.cell (block_lt h1) (by simp)]; exact h1, by rw [ht.cell (block_lt h2) (by simp)]; exact h2⟩

theorem cellsTwo : Tryd.prog.cellsOf 43 = 2 := by kernel_rfl
theorem cellsInt : Tryd.prog.cellsOf 3 = 1 := by kernel_rfl

theorem open_two_at {H : Type} {enc : TypeId × Value → H} {W : World} {a : Option Addr} {len cap : Nat} {d : DataW H} {p : List MemPlace}
    (h : DataW.Trod enc Tryd.prog W 0 (fun _ => true) true 22 (.slice a len cap) d p) :
    len ≤ 9223372036854775807 ∧ ∀ i, i < len → ∃ (c : Int × Int) (b off : Nat), a = some ⟨b, off, none⟩ ∧ (W.cell? ⟨b, off + i * 2, none⟩ = some (.int .i64 c.1) ∧ W.cell? ⟨b, off + i * 2 + 1, none⟩ = some (.int .i64 c.2)) ∧ In64 c.1 ∧ In64 c.2 := by
  obtain ⟨fuel, hf⟩ := h
  rcases Go.Deep.open_slice Tryd.underlying22 hf with ⟨hcs, _⟩ | ⟨x, len', cap', m, n, D, Pl, hcs, _, hl, hm, hmm, _, hel⟩
  · simp [Value.cells] at hcs
    obtain ⟨rfl, rfl, rfl⟩ := hcs
    exact ⟨by omega, fun i hi => absurd hi (Nat.not_lt_zero _)⟩
  · simp [Value.cells] at hcs
    obtain ⟨rfl, rfl, rfl⟩ := hcs
    simp only [if_true] at hmm
    subst hmm
    refine ⟨by unfold maxLen at hm; omega, fun i hi => ?_⟩
    obtain ⟨cs, h1, h2⟩ := hel i (by omega)
    rw [cellsTwo] at h1
    obtain ⟨_, hlen, hc⟩ := World.cells?_some h1
    obtain ⟨v0, v1, rfl⟩ : ∃ v0 v1, cs = [v0, v1] := by
      rcases cs with _ | ⟨v0, _ | ⟨v1, _ | ⟨v2, r⟩⟩⟩
      all_goals first | (exact ⟨v0, v1, rfl⟩) | (simp at hlen)
    obtain ⟨xs, n', -, -, -, hxl, hfl⟩ := DataW.trod_array Tryd.underlying43 h2
    have f0 := hfl 0 (by decide)
    have f1 := hfl 1 (by decide)
    rw [cellsInt] at f0 f1
    rw [List.getElem?_eq_getElem (by omega)] at f0 f1
    obtain ⟨r, q0, -, w0⟩ := DataW.trod_int Tryd.underlying3 f0
    obtain ⟨v, q1, -, w1⟩ := DataW.trod_int Tryd.underlying3 f1
    simp at q0 q1
    subst q0 q1
    obtain ⟨b, off, spot⟩ := x
    have hspot : spot = none := by
      obtain ⟨cs0, k1, _⟩ := hel 0 (by omega)
      rw [cellsTwo] at k1
      obtain ⟨_, k2, k3⟩ := World.cells?_some k1
      have k4 := k3 0 (by omega)
      rw [List.getElem?_eq_getElem (by omega)] at k4
      have e1 := World.cell?_spot k4
      simpa [Addr.add] using e1
    subst hspot
    have ha : ∀ j, Addr.add (Addr.add ⟨b, off, none⟩ (i * 2)) j = ⟨b, off + i * 2 + j, none⟩ := fun j => by
      rw [Go.Deep.add_add, show Addr.add ⟨b, off, none⟩ (i * 2 + j) = ⟨b, off + (i * 2 + j), none⟩ by simp [Addr.add], Nat.add_assoc]
    have g0 := hc 0 (by omega)
    have g1 := hc 1 (by omega)
    rw [ha] at g0 g1
    exact ⟨(r, v), b, off, rfl, ⟨g0, g1⟩, wf_range w0, wf_range w1⟩

theorem open_pairs {H : Type} {enc : TypeId × Value → H} {W : World} {a : Option Addr} {len cap : Nat} {d : DataW H} {p : List MemPlace}
    (h : DataW.Trod enc Tryd.prog W 0 (fun _ => true) true 22 (.slice a len cap) d p) : ∃ cs, TwRd W a len cs := by
  obtain ⟨hl, h1⟩ := open_two_at h
  have h2 : ∀ i : Fin len, ∃ c : Int × Int, (∃ (b off : Nat), a = some ⟨b, off, none⟩ ∧ (W.cell? ⟨b, off + i.val * 2, none⟩ = some (.int .i64 c.1) ∧ W.cell? ⟨b, off + i.val * 2 + 1, none⟩ = some (.int .i64 c.2))) ∧ In64 c.1 ∧ In64 c.2 := fun i => by
    obtain ⟨c, b, off, e1, e2, e3⟩ := h1 i.val i.isLt
    exact ⟨c, ⟨b, off, e1, e2⟩, e3⟩
  obtain ⟨f, hf⟩ := Classical.axiomOfChoice h2
  refine ⟨List.ofFn f, List.length_ofFn, hl, fun i c hc => ?_, fun c hc => ?_⟩
  · rw [List.getElem?_ofFn] at hc
    split at hc
    · rename_i hi
      injection hc with hc
      subst hc
      obtain ⟨b, off, e1, e2, e3⟩ := (hf ⟨i, hi⟩).1
      exact ⟨b, off, e1, e2, e3⟩
    · cases hc
  · obtain ⟨i, rfl⟩ := List.mem_ofFn.1 hc
    exact (hf i).2

/-- The sizes behind the first marks of a list. -/
noncomputable def mkS (n : Nat) (cs : List (Int × Int)) : Nat → Nat → Nat
  | 0 => S0
  | j + 1 => match cs[j]? with
    | some c => (markT n (mkS n cs j) c.1 c.2).2.2
    | none => mkS n cs j
theorem mkS_bl (n : Nat) (cs : List (Int × Int)) (j : Nat) : Bl n (mkS n cs j) := by
  induction j with
  | zero => exact Bl.none n
  | succ j ih =>
    unfold mkS
    split
    · exact markT_bl ih _ _
    · exact ih

set_option maxHeartbeats 4000000 in
set_option maxRecDepth 100000 in
theorem marks_any (n : Nat) (ao : Option Addr) (len cap : Nat) (cs : List (Int × Int)) (w : World) (hn : n ≤ 65536) (h : TwRd w ao len cs) (hT : Tab w) :
    Calls Tryd.prog 8 #[.int .i64 (n : Int), .slice ao len cap] w fun e w' => ∃ p q p2, e = .returned (.tuple #[.pointer (some ⟨p, 0, none⟩), .pointer (some ⟨p2, 0, none⟩)]) ∧ Bts w' p q n (sidesOf (mkS n cs (min len 60))) ∧ w.heap.size ≤ p ∧ w.heap.size ≤ q ∧ Turned [] w w' := by
  have HB := hide (new_any (n : Int) w (by unfold In64; omega) hT)
  have HR := hide (fun (w' : World) (t : Turned [] w w') => rnew_any (n : Int) w' (by unfold In64; omega) (hT.turned t (by simp)))
  rw [show kp 65536 (n : Int) = n by unfold kp; omega] at HB HR
  have HO := hide h
  have HL := hide h.size
  have hroom := h.room
  clear h hT
  go_enter Tryd.func8, Tryd.ntmps8
  go_wp2_with fail
  refine (HB.out).mono ?_
  rintro e w1 ⟨p, q, rfl, hb1, hp1, hq1, ht1⟩
  have HB1 := hide hb1
  have HT1 := hide ht1
  have HPQ := hide (And.intro hp1 hq1)
  clear hb1 ht1 HB hp1 hq1
  go_wp2_with fail
  refine (HR.out _ HT1.out).mono ?_
  rintro e w2 ⟨p2, q2, rfl, hr2, hp2, hq2, ht2⟩
  have HR2 := hide hr2
  have HB2 := hide (HB1.out.turned0 ht2)
  have HT2 := hide (HT1.out.trans ht2)
  have HPQ2 := hide (show w.heap.size ≤ q2 ∧ p < q2 ∧ q < q2 ∧ p < p2 ∧ q < p2 by have := HT1.out.size; have := HB1.out.ltp; have := HB1.out.ltq; omega)
  have H0 := hide (show q ≠ 0 ∧ q2 ≠ 0 from ⟨HB1.out.q0, HR2.out.q0⟩)
  clear hr2 hp2 hq2 ht2 HR HB1 HT1
  go_wp2_with fail
  go_loopw [8] (fun i wr => ∃ j : Nat, j ≤ len ∧ j ≤ 60 ∧ i = .int .i64 j ∧ Hid (Bts wr p q n (sidesOf (mkS n cs j))) ∧ Hid (RB wr p2 q2 n (mkS n cs j)) ∧ Hid (Turned [] w wr)) (fun i _ => 60 - (intOf i).toNat)
  case atStart => exact ⟨0, Nat.zero_le _, by omega, rfl, HB2, HR2, HT2⟩
  case round =>
    obtain ⟨j, hj, hj6, rfl, HB, HR, HTr⟩ := hrel
    clear HB2 HR2 HT2
    by_cases hlt : j < len ∧ j < 60
    · obtain ⟨o, ho⟩ : ∃ o, cs[j]? = some o := ⟨_, List.getElem?_eq_getElem (by have := HL.out; omega)⟩
      obtain ⟨b, off, rfl, c1, c2⟩ := (HO.out.turned HTr.out).cell j o ho
      have hin := HO.out.inn o (List.mem_of_getElem? ho)
      have hnx : mkS n cs (j + 1) = (markT n (mkS n cs j) o.1 o.2).2.2 := by
        show (match cs[j]? with | some c => (markT n (mkS n cs j) c.1 c.2).2.2 | none => mkS n cs j) = _
        rw [ho]
      have hbw : b < w.heap.size := by
        obtain ⟨b2, off2, e1, c3, _⟩ := HO.out.cell j o ho
        cases e1
        exact block_lt c3
      have hbq : b ≠ q ∧ b ≠ q2 := by
        have := HPQ.out.2
        have := HPQ2.out.1
        omega
      obtain ⟨At, Z⟩ := o
      simp only at c1 c2 hin hnx
      have HM := hide (fun w' h => mark_any p q n (mkS n cs j) At Z w' h (mkS_bl n cs j) hin.2)
      have HM2 := hide (fun w' h => rmark_any p2 q2 n (mkS n cs j) At Z w' hin.2 h)
      rw [← hnx] at HM HM2
      generalize (markT n (mkS n cs j) At Z).1 = t1 at *
      generalize (markT n (mkS n cs j) At Z).2.1 = t2 at *
      have hji : (j : Int) < len := by omega
      have hj6i : (j : Int) < 60 := by omega
      have HX := hide (And.intro hbq hbw)
      clear hnx hin ho hbw
      go_wp2_with fail
      go_region_held3 (fun w' => w'.cell? ⟨b, off + j * 2, none⟩ = some (.int .i64 At) ∧ w'.cell? ⟨b, off + j * 2 + 1, none⟩ = some (.int .i64 Z)) (go_keep)
        (first
          | (go_at_call 16; refine (HM.out _ (HB.out.turned0 (Turned.refl [] wr).drew)).mono ?_; rintro e w3 ⟨rfl, hb3, ht3⟩; have d1 : w3.cell? ⟨b, off + j * 2, none⟩ = some (.int .i64 At) := (by rw [ht3.cell (block_lt c1) (by simpa using HX.out.1.1)]; exact c1); have d2 : w3.cell? ⟨b, off + j * 2 + 1, none⟩ = some (.int .i64 Z) := (by rw [ht3.cell (block_lt c2) (by simpa using HX.out.1.1)]; exact c2); have HB3 := hide hb3; have HT3 := hide ((HTr.out.drew).trans_new ht3 (fun i hi => by simp at hi; subst hi; exact .inr HPQ.out.2)); have HU3 := hide ((Turned.refl [q] wr).drew.trans ht3); clear hb3 ht3))
      have HR3 := hide (HR.out.turned HU3.out (by simp; have := HPQ2.out; omega) (by simp; have := HPQ2.out; omega))
      clear HB HR HTr c1 c2 HU3
      go_wp2_with fail
      go_region_held3 (fun w' => w'.cell? ⟨b, off + j * 2, none⟩ = some (.int .i64 At) ∧ w'.cell? ⟨b, off + j * 2 + 1, none⟩ = some (.int .i64 Z)) (go_keep)
        (first
          | (go_at_call 19; refine (HM2.out _ (HR3.out.turned0 (Turned.refl [] w3).drew)).mono ?_; rintro e w4 ⟨rfl, hr4, ht4⟩; have g1 : w4.cell? ⟨b, off + j * 2, none⟩ = some (.int .i64 At) := (by rw [ht4.cell (block_lt d1) (by simpa using HX.out.1.2)]; exact d1); have g2 : w4.cell? ⟨b, off + j * 2 + 1, none⟩ = some (.int .i64 Z) := (by rw [ht4.cell (block_lt d2) (by simpa using HX.out.1.2)]; exact d2); have HR4 := hide hr4; have HT4 := hide ((HT3.out.drew).trans_new ht4 (fun i hi => by simp at hi; subst hi; exact .inr HPQ2.out.1)); have HU4 := hide ((Turned.refl [q2] w3).drew.trans ht4); clear hr4 ht4))
      have HB4 := hide (HB3.out.turned HU4.out (by simp; have := HPQ2.out; omega) (by simp; have := HPQ2.out; omega) (by simp; have := H0.out; omega))
      clear HB3 HR3 HT3 d1 d2 g1 g2 HU4
      go_wp2_with fail
      go_roundw
      case rel => exact ⟨j + 1, by omega, by omega, by go_num, HB4, HR4, HT4⟩
      case measure => simp [intOf]; omega
    · have hjm : j = min len 60 := by omega
      have HF := hide (And.intro HB.out HTr.out)
      have HJ := hide hjm
      by_cases h1 : j < len
      · have h2 : ¬ j < 60 := by omega
        have h1i : (j : Int) < len := by omega
        clear hjm
        go_wp2_with fail
        go_ret2
        exact ⟨p, q, p2, rfl, by rw [← HJ.out]; exact HF.out.1, HPQ.out.1, HPQ.out.2, HF.out.2⟩
      · have hd : decide ((j : Int) < (len : Int)) = false := decide_eq_false (by omega)
        clear hjm
        go_wp2_with fail
        go_ret2
        exact ⟨p, q, p2, rfl, by rw [← HJ.out]; exact HF.out.1, HPQ.out.1, HPQ.out.2, HF.out.2⟩
end Go.Proofs.YtcckflcjjgckoaaDoor

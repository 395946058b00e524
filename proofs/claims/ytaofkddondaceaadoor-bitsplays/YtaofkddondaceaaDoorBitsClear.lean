/-
  What Clear does.
-/
import Derived.Test.YtaofkddondaceaaDoorBitsMark
namespace Go.Proofs.YtaofkddondaceaaDoor
open Go.RowKit
set_option linter.unusedVariables false

/-- An object, nil or not; with words it is Bts. -/
structure Ob (w : World) (ov : Option Addr) (p q n : Nat) (S : Nat → Nat) : Prop where
  rd : Brd w ov n (sidesOf S)
  bl : Bl n S
  own : 0 < n → ov = some ⟨p, 0, none⟩ ∧ Bts w p q n (sidesOf S)
theorem Bts.ob {w : World} {p q n : Nat} {S : Nat → Nat} (h : Bts w p q n (sidesOf S)) (hs : Bl n S) : Ob w (some ⟨p, 0, none⟩) p q n S := ⟨h.brd, hs, fun _ => ⟨rfl, h⟩⟩
theorem Ob.turned0 {w w' : World} {ov : Option Addr} {p q n : Nat} {S : Nat → Nat} (h : Ob w ov p q n S) (t : Turned [] w w') : Ob w' ov p q n S :=
  ⟨h.rd.turned t, h.bl, fun hn => ⟨(h.own hn).1, (h.own hn).2.turned0 t⟩⟩

/-- Spans, one behind the other. -/
def clrs (n : Nat) (S : Nat → Nat) (sp : List (Int × Int)) : Nat → Nat := sp.foldl (fun S r => clr S (kp n r.1) (kp n r.2)) S
theorem clrs_snoc (n : Nat) (S : Nat → Nat) (sp : List (Int × Int)) (k : Nat) (r : Int × Int) (h : sp[k]? = some r) : clrs n S (sp.take (k + 1)) = clr (clrs n S (sp.take k)) (kp n r.1) (kp n r.2) := by
  have hk : k < sp.length := (List.getElem?_eq_some_iff.1 h).1
  have e : sp.take (k + 1) = sp.take k ++ [r] := by rw [List.take_add_one, h]; rfl
  unfold clrs
  rw [e, List.foldl_append]
  rfl
theorem clrs_bl {n : Nat} {S : Nat → Nat} (h : Bl n S) (sp : List (Int × Int)) : Bl n (clrs n S sp) := by
  unfold clrs
  induction sp generalizing S with
  | nil => exact h
  | cons r sp ih => exact ih (h.clr _ _)
/-- Spans that can be read. -/
structure SpRd (w : World) (g : Nat) (sp : List (Int × Int)) : Prop where
  cell : ∀ i r, sp[i]? = some r → w.cell? ⟨g, i * 2, none⟩ = some (.int .i64 r.1) ∧ w.cell? ⟨g, i * 2 + 1, none⟩ = some (.int .i64 r.2)
theorem SpRd.turned {w w' : World} {g : Nat} {sp : List (Int × Int)} {T : List Nat} (h : SpRd w g sp) (t : Turned T w w') (hg : g ∉ T) : SpRd w' g sp :=
  ⟨fun i r hr => by
    obtain ⟨h1, h2⟩ := h.cell i r hr
    exact ⟨by rw [t.cell (block_lt h1) hg]; exact h1, by rw [t.cell (block_lt h2) hg]; exact h2⟩⟩

/-- What the inner loop keeps: outside the range all is as it was; within it, as it was or nothing. -/
def Part (S T : Nat → Nat) (a b : Nat) : Prop := ∀ k, T k = S k ∨ (a ≤ k ∧ k < b ∧ T k = 0)
theorem part_done {S T : Nat → Nat} {a b : Nat} (h : Part S T a b) (hn : ∀ k, a ≤ k → k < b → begs T k = false) : T = clr S a b := by
  funext k
  unfold clr
  split
  · rename_i h1
    have h2 := hn k h1.1 h1.2
    unfold begs at h2
    simp at h2
    exact h2
  · rename_i h1
    rcases h k with h2 | ⟨h2, h3, _⟩
    · exact h2
    · exact absurd ⟨h2, h3⟩ h1
theorem part_off {S T : Nat → Nat} {a b k : Nat} (h : Part S T a b) (h1 : a ≤ k) (h2 : k < b) : Part S (upd T k 0) a b := by
  intro j
  by_cases hj : j = k
  · subst hj; exact .inr ⟨h1, h2, upd_at _ _ _⟩
  · rw [upd_ne T hj]; exact h j
theorem next_off {T : Nat → Nat} {a b k : Nat} {r : Int} (h1 : a ≤ k) (h2 : k < b) (hl : ∀ j, a ≤ j → j < k → begs T j = false) (hr : IsNext (begs (upd T k 0)) k b r) : IsNext (begs (upd T k 0)) a b r ∧ (r = -1 ∨ (k : Int) < r) := by
  have hk : begs (upd T k 0) k = false := by unfold begs; rw [upd_at]; rfl
  have hl2 : ∀ j, a ≤ j → j < k → begs (upd T k 0) j = false := by
    intro j h3 h4
    have := hl j h3 h4
    unfold begs at this ⊢
    rw [upd_ne T (by omega)]
    exact this
  rcases hr with ⟨rfl, h3⟩ | ⟨j, rfl, h3, h4, h5, h6⟩
  · refine ⟨.inl ⟨rfl, fun j h4 h5 => ?_⟩, .inl rfl⟩
    by_cases hj : j < k
    · exact hl2 j h4 hj
    · exact h3 j (by omega) h5
  · have hjk : j ≠ k := by intro e; subst e; rw [hk] at h5; cases h5
    refine ⟨.inr ⟨j, rfl, by omega, h4, h5, fun i h7 h8 => ?_⟩, .inr (by omega)⟩
    by_cases hi : i < k
    · exact hl2 i h7 hi
    · exact h6 i (by omega) h8

/-- The inner loop's measure. -/
def msr (n : Nat) (v : Value) : Nat := if intOf v < 0 then 0 else (n + 1 - intOf v).toNat
theorem msr_down {n j : Nat} {r : Int} (hj : j ≤ n) (h : r = -1 ∨ (j : Int) < r) : msr n (.int .i64 r) < msr n (.int .i64 (j : Int)) := by
  unfold msr
  have e1 : intOf (Value.int .i64 r) = r := rfl
  have e2 : intOf (Value.int .i64 (j : Int)) = (j : Int) := rfl
  rw [e1, e2, if_neg (show ¬ ((j : Int) < 0) by omega)]
  split <;> omega
theorem IsNext.range {f : Nat → Bool} {a b : Nat} {r : Int} (h : IsNext f a b r) (hb : b ≤ 65536) : -1 ≤ r ∧ r < 65536 := by
  rcases h with ⟨rfl, _⟩ | ⟨k, rfl, _, h2, _⟩ <;> omega

set_option maxHeartbeats 1000000 in
theorem clear_any (ov : Option Addr) (p q n : Nat) (S : Nat → Nat) (so : Option Addr) (len cap : Nat) (sp : List (Int × Int)) (w : World) (h : Ob w ov p q n S) (hlen : len ≤ 1000000) (hsp : sp.length = if len = 0 then 1 else len)
    (h0 : len = 0 → sp = [(0, (n : Int))]) (h1 : 0 < len → ∃ g, so = some ⟨g, 0, none⟩ ∧ SpRd w g sp ∧ g ≠ q) (hqs : q < w.heap.size) (T : List Nat) (hTT : 0 < n → q ∈ T) :
    Calls Tryd.prog 15 #[.pointer ov, .slice so len cap] w fun e w' => e = .returned (.tuple #[]) ∧ Ob w' ov p q n (clrs n S sp) ∧ Turned T w w' := by
  have hn := h.rd.few
  have HW := hide (words_any ov n _ w h.rd)
  have HB := hide h
  have H0 := hide h0
  have H1 := hide h1
  have HQ := hide hqs
  have HTT := hide hTT
  have HSP := hide hsp
  clear h h0 h1 hqs hsp hTT
  go_enter Tryd.func15, Tryd.ntmps15
  go_upto_if 11 with fail
  go_cut [1, 12, 13, 14, 15] (fun s1 _ _ _ _ wc => ∃ (g ln cp : Nat), s1 = .slice (some ⟨g, 0, none⟩) ln cp ∧ ln ≤ 1000000 ∧ Aside (SpRd wc g sp ∧ g ≠ q ∧ sp.length = ln ∧ Turned [] w wc))
  case first =>
    by_cases hl0 : len = 0
    · subst hl0
      have e0 := H0.out rfl
      subst e0
      go_wp2_with fail
      refine (HW.out).mono ?_
      rintro e w1 ⟨rfl, rfl⟩
      go_wp2_with fail
      go_meet
      refine ⟨w1.heap.size, 1, 1, rfl, by omega, ⟨fun i r hr => ?_⟩, by have := HQ.out; omega, rfl, (Turned.refl [] w1).alloc _⟩
      cases i with
      | zero =>
        simp at hr
        subst hr
        exact ⟨by rw [cell_of_heap (heap_alloc_new _ _)]; rfl, by rw [cell_of_heap (heap_alloc_new _ _)]; rfl⟩
      | succ i => simp at hr
    · have hlp : 0 < len := by omega
      obtain ⟨g, rfl, hr, hg⟩ := H1.out hlp
      have HX := hide (And.intro hr hg)
      clear hr hg
      go_wp2_with fail
      go_meet
      exact ⟨g, len, cap, rfl, hlen, HX.out.1, HX.out.2, by rw [HSP.out, if_neg hl0], Turned.refl _ _⟩
  case rest =>
    obtain ⟨g, ln, cp, rfl, hln, HA⟩ := hcut
    clear hlen
    go_wp2_with fail
    go_loopw [18] (fun i wr => ∃ k : Nat, k ≤ ln ∧ i = .int .i64 k ∧ Hid (Ob wr ov p q n (clrs n S (sp.take k))) ∧ Hid (SpRd wr g sp) ∧ Hid (Turned T w wr)) (fun i _ => ln - (intOf i).toNat)
    case atStart => exact ⟨0, Nat.zero_le _, rfl, HB.out.turned0 HA.out.2.2.2, HA.out.1, HA.out.2.2.2.mono (by simp)⟩
    case round =>
      obtain ⟨k, hk, rfl, HO, HSR, HT⟩ := hrel
      by_cases hlt : k < ln
      · obtain ⟨r, hr⟩ : ∃ r, sp[k]? = some r := ⟨_, List.getElem?_eq_getElem (by have := HA.out.2.2.1; omega)⟩
        obtain ⟨c0, c1⟩ := HSR.out.cell k r hr
        obtain ⟨S1, hS1⟩ : ∃ S1, S1 = clrs n S (sp.take k) := ⟨_, rfl⟩
        have HS2 : Hid (clrs n S (sp.take (k + 1)) = clr S1 (kp n r.1) (kp n r.2)) := by rw [hS1]; exact clrs_snoc n S sp k r hr
        rw [← hS1] at HO
        obtain ⟨x, y⟩ := r
        simp only at c0 c1 HS2
        have ha := kp_le n x
        have hb := kp_le n y
        clear hr hS1
        go_wp2_with fail
        have ht1 := (Turned.refl [] wr).alloc (Obj.cells #[.int .i64 x, .int .i64 y] 38)
        have HO1 := hide (HO.out.turned0 ht1)
        have HR1 := hide (HSR.out.turned ht1 (by simp))
        have HT1 := hide (HT.out.trans (ht1.mono (T := T) (by simp)))
        have d0 : (wr.alloc (Obj.cells #[.int .i64 x, .int .i64 y] 38)).cell? ⟨wr.heap.size, 0, none⟩ = some (.int .i64 x) := by rw [cell_of_heap (heap_alloc_new _ _)]; rfl
        have d1 : (wr.alloc (Obj.cells #[.int .i64 x, .int .i64 y] 38)).cell? ⟨wr.heap.size, 1, none⟩ = some (.int .i64 y) := by rw [cell_of_heap (heap_alloc_new _ _)]; rfl
        clear c0 c1 HO HSR HT ht1
        generalize wr.alloc (Obj.cells #[.int .i64 x, .int .i64 y] 38) = W1 at *
        generalize wr.heap.size = g1 at *
        go_quiet (fail)
        have htq := (Turned.refl [] W1).drewN nq
        have HO2 := hide (HO1.out.turned0 htq)
        have HR2 := hide (HR1.out.turned htq (by simp))
        have HT2 := hide (HT1.out.trans (htq.mono (T := T) (by simp)))
        clear d0 d1 HO1 HR1 HT1 htq
        generalize W1.drewN nq = W2 at *
        have HNx := hide (next_any ov n _ x y W2 HO2.out.rd)
        go_wp2_with fail
        refine (HNx.out).mono ?_
        rintro e W3 ⟨r0, rfl, hr0, m, rfl⟩
        have HI := hide hr0
        have hrr := hr0.range (by omega)
        have htm := (Turned.refl [] W2).drewN m
        have HO3 := hide (HO2.out.turned0 htm)
        have HR3 := hide (HR2.out.turned htm (by simp))
        have HT3 := hide (HT2.out.trans (htm.mono (T := T) (by simp)))
        clear hr0 HO2 HR2 HT2 htm HNx
        generalize W2.drewN m = W4 at *
        rw [sidesOf0] at HI
        go_wp2_with fail
        go_loopw [8] (fun v wz => ∃ (U : Nat → Nat) (r1 : Int), v = .int .i64 r1 ∧ -1 ≤ r1 ∧ r1 < 65536 ∧ Hid (Ob wz ov p q n U) ∧ Hid (Part S1 U (kp n x) (kp n y)) ∧ Hid (IsNext (begs U) (kp n x) (kp n y) r1) ∧ Hid (SpRd wz g sp) ∧ Hid (Turned T w wz)) (fun v _ => msr n v)
        case atStart => exact ⟨S1, r0, rfl, hrr.1, hrr.2, HO3, fun k => .inl rfl, HI, HR3, HT3⟩
        case round =>
          obtain ⟨U, r1, rfl, hr1, hr2, HO5, HP5, HI5, HR5, HT5⟩ := hrel
          by_cases hneg : 0 ≤ r1
          · rcases HI5.out with ⟨h1, _⟩ | ⟨j, rfl, h2, h3, h4, h5⟩
            · omega
            · have hj0 : 0 < U j := by simpa [begs] using h4
              obtain ⟨rfl, hbts⟩ := HO5.out.own (by omega)
              have HZ := hide (size_any _ n U j _ HO5.out.rd HO5.out.bl)
              rw [szI_nat] at HZ
              have hjn := HO5.out.bl.into j hj0
              obtain ⟨z, hz⟩ : ∃ z, z = U j := ⟨_, rfl⟩
              rw [← hz] at HZ hjn
              have HTu := hide (fun w h => turn_any p q n (sidesOf U) j z w h (by omega) hjn)
              have HSd := hide (fun s k hs => sides_off HO5.out.bl hj0 s k hs)
              rw [← hz] at HSd
              have HBt := hide hbts
              have HBl := hide (HO5.out.bl.off j)
              have HPt := hide (part_off HP5.out h2 h3)
              have HLo := hide (fun r h => next_off h2 h3 h5 h (r := r))
              have ekj : kp n (j : Int) = j := by unfold kp; omega
              clear hbts hz h4 h5 HO5 HP5 HI5 hj0
              go_wp2_with fail
              refine (HZ.out).mono ?_
              rintro e W6 ⟨rfl, m6, rfl⟩
              go_wp2_with fail
              refine (HTu.out _ (HBt.out.drewN m6)).mono ?_
              rintro e W7 ⟨rfl, hb7, ht7⟩
              have HB7 := hide ((hb7.congr HSd.out).ob HBl.out)
              have ht67 := ((Turned.refl [q] _).drewN m6).trans ht7
              have HT7 := hide (HT5.out.trans (ht67.mono (T := T) (fun k hk => by simp at hk; subst hk; exact HTT.out (by omega))))
              have HR7 := hide (HR5.out.turned ht67 (by simpa using HA.out.2.1))
              clear hb7 ht7 ht67 HTu HZ HBt HR5 HT5
              have HN7 := hide (next_any _ n _ j y W7 HB7.out.rd)
              rw [ekj, sidesOf0] at HN7
              go_wp2_with fail
              refine (HN7.out).mono ?_
              rintro e W8 ⟨r8, rfl, hr8, m8, rfl⟩
              obtain ⟨hq1, hq2⟩ := HLo.out r8 hr8
              have HI8 := hide hq1
              have hrr8 := hq1.range (by omega)
              have ht8 := (Turned.refl [] W7).drewN m8
              have HO8 := hide (HB7.out.turned0 ht8)
              have HR8 := hide (HR7.out.turned ht8 (by simp))
              have HT8 := hide (HT7.out.trans (ht8.mono (T := T) (by simp)))
              clear hr8 hq1 ht8 HB7 HR7 HT7 HN7
              go_wp2_with fail
              go_roundw
              case rel => exact ⟨upd U j 0, r8, rfl, hrr8.1, hrr8.2, HO8, HPt, HI8, HR8, HT8⟩
              case measure => exact msr_down (by omega) hq2
          · have hd : decide (0 ≤ r1) = false := decide_eq_false hneg
            have hn1 : r1 = -1 := by omega
            subst hn1
            have HTd : Hid (Ob wr ov p q n (clrs n S (sp.take (k + 1)))) := by
              rw [HS2.out]
              rcases HI5.out with ⟨_, h2⟩ | ⟨j, h1, _⟩
              · rw [← part_done HP5.out h2]; exact HO5.out
              · omega
            go_wp2_with fail
            go_roundw
            case rel => exact ⟨k + 1, by omega, by go_num, HTd, HR5, HT5⟩
            case measure => simp [intOf]; omega
      · have hall : sp.take k = sp := List.take_of_length_le (by have := HA.out.2.2.1; omega)
        have HO2 := HO.out
        rw [hall] at HO2
        have HO3 := hide HO2
        clear HO2 HO
        go_wp2_with fail
        refine bodyPost_end (results_none rfl _ _ _) rfl ?_
        exact ⟨rfl, HO3.out, HT.out⟩
end Go.Proofs.YtaofkddondaceaaDoor

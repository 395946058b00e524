/-
  Texts of the proof, several in one: ShareB, ShareC.
-/
import Derived.Test.YtpeglndlhjnaaaaGreatDoorPack14
import Derived.Deep.QuietTactic
import Derived.BigQuiet
import Derived.Deep.RegionHeld3
import Derived.BigRegion
/-
  A share in the model's heap ('Sh'), and what NewShare, Next, Reset and Taken do to it.
-/
namespace Go.Proofs.YtpeglndlhjnaaaaGreatDoor.Gs
open Go.RowKit
set_option linter.unusedVariables false

/-- A share: block a is the struct; its memory's block p, the words q; the cell k, so many parts. -/
structure Sh (w : World) (a p q : Nat) (l : List Int) (s : Int) (k : Nat) (pt : Int) : Prop where
  mem : Mem w p q l s
  nep : a ≠ p
  neq : a ≠ q
  lt : k < l.length
  most : l.length ≤ 65536
  obj : w.heap[a]? = some (.cells #[ptr p, .int .i64 (k : Int), .int .i64 pt] 148)
section
variable {w : World} {a p q : Nat} {l : List Int} {s : Int} {k : Nat} {pt : Int}
theorem Sh.c0 (h : Sh w a p q l s k pt) : w.cell? ⟨a, 0, none⟩ = some (.pointer (some ⟨p, 0, none⟩)) := by rw [cell_of_heap h.obj]; rfl
theorem Sh.c1 (h : Sh w a p q l s k pt) : w.cell? ⟨a, 1, none⟩ = some (.int .i64 (k : Int)) := by rw [cell_of_heap h.obj]; rfl
theorem Sh.c2 (h : Sh w a p q l s k pt) : w.cell? ⟨a, 2, none⟩ = some (.int .i64 pt) := by rw [cell_of_heap h.obj]; rfl
theorem Sh.f (h : Sh w a p q l s k pt) (i : Nat) : w.frozen? ⟨a, i, none⟩ = false := by simp [World.frozen?, h.obj]
theorem Sh.lta (h : Sh w a p q l s k pt) : a < w.heap.size := lt_of_heap h.obj
theorem Sh.drewN (h : Sh w a p q l s k pt) (n : Nat) : Sh (w.drewN n) a p q l s k pt := ⟨⟨h.mem.ne, h.mem.head, h.mem.row⟩, h.nep, h.neq, h.lt, h.most, h.obj⟩
theorem Sh.drew (h : Sh w a p q l s k pt) : Sh w.drew a p q l s k pt := ⟨⟨h.mem.ne, h.mem.head, h.mem.row⟩, h.nep, h.neq, h.lt, h.most, h.obj⟩
theorem Sh.turned (h : Sh w a p q l s k pt) {S : List Nat} {w' : World} (t : Turned S w w') (ha : a ∉ S) (hp : p ∉ S) (hq : q ∉ S) : Sh w' a p q l s k pt :=
  ⟨h.mem.turned t hp hq, h.nep, h.neq, h.lt, h.most, by rw [t.block a h.lta ha]; exact h.obj⟩
theorem Sh.turned0 (h : Sh w a p q l s k pt) {w' : World} (t : Turned [] w w') : Sh w' a p q l s k pt := h.turned t (by simp) (by simp) (by simp)
theorem Sh.memd (h : Sh w a p q l s k pt) {w' : World} (t : Turned [p, q] w w') {l' : List Int} {s' : Int} (hm : Mem w' p q l' s') (hl : l'.length = l.length) : Sh w' a p q l' s' k pt :=
  ⟨hm, h.nep, h.neq, by rw [hl]; exact h.lt, by rw [hl]; exact h.most, by rw [t.block a h.lta (by simp [h.nep, h.neq])]; exact h.obj⟩
theorem Sh.parts (h : Sh w a p q l s k pt) (v : Int) : Sh (w.setCell ⟨a, 2, none⟩ (.int .i64 v)) a p q l s k v :=
  ⟨h.mem.turned (S := [a]) ((Turned.refl _ _).setCell (.inl (by simp)) _) (by simp [Ne.symm h.nep]) (by simp [Ne.symm h.neq]), h.nep, h.neq, h.lt, h.most, by rw [heap_setCell_at _ _ _ _ _ _ h.obj]; rfl⟩
end

set_option maxRecDepth 100000 in
theorem snone_any (w : World) (a p q : Nat) (l : List Int) (s : Int) (k : Nat) (pt : Int) (h : Sh w a p q l s k pt) :
    Calls Tryz.prog 107 #[ptr a] w fun e w' => e = .returned (.bool false) ∧ ∃ n, w' = w.drewN n := by
  have c0 := h.c0
  have c1 := h.c1
  have hl := h.lt
  have hm := h.most
  have HL := hide (fun m => len_mem p q l s (w.drewN m) (h.drewN m).mem)
  generalize l.length = n at *
  clear h
  unfold ptr
  go_enter Tryz.func107, Tryz.ntmps107
  go_wp2_with fail
  go_quiet ((go_at_call 34; exact Calls.quiet_of_same (HL.out _)))
  go_wp2_with fail
  go_ret
  have hd : decide (n ≤ k) = false := decide_eq_false (by omega)
  exact ⟨by rw [hd]; rfl, _, rfl⟩

set_option maxHeartbeats 2000000 in
theorem snone_nil (w : World) :
    Calls Tryz.prog 107 #[.pointer none] w fun e w' => e = .returned (.bool true) ∧ ∃ n, w' = w.drewN n := by
  go_enter Tryz.func107, Tryz.ntmps107
  go_wp2_with fail
  go_quiet (fail)
  go_wp2_with fail
  go_ret
  exact ⟨rfl, _, rfl⟩

set_option maxRecDepth 100000 in
theorem snone_zero (w : World) (a : Nat) (h : w.heap[a]? = some (.cells #[.pointer none, .int .i64 0, .int .i64 0] 148)) :
    Calls Tryz.prog 107 #[ptr a] w fun e w' => e = .returned (.bool true) ∧ ∃ n, w' = w.drewN n := by
  have c0 : w.cell? ⟨a, 0, none⟩ = some (.pointer none) := by rw [cell_of_heap h]; rfl
  have c1 : w.cell? ⟨a, 1, none⟩ = some (.int .i64 0) := by rw [cell_of_heap h]; rfl
  have HL := hide (fun m => len_nil (w.drewN m))
  clear h
  unfold ptr
  go_enter Tryz.func107, Tryz.ntmps107
  go_wp2_with fail
  go_quiet ((go_at_call 34; exact Calls.quiet_of_same (HL.out _)))
  go_wp2_with fail
  go_ret
  exact ⟨rfl, _, rfl⟩

/-- Nothing, where there is no cell. -/
theorem snext_none (w : World) (v : Value) (hv : v = .pointer none ∨ ∃ a, v = ptr a ∧ w.heap[a]? = some (.cells #[.pointer none, .int .i64 0, .int .i64 0] 148)) :
    Calls Tryz.prog 122 #[v] w fun e w' => e = .returned (.tuple #[.int .i64 0, .bool false]) ∧ ∃ n, w' = w.drewN n := by
  have HN : Hid (Calls Tryz.prog 107 #[v] w fun e w' => e = .returned (.bool true) ∧ ∃ n, w' = w.drewN n) := by
    rcases hv with rfl | ⟨a, rfl, h⟩
    · exact snone_nil w
    · exact snone_zero w a h
  clear hv
  go_enter Tryz.func122, Tryz.ntmps122
  go_wp2_with fail
  refine HN.out.mono ?_
  rintro e w' ⟨rfl, n, rfl⟩
  go_wp2_with fail
  go_ret2
  exact ⟨rfl, _, rfl⟩
theorem sreset_none (w : World) (v r : Value) (hv : v = .pointer none ∨ ∃ a, v = ptr a ∧ w.heap[a]? = some (.cells #[.pointer none, .int .i64 0, .int .i64 0] 148)) :
    Calls Tryz.prog 83 #[v, r] w fun e w' => e = .returned (.tuple #[]) ∧ ∃ n, w' = w.drewN n := by
  have HN : Hid (Calls Tryz.prog 107 #[v] w fun e w' => e = .returned (.bool true) ∧ ∃ n, w' = w.drewN n) := by
    rcases hv with rfl | ⟨a, rfl, h⟩
    · exact snone_nil w
    · exact snone_zero w a h
  clear hv
  go_enter Tryz.func83, Tryz.ntmps83
  go_wp2_with fail
  refine HN.out.mono ?_
  rintro e w' ⟨rfl, n, rfl⟩
  go_wp2_with fail
  first | refine bodyPost_end (results_none rfl _ _ _) rfl ?_ | refine bodyPost_ret (results_none rfl _ _ _) rfl ?_
  exact ⟨rfl, _, rfl⟩

set_option maxRecDepth 100000 in
theorem snext_any (w : World) (a p q : Nat) (l : List Int) (s : Int) (k : Nat) (pt x : Int) (h : Sh w a p q l s k pt) (hx : l[k]? = some x) (hr : 0 ≤ x ∧ x < 1000000000) (hs : 0 ≤ s ∧ s < 1000000000) :
    Calls Tryz.prog 122 #[ptr a] w fun e w' => e = .returned (.tuple #[.int .i64 (if x < pt then x else 0), .bool (decide (x < pt))]) ∧ Sh w' a p q (l.set k (x + 1)) (s + 1) k pt ∧ Turned [p, q] w w' := by
  have HN := hide (snone_any w a p q l s k pt h)
  have HA := hide (fun w' (h' : Sh w' a p q l s k pt) => add_in p q l s w' k x 1 hx h'.mem)
  have e1 : wrap64 (x + 1) = x + 1 := by unfold wrap64; omega
  have e2 : wrap64 (x + 1 - 1) = x := by unfold wrap64; omega
  have e3 : wrap64 (s + 1) = s + 1 := by unfold wrap64; omega
  rw [e1, e2, e3] at HA
  clear e1 e2 e3
  have H := hide h
  clear h hx
  have HL := hide (show (l.set k (x + 1)).length = l.length by simp)
  generalize l.set k (x + 1) = l2 at *
  unfold ptr
  go_enter Tryz.func122, Tryz.ntmps122
  go_wp2_with fail
  refine HN.out.mono ?_
  rintro e w' ⟨rfl, n, hw⟩
  have H1 := hide (show Sh w' a p q l s k pt by rw [hw]; exact H.out.drewN n)
  have T1 := hide (show Turned [p, q] w w' by rw [hw]; exact (Turned.refl _ _).drewN n)
  clear hw HN H
  have c0 := H1.out.c0
  have c1 := H1.out.c1
  go_wp2_with fail
  go_region_held3 (fun w' => w'.cell? ⟨a, 0, none⟩ = some (.pointer (some ⟨p, 0, none⟩)) ∧ w'.cell? ⟨a, 1, none⟩ = some (.int .i64 (k : Int))) (go_keep)
    (first
      | (go_at_call 129; refine (HA.out _ H1.out.drew).mono ?_; rintro e w2 ⟨rfl, m2, t2⟩; have H2 := hide (H1.out.drew.memd t2 m2 HL.out); have T2 := hide (T1.out.drew.trans t2); have i0 := H2.out.c0; have i1 := H2.out.c1; clear m2 t2))
  clear H1 T1 c0 c1 i0 i1
  have i2 := H2.out.c2
  by_cases hp : x < pt
  · have hx0 : ¬ x < 0 := by omega
    have hx1 : ¬ pt ≤ x := by omega
    go_wp2_with fail
    go_ret2
    exact ⟨rfl, H2.out, T2.out⟩
  · have hx0 : ¬ x < 0 := by omega
    have hx1 : pt ≤ x := by omega
    go_wp2_with fail
    go_ret2
    exact ⟨rfl, H2.out, T2.out⟩

theorem gbelow_any (w : World) (x : Int) : Calls Tryz.prog 109 #[.int .i64 x] w fun e w' => e = .returned (.bool (decide (x < 0))) ∧ w' = w := by
  go_enter Tryz.func109, Tryz.ntmps109
  go_wp2_with fail
  go_ret
  exact ⟨rfl, rfl⟩

/-- Is one of these below 0? -/
def anyB (l : List Int) : Bool := l.any (fun x => decide (x < 0))
theorem anyB_snoc (l : List Int) (x : Int) : anyB (l ++ [x]) = (anyB l || decide (x < 0)) := by simp [anyB]

theorem indexF_any (w : World) (ao : Option Addr) (len cap : Nat) (l : List Int) (h : IRd w ao len l) (hb : len ≤ 9223372036854775807) :
    Calls Tryz.prog 120 #[.slice ao len cap, .func (.func 109) #[] #[]] w fun e w' => (∃ y : Int, e = .returned (.int .i64 y) ∧ (anyB l = true ∧ 0 ≤ y ∧ y < 9223372036854775807 ∨ anyB l = false ∧ y = -1)) ∧ w' = w := by
  have HL := hide h.size
  have H := hide h
  clear h
  go_enter Tryz.func120, Tryz.ntmps120
  go_wp2_with fail
  go_loopw [8] (fun i wr => ∃ (j : Nat), j ≤ len ∧ i = .int .i64 j ∧ Hid (anyB (l.take j) = false) ∧ Hid (wr = w)) (fun i _ => len - (intOf i).toNat)
  case atStart => exact ⟨0, Nat.zero_le _, rfl, (show anyB (l.take 0) = false by simp [anyB]), rfl⟩
  case round =>
    obtain ⟨j, hj, rfl, HF, HW⟩ := hrel
    have hW : wr = w := HW.out
    subst hW
    by_cases hlt : j < len
    · obtain ⟨z, hz⟩ : ∃ z, l[j]? = some z := ⟨_, List.getElem?_eq_getElem (by have := HL.out; omega)⟩
      obtain ⟨b, off, rfl, c0⟩ := H.out.cell j z hz
      have HB := hide (gbelow_any wr z)
      by_cases h1 : z < 0
      · have HJ : Hid (anyB l = true) := by
          show anyB l = true
          simp only [anyB, List.any_eq_true]
          exact ⟨z, List.mem_of_getElem? hz, by simpa using h1⟩
        rw [decide_eq_true h1] at HB
        clear hz
        go_wp2_with fail
        refine HB.out.mono ?_
        rintro e w' ⟨rfl, rfl⟩
        go_wp2_with fail
        go_ret
        exact ⟨⟨_, rfl, .inl ⟨HJ.out, by omega, by omega⟩⟩, rfl⟩
      · have HF2 : Hid (anyB (l.take (j + 1)) = false) := by
          show anyB _ = false
          rw [take_snoc hz, anyB_snoc, HF.out]
          simpa using h1
        rw [decide_eq_false h1] at HB
        clear hz HF
        go_wp2_with fail
        refine HB.out.mono ?_
        rintro e w' ⟨rfl, rfl⟩
        go_wp2_with fail
        go_roundw
        case rel => exact ⟨j + 1, by omega, by go_num, HF2, by first | exact rfl | exact trivial⟩
        case measure => simp [intOf]; omega
    · have HJ : Hid (anyB l = false) := by
        have h1 : l.take j = l := List.take_of_length_le (by have := HL.out; omega)
        have h2 := HF.out
        rw [h1] at h2
        exact h2
      go_wp2_with fail
      go_ret
      exact ⟨⟨_, rfl, .inr ⟨HJ.out, rfl⟩⟩, rfl⟩

theorem containsF_any (w : World) (ao : Option Addr) (len cap : Nat) (l : List Int) (h : IRd w ao len l) (hb : len ≤ 9223372036854775807) :
    Calls Tryz.prog 108 #[.slice ao len cap, .func (.func 109) #[] #[]] w fun e w' => e = .returned (.bool (anyB l)) ∧ w' = w := by
  have HI := hide (indexF_any w ao len cap l h hb)
  clear h
  go_enter Tryz.func108, Tryz.ntmps108
  go_wp2_with fail
  refine HI.out.mono ?_
  rintro e w' ⟨⟨y, rfl, hy⟩, rfl⟩
  have HY := hide hy
  clear hy
  by_cases h0 : 0 ≤ y
  · go_wp2_with fail
    go_ret
    refine ⟨?_, rfl⟩
    rcases HY.out with ⟨h1, _⟩ | ⟨_, h1⟩
    · rw [h1]; rfl
    · omega
  · go_wp2_with fail
    go_ret
    refine ⟨?_, rfl⟩
    rcases HY.out with ⟨_, h1, _⟩ | ⟨h1, _⟩
    · omega
    · rw [h1, decide_eq_false (show ¬ 0 ≤ y by omega)]; rfl

end Go.Proofs.YtpeglndlhjnaaaaGreatDoor.Gs

/-
  Reset and NewShare.
-/
namespace Go.Proofs.YtpeglndlhjnaaaaGreatDoor.Gs
open Go.RowKit
set_option linter.unusedVariables false

theorem over_one (l : List Int) (k : Nat) (x : Int) (hk : k < l.length) : over l k [x] = l.set k x := by
  unfold over
  rw [List.set_eq_take_append_cons_drop, if_pos hk]
  simp

/-- Put of one word of a new block. -/
theorem put_one (w : World) (p q : Nat) (l : List Int) (s : Int) (k b d : Nat) (x : Int) (hl : l.length ≤ 65536) (hk : k < l.length) (h : Mem w p q l s) (hc : w.cell? ⟨b, 0, none⟩ = some (.int .i64 x)) :
    Calls Tryz.prog 25 #[.pointer (some ⟨p, 0, none⟩), .int .i64 (k : Int), .slice (some ⟨b, 0, none⟩) 1 d] w fun e w' => e = .returned (.int .i64 0) ∧ Mem w' p q (l.set k x) s ∧ Turned [p, q] w w' := by
  have h1 := put_in p q l s k b 0 d [x] w hl (by simp; omega) (by simp) h (fun j y hy => by
    have hj : j = 0 := by
      have := (List.getElem?_eq_some_iff.1 hy).1
      simp at this
      exact this
    subst hj
    simp at hy
    subst hy
    exact hc)
  rw [over_one l k x hk] at h1
  exact h1

/-- What Reset leaves: so many parts. -/
def resP (pt : Int) (rs : List Int) : Int := rs.getLastD pt

set_option maxRecDepth 100000 in
set_option maxHeartbeats 1000000 in
theorem sreset_any (w : World) (a p q : Nat) (l : List Int) (s : Int) (k : Nat) (pt : Int) (h : Sh w a p q l s k pt) (ao : Option Addr) (len cap : Nat) (rs : List Int) (hr : IRd w ao len rs) (hlen : len ≤ 9223372036854775807) (hb : anyB rs = false) :
    Calls Tryz.prog 83 #[ptr a, .slice ao len cap] w fun e w' => e = .returned (.tuple #[]) ∧ Sh w' a p q (l.set k 0) s k (resP pt rs) ∧ Turned [a, p, q] w w' := by
  have HN := hide (snone_any w a p q l s k pt h)
  have HC := hide (fun n => containsF_any (w.drewN n) ao len cap rs (hr.turned0 ((Turned.refl _ _).drewN n)) hlen)
  rw [hb] at HC
  have H := hide h
  have HR := hide hr
  have hsz := hr.size
  have HL := hide (show (l.set k 0).length = l.length by simp)
  have HP := hide (fun w' b d (h' : Mem w' p q l s) hc => put_one w' p q l s k b d 0 h.most h.lt h' hc)
  clear h hr hb
  generalize l.set k 0 = l2 at *
  have HO := hide (show resP pt rs = rs.getLastD pt from rfl)
  generalize resP pt rs = pt2 at *
  unfold ptr
  go_enter Tryz.func83, Tryz.ntmps83
  go_wp2_with fail
  refine HN.out.mono ?_
  rintro e w1 ⟨rfl, n, hw⟩
  have HC1 := hide (HC.out n)
  have H1 := hide (H.out.drewN n)
  have T1 := hide ((Turned.refl [a, p, q] w).drewN n)
  have R1 := hide (HR.out.turned0 ((Turned.refl _ _).drewN n))
  rw [← hw] at HC1 H1 T1 R1
  clear hw HN H HC HR
  go_wp2_with fail
  refine HC1.out.mono ?_
  rintro e w2 ⟨rfl, rfl⟩
  clear HC1
  have hz0 : len = 0 ∨ 0 < len := by omega
  rcases hz0 with hz0 | hz0
  · have e2 : pt2 = pt := by
      rw [HO.out]
      have : rs = [] := List.eq_nil_of_length_eq_zero (by omega)
      rw [this]; rfl
    subst e2 hz0
    have HM := hide (H1.out.turned0 (((Turned.refl [] w2).alloc (.cells #[.int .i64 0] 2)).drew))
    have TM := hide ((T1.out.alloc (.cells #[.int .i64 0] 2)).drew)
    have CM := hide (show (w2.alloc (.cells #[.int .i64 0] 2)).drew.cell? ⟨w2.heap.size, 0, none⟩ = some (.int .i64 0) from by show (w2.alloc (.cells #[.int .i64 0] 2)).cell? _ = _; rw [cell_of_heap (heap_alloc_new w2 _)]; rfl)
    have c0 := H1.out.c0
    have c1 := H1.out.c1
    go_wp2_with fail
    go_region_held3 (fun w' => w'.cell? ⟨a, 0, none⟩ = some (.pointer (some ⟨p, 0, none⟩)) ∧ w'.cell? ⟨a, 1, none⟩ = some (.int .i64 (k : Int))) (go_keep)
      (first
        | (go_at_call 25; refine (HP.out _ _ _ HM.out.mem CM.out).mono ?_; rintro e w3 ⟨rfl, m3, t3⟩; have H3 := hide (HM.out.memd t3 m3 HL.out); have T3 := hide (TM.out.trans (t3.mono (T := [a, p, q]) (fun j hj => List.mem_cons_of_mem _ hj))); have i0 := H3.out.c0; have i1 := H3.out.c1; clear m3 t3))
    clear H1 HM TM CM HP c0 c1 i0 i1
    go_wp2_with fail
    first | refine bodyPost_end (results_none rfl _ _ _) rfl ?_ | refine bodyPost_ret (results_none rfl _ _ _) rfl ?_
    exact ⟨rfl, H3.out, T3.out⟩
  · obtain ⟨z, hz⟩ : ∃ z, rs[len - 1]? = some z := ⟨_, List.getElem?_eq_getElem (by omega)⟩
    have e2 : pt2 = z := by
      rw [HO.out, List.getLastD_eq_getLast?, List.getLast?_eq_getElem?, hsz, hz]; rfl
    subst e2
    obtain ⟨g, off, rfl, cz⟩ := R1.out.cell (len - 1) pt2 hz
    have cz2 : w2.cell? ⟨g, off + ((len : Int) - 1).toNat, none⟩ = some (.int .i64 pt2) := by rw [show ((len : Int) - 1).toNat = len - 1 by omega]; exact cz
    have f2 := H1.out.f 2
    have k2 := H1.out.c2
    clear hz
    have HX := hide (H1.out.parts pt2)
    have TX := hide (T1.out.setCell (p := ⟨a, 2, none⟩) (.inl (by simp)) (.int .i64 pt2))
    go_wp2_with fail
    generalize w2.setCell ⟨a, 2, none⟩ (.int .i64 pt2) = w2 at *
    clear H1 T1 cz cz2 f2 k2 R1
    have H1 := HX
    have T1 := TX
    clear HX TX
    have HM := hide (H1.out.turned0 (((Turned.refl [] w2).alloc (.cells #[.int .i64 0] 2)).drew))
    have TM := hide ((T1.out.alloc (.cells #[.int .i64 0] 2)).drew)
    have CM := hide (show (w2.alloc (.cells #[.int .i64 0] 2)).drew.cell? ⟨w2.heap.size, 0, none⟩ = some (.int .i64 0) from by show (w2.alloc (.cells #[.int .i64 0] 2)).cell? _ = _; rw [cell_of_heap (heap_alloc_new w2 _)]; rfl)
    have c0 := H1.out.c0
    have c1 := H1.out.c1
    go_region_held3 (fun w' => w'.cell? ⟨a, 0, none⟩ = some (.pointer (some ⟨p, 0, none⟩)) ∧ w'.cell? ⟨a, 1, none⟩ = some (.int .i64 (k : Int))) (go_keep)
      (first
        | (go_at_call 25; refine (HP.out _ _ _ HM.out.mem CM.out).mono ?_; rintro e w3 ⟨rfl, m3, t3⟩; have H3 := hide (HM.out.memd t3 m3 HL.out); have T3 := hide (TM.out.trans (t3.mono (T := [a, p, q]) (fun j hj => List.mem_cons_of_mem _ hj))); have i0 := H3.out.c0; have i1 := H3.out.c1; clear m3 t3))
    clear H1 HM TM CM HP c0 c1 i0 i1
    go_wp2_with fail
    first | refine bodyPost_end (results_none rfl _ _ _) rfl ?_ | refine bodyPost_ret (results_none rfl _ _ _) rfl ?_
    exact ⟨rfl, H3.out, T3.out⟩

/-- One is below 0: nothing changes. -/
theorem sreset_low (w : World) (a p q : Nat) (l : List Int) (s : Int) (k : Nat) (pt : Int) (h : Sh w a p q l s k pt) (ao : Option Addr) (len cap : Nat) (rs : List Int) (hr : IRd w ao len rs) (hlen : len ≤ 9223372036854775807) (hb : anyB rs = true) :
    Calls Tryz.prog 83 #[ptr a, .slice ao len cap] w fun e w' => e = .returned (.tuple #[]) ∧ Sh w' a p q l s k pt ∧ Turned [] w w' := by
  have HN := hide (snone_any w a p q l s k pt h)
  have HC := hide (fun n => containsF_any (w.drewN n) ao len cap rs (hr.turned0 ((Turned.refl _ _).drewN n)) hlen)
  rw [hb] at HC
  have H := hide h
  clear h hr hb
  unfold ptr
  go_enter Tryz.func83, Tryz.ntmps83
  go_wp2_with fail
  refine HN.out.mono ?_
  rintro e w1 ⟨rfl, n, hw⟩
  have HC1 := hide (HC.out n)
  have H1 := hide (H.out.drewN n)
  have T1 := hide ((Turned.refl [] w).drewN n)
  rw [← hw] at HC1 H1 T1
  clear hw HN H HC
  go_wp2_with fail
  refine HC1.out.mono ?_
  rintro e w2 ⟨rfl, rfl⟩
  clear HC1
  go_wp2_with fail
  first | refine bodyPost_end (results_none rfl _ _ _) rfl ?_ | refine bodyPost_ret (results_none rfl _ _ _) rfl ?_
  exact ⟨rfl, H1.out, T1.out⟩

theorem snew_low (w : World) (p q : Nat) (l : List Int) (s : Int) (k : Nat) (pt : Int) (h : Mem w p q l s) (hk : k < l.length) (hl : l.length ≤ 65536) (hp : pt < 0) :
    Calls Tryz.prog 36 #[ptr p, .int .i64 (k : Int), .int .i64 pt] w fun e w' => e = .returned (.tuple #[.pointer none, .int .i64 1]) ∧ w' = w := by
  have HL := hide (len_mem p q l s w h)
  have hd : ¬ (l.length : Int) ≤ k := by omega
  generalize l.length = n at *
  clear h
  unfold ptr
  go_enter Tryz.func36, Tryz.ntmps36
  go_wp2_with fail
  refine HL.out.mono ?_
  rintro e w' ⟨rfl, rfl⟩
  go_wp2_with fail
  go_ret2
  exact ⟨rfl, rfl⟩
theorem snew_nil (w : World) (k : Nat) (hk : k ≤ 65536) (pt : Int) :
    Calls Tryz.prog 36 #[.pointer none, .int .i64 (k : Int), .int .i64 pt] w fun e w' => e = .returned (.tuple #[.pointer none, .int .i64 1]) ∧ w' = w := by
  have HL := hide (len_nil w)
  go_enter Tryz.func36, Tryz.ntmps36
  go_wp2_with fail
  refine HL.out.mono ?_
  rintro e w' ⟨rfl, rfl⟩
  go_wp2_with fail
  go_ret2
  exact ⟨rfl, rfl⟩

set_option maxRecDepth 100000 in
theorem snew_ok (w : World) (p q : Nat) (l : List Int) (s : Int) (k : Nat) (pt : Int) (h : Mem w p q l s) (hk : k < l.length) (hl : l.length ≤ 65536) (hp : 0 ≤ pt) :
    Calls Tryz.prog 36 #[ptr p, .int .i64 (k : Int), .int .i64 pt] w fun e w' => e = .returned (.tuple #[ptr w.heap.size, .int .i64 0]) ∧ Sh w' w.heap.size p q (l.set k 0) s k pt ∧ Turned [p, q] w w' := by
  have HL := hide (len_mem p q l s w h)
  have hd : ¬ (l.length : Int) ≤ k := by omega
  have HS := hide (show Sh (w.alloc (.cells #[ptr p, .int .i64 (k : Int), .int .i64 pt] 148)) w.heap.size p q l s k pt from
    ⟨h.alloc _, by have := h.ltp; omega, by have := h.ltq; omega, hk, hl, heap_alloc_new w _⟩)
  have HR := hide (sreset_any _ w.heap.size p q l s k pt HS.out none 0 0 [] (IRd.nil _ _) (by omega) rfl)
  have HT := hide ((Turned.refl [p, q] w).alloc (.cells #[ptr p, .int .i64 (k : Int), .int .i64 pt] 148))
  generalize hn : l.length = n at *
  clear h hn HS
  unfold ptr at *
  go_enter Tryz.func36, Tryz.ntmps36
  go_wp2_with fail
  refine HL.out.mono ?_
  rintro e w' ⟨rfl, rfl⟩
  go_wp2_with fail
  refine HR.out.mono ?_
  rintro e w2 ⟨rfl, h2, t2⟩
  have H2 := hide h2
  have T2 := hide (HT.out.trans_new t2 (fun i hi => by
    simp only [List.mem_cons, List.not_mem_nil, or_false] at hi ⊢
    rcases hi with rfl | rfl | rfl
    · exact .inr (Nat.le_refl _)
    · exact .inl (.inl rfl)
    · exact .inl (.inr rfl)))
  clear h2 t2
  go_wp2_with fail
  go_ret2
  exact ⟨rfl, H2.out, T2.out⟩
end Go.Proofs.YtpeglndlhjnaaaaGreatDoor.Gs

/-
  Texts of the proof, several in one: MarkTells, MarkBad.
-/
import Derived.Test.YthpjlhfijkeciaaGreatDoorPack28
import Derived.Test.YthpjlhfijkeciaaGreatDoorPack27
/-
  What a marker of package mark tells: Fault, Done, Seen.
-/
namespace Go.Proofs.YthpjlhfijkeciaaGreatDoor
open Go.RowKit
set_option linter.unusedVariables false

/-- Have the first j ended? -/
def allE (S : MS) : Nat → Bool
  | 0 => true
  | j + 1 => allE S j && (S.X j).ended

section
variable (P : MP) (I : Ids) (w0 w : World) (ds ws : List Nat) (S : MS) (Bs : Nat → List Nat)

theorem mfault_any (h : Mk P I w0 w ds ws S Bs) (m : Nat) :
    Calls Tryz.prog 26 #[.pointer (some ⟨I.M, 0, none⟩)] (w.drewN m) fun e w' => e = .returned (.int .i64 S.fault) ∧ w' = w.drewN m := by
  have HN := hide (none_false P I w0 w ds ws S Bs h m)
  have g5 : (w.drewN m).cell? ⟨I.M, 5, none⟩ = some (.int .i64 S.fault) := h.mkr.f 5
  clear h
  generalize w.drewN m = wm at *
  go_enter Tryz.func26, Tryz.ntmps26
  go_wp2_with fail
  refine HN.out.mono ?_
  rintro e w1 ⟨rfl, hw1⟩
  rw [hw1]
  clear hw1 w1
  go_wp2_with fail
  go_ret
  exact ⟨rfl, rfl⟩

theorem goes_any (b : Nat) (en : Bool) (wm : World) (f : wm.cell? ⟨b, 15, none⟩ = some (.bool en)) :
    Calls Tryz.prog 47 #[.pointer (some ⟨b, 0, none⟩)] wm fun e w' => e = .returned (.bool (!en)) ∧ w' = wm := by
  go_enter Tryz.func47, Tryz.ntmps47
  go_wp2_with fail
  go_ret
  exact ⟨rfl, rfl⟩

theorem Mk.cell15 {P : MP} {I : Ids} {w0 w : World} {ds ws : List Nat} {S : MS} {Bs : Nat → List Nat} (h : Mk P I w0 w ds ws S Bs) {i b : Nat} (hb : ws[i]? = some b) (m : Nat) : (w.drewN m).cell? ⟨I.gw, i, none⟩ = some (.pointer (some ⟨b, 0, none⟩)) ∧ (w.drewN m).cell? ⟨b, 15, none⟩ = some (.bool (S.X i).ended) ∧ (w.drewN m).cell? ⟨b, 14, none⟩ = some (.int .i64 (S.X i).seen) := by
  refine ⟨h.rows i b hb, ?_⟩
  obtain ⟨gd, cd, hv, kv, pv, gh, gp, O, nx, bl, asked, po, item, pf, hW⟩ := h.wk i b hb
  exact ⟨hW.raw.f 15, hW.raw.f 14⟩

set_option maxRecDepth 100000 in
theorem indexW_any (h : Mk P I w0 w ds ws S Bs) (m cap : Nat) :
    Calls Tryz.prog 64 #[.slice (some ⟨I.gw, 0, none⟩) P.n cap, .func (.func 47) #[] #[]] (w.drewN m) fun e w' => (∃ y : Int, e = .returned (.int .i64 y) ∧ (allE S P.n = false ∧ 0 ≤ y ∨ allE S P.n = true ∧ y = -1)) ∧ w' = w.drewN m := by
  have hn := h.n
  have hn4 : P.n ≤ 4 := by omega
  have HC : Hid (∀ i, i < P.n → ∃ b, (w.drewN m).cell? ⟨I.gw, i, none⟩ = some (.pointer (some ⟨b, 0, none⟩)) ∧ (w.drewN m).cell? ⟨b, 15, none⟩ = some (.bool (S.X i).ended)) := fun i hi => by
    obtain ⟨b, hb⟩ : ∃ b, ws[i]? = some b := ⟨ws[i]'(by omega), by simp⟩
    have := h.cell15 hb m
    exact ⟨b, this.1, this.2.1⟩
  have HA : Hid (∀ j, j < P.n → allE S j = true → (S.X j).ended = false → allE S P.n = false) := by
    intro j hj h1 h2
    have key : ∀ d, allE S (j + 1 + d) = false := fun d => by
      induction d with
      | zero => show (allE S j && (S.X j).ended) = false; rw [h2]; simp
      | succ d ih => show (allE S (j + 1 + d) && (S.X (j + 1 + d)).ended) = false; rw [ih]; rfl
    have := key (P.n - (j + 1))
    rwa [show j + 1 + (P.n - (j + 1)) = P.n by omega] at this
  clear h hn
  generalize P.n = n at *
  generalize w.drewN m = wm at *
  go_enter Tryz.func64, Tryz.ntmps64
  go_wp2_with fail
  go_loopw [8] (fun i wr => ∃ (j : Nat), j ≤ n ∧ i = .int .i64 j ∧ Hid (allE S j = true) ∧ Hid (wr = wm)) (fun i _ => n - (intOf i).toNat)
  case atStart => exact ⟨0, Nat.zero_le _, rfl, (show allE S 0 = true from rfl), rfl⟩
  case round =>
    obtain ⟨j, hj, rfl, HF, HW⟩ := hrel
    have hW : wr = wm := HW.out
    subst hW
    by_cases hlt : j < n
    · obtain ⟨b, c0, c1⟩ := HC.out j hlt
      cases he : (S.X j).ended
      · rw [he] at c1
        have HJ := hide (HA.out j hlt HF.out he)
        have HB := hide (goes_any b false wr c1)
        clear c1 HC HA HF
        go_wp2_with fail
        refine HB.out.mono ?_
        rintro e w' ⟨rfl, rfl⟩
        go_wp2_with fail
        go_ret
        exact ⟨⟨_, rfl, .inl ⟨HJ.out, by omega⟩⟩, rfl⟩
      · rw [he] at c1
        have HF2 : Hid (allE S (j + 1) = true) := by
          show (allE S j && (S.X j).ended) = true
          rw [HF.out, he]
          rfl
        have HB := hide (goes_any b true wr c1)
        clear c1 HA HF
        go_wp2_with fail
        refine HB.out.mono ?_
        rintro e w' ⟨rfl, rfl⟩
        go_wp2_with fail
        go_roundw
        case rel => exact ⟨j + 1, by omega, by go_num, HF2, hide trivial⟩
        case measure => simp [intOf]; omega
    · have hjn : j = n := by omega
      subst hjn
      go_wp2_with fail
      go_ret
      exact ⟨⟨_, rfl, .inr ⟨HF.out, rfl⟩⟩, rfl⟩

theorem containsW_any (h : Mk P I w0 w ds ws S Bs) (m cap : Nat) :
    Calls Tryz.prog 46 #[.slice (some ⟨I.gw, 0, none⟩) P.n cap, .func (.func 47) #[] #[]] (w.drewN m) fun e w' => e = .returned (.bool (!allE S P.n)) ∧ w' = w.drewN m := by
  have HI := hide (indexW_any P I w0 w ds ws S Bs h m cap)
  clear h
  generalize allE S P.n = q at *
  generalize P.n = n at *
  generalize w.drewN m = wm at *
  go_enter Tryz.func46, Tryz.ntmps46
  go_wp2_with fail
  refine HI.out.mono ?_
  rintro e w1 ⟨⟨y, rfl, hy⟩, hw1⟩
  rw [hw1]
  clear hw1 w1 HI
  rcases hy with ⟨rfl, h0⟩ | ⟨rfl, rfl⟩
  · go_wp2_with fail
    go_ret
    first | exact ⟨rfl, rfl⟩ | exact ⟨by simp [h0], rfl⟩
  · go_wp2_with fail
    go_ret
    exact ⟨rfl, rfl⟩

theorem mdone_any (h : Mk P I w0 w ds ws S Bs) (m : Nat) :
    Calls Tryz.prog 24 #[.pointer (some ⟨I.M, 0, none⟩)] (w.drewN m) fun e w' => e = .returned (.bool (allE S P.n)) ∧ w' = w.drewN m := by
  have HN := hide (none_false P I w0 w ds ws S Bs h m)
  have HC := hide (containsW_any P I w0 w ds ws S Bs h m I.cw)
  have g3 : (w.drewN m).cell? ⟨I.M, 3, none⟩ = some (.slice (some ⟨I.gw, 0, none⟩) I.n I.cw) := h.mkr.f 3
  have hIn : I.n = P.n := h.n.2.2.2.2
  rw [hIn] at g3
  clear h hIn
  generalize allE S P.n = q at *
  generalize P.n = n at *
  generalize w.drewN m = wm at *
  go_enter Tryz.func24, Tryz.ntmps24
  go_wp2_with fail
  refine HN.out.mono ?_
  rintro e w1 ⟨rfl, hw1⟩
  rw [hw1]
  clear hw1 w1 HN
  go_wp2_with fail
  refine HC.out.mono ?_
  rintro e w1 ⟨rfl, hw1⟩
  rw [hw1]
  clear hw1 w1 HC
  go_wp2_with fail
  go_ret
  cases q <;> exact ⟨rfl, rfl⟩

set_option maxRecDepth 100000 in
/-- A row of its own, of what each worker has scanned. -/
theorem mseen_any (h : Mk P I w0 w ds ws S Bs) :
    Calls Tryz.prog 25 #[.pointer (some ⟨I.M, 0, none⟩)] w fun e w' => ∃ g c, e = .returned (.slice (some ⟨g, 0, none⟩) P.n P.n) ∧ w.heap.size ≤ g ∧ w'.heap[g]? = some (.cells c 3 (0, 0)) ∧ c.size = P.n ∧ (∀ i : Nat, i < P.n → c[i]? = some (.int .i64 (S.X i).seen)) ∧ Turned [] w w' := by
  have hn := h.n
  have hn4 : P.n ≤ 4 := by omega
  have HN := hide (none_false P I w0 w ds ws S Bs h 0)
  rw [drewN_zero] at HN
  have g3 : w.cell? ⟨I.M, 3, none⟩ = some (.slice (some ⟨I.gw, 0, none⟩) I.n I.cw) := h.mkr.f 3
  have hIn : I.n = P.n := h.n.2.2.2.2
  rw [hIn] at g3
  have HC : Hid (∀ wr, Turned [] w wr → ∀ i, i < P.n → ∃ b, wr.cell? ⟨I.gw, i, none⟩ = some (.pointer (some ⟨b, 0, none⟩)) ∧ wr.cell? ⟨b, 14, none⟩ = some (.int .i64 (S.X i).seen) ∧ b < w.heap.size ∧ I.gw < w.heap.size) := fun wr t i hi => by
    obtain ⟨b, hb⟩ : ∃ b, ws[i]? = some b := ⟨ws[i]'(by omega), by simp⟩
    have h1 := h.cell15 hb 0
    rw [drewN_zero] at h1
    have l1 := block_lt h1.1
    have l2 := block_lt h1.2.2
    exact ⟨b, by rw [t.cell l1 (by simp)]; exact h1.1, by rw [t.cell l2 (by simp)]; exact h1.2.2, l2, l1⟩
  have lM : I.M < w.heap.size := lt_of_heap h.mkr
  have hmk := run_make_row' (P := Tryz.prog) 25 3 (.int .i64 0) 8 Tryz.underlying25 Tryz.infoInt rfl .i64 .i64 P.n (by omega) (by omega)
  clear h hn hIn
  generalize P.n = n at *
  go_enter Tryz.func25, Tryz.ntmps25
  go_wp2_with fail
  refine HN.out.mono ?_
  rintro e w1 ⟨rfl, hw1⟩
  rw [hw1]
  clear hw1 w1 HN
  have HT2 := hide ((Turned.refl [] w).alloc (.cells (madeCells #[.int .i64 0] n) 3))
  have HB : Hid ((w.alloc (.cells (madeCells #[.int .i64 0] n) 3)).heap[w.heap.size]? = some (.cells (madeCells #[.int .i64 0] n) 3 (0, 0))) := heap_alloc_new _ _
  have HZ : Hid ((madeCells #[Value.int .i64 0] n).size = n) := by show _ = _; simp [madeCells]
  go_wp2_with fail
  generalize hg : w.heap.size = g at *
  have HG := hide (Nat.le_of_eq hg)
  clear hmk hg
  go_loopw [19] (fun i wr => ∃ (j : Nat) (c : Array Value), j ≤ n ∧ i = .int .i64 j ∧ Hid (wr.heap[g]? = some (.cells c 3 (0, 0)) ∧ c.size = n ∧ ∀ i : Nat, i < j → c[i]? = some (.int .i64 (S.X i).seen)) ∧ Hid (Turned [] w wr)) (fun i _ => n - (intOf i).toNat)
  case atStart => exact ⟨0, _, Nat.zero_le _, rfl, ⟨HB.out, HZ.out, fun i hi => by omega⟩, HT2⟩
  case round =>
    obtain ⟨j, c, hj, rfl, HI, HTr⟩ := hrel
    by_cases hlt : j < n
    · obtain ⟨b, c0, c1, lb, lg⟩ := HC.out wr HTr.out j hlt
      have hc := HI.out.1
      have hcell : wr.cell? ⟨g, j, none⟩ = some (c[j]'(by have := HI.out.2.1; omega)) := by rw [cell_of_heap hc, Array.getElem?_eq_getElem]
      have hfz : wr.frozen? ⟨g, j, none⟩ = false := by simp [World.frozen?, hc]
      generalize c[j]'(by have := HI.out.2.1; omega) = u at *
      have HI2 : Hid ((wr.setCell ⟨g, j, none⟩ (.int .i64 (S.X j).seen)).heap[g]? = some (.cells (c.setIfInBounds j (.int .i64 (S.X j).seen)) 3 (0, 0)) ∧ (c.setIfInBounds j (.int .i64 (S.X j).seen)).size = n ∧ ∀ i : Nat, i < j + 1 → (c.setIfInBounds j (.int .i64 (S.X j).seen))[i]? = some (.int .i64 (S.X i).seen)) := by
        refine ⟨heap_setCell_at _ _ _ _ _ _ hc _, by simp [HI.out.2.1], fun i hi => ?_⟩
        by_cases he : i = j
        · subst he
          rw [Array.getElem?_setIfInBounds_self_of_lt (by have := HI.out.2.1; omega)]
        · rw [Array.getElem?_setIfInBounds_ne (by omega)]
          exact HI.out.2.2 i (by omega)
      have HT3 := hide (HTr.out.setCell (p := ⟨g, j, none⟩) (.inr HG.out) (.int .i64 (S.X j).seen))
      clear hc HI HTr
      go_wp2_with fail
      go_roundw
      case rel => exact ⟨j + 1, _, by omega, by go_num, HI2, HT3⟩
      case measure => simp [intOf]; omega
    · have hjm : j = n := by omega
      subst hjm
      go_wp2_with fail
      go_ret
      exact ⟨g, c, rfl, HG.out, HI.out.1, HI.out.2.1, HI.out.2.2, HTr.out⟩
end
end Go.Proofs.YthpjlhfijkeciaaGreatDoor

/-
  New of package mark where it may not be, and what a nil marker tells.
-/
namespace Go.Proofs.YthpjlhfijkeciaaGreatDoor
open Go.RowKit
set_option linter.unusedVariables false

/-- New without a heap. -/
theorem mnew_nil (n cap over : Nat) (hn : 1 ≤ n ∧ n ≤ 64) (hc : 1 ≤ cap ∧ cap ≤ 64) (ho : over ≤ 4096) (cv : Value) (bo po : Option Addr) (w : World) :
    Calls Tryz.prog 30 #[.pointer none, cv, .pointer bo, .pointer po, .int .i64 n, .int .i64 cap, .int .i64 over] w fun e w' => e = .returned (.tuple #[.pointer none, .int .i64 1]) ∧ w' = w := by
  have HN := hide (mneed_ok n cap over hn hc ho w)
  have hNz : ¬ (((1 + n * (4 + cap + over) : Nat) : Int) = 0) := by omega
  generalize ((1 + n * (4 + cap + over) : Nat) : Int) = N at *
  clear hn hc ho
  go_enter Tryz.func30, Tryz.ntmps30
  go_wp2_with fail
  refine HN.out.mono ?_
  rintro e w1 ⟨rfl, hw1⟩
  rw [hw1]
  clear hw1 w1 HN
  go_wp2_with fail
  go_ret2
  exact ⟨rfl, rfl⟩
/-- New with bits that don't fit the heap. -/
theorem mnew_words (n cap over : Nat) (hn : 1 ≤ n ∧ n ≤ 64) (hc : 1 ≤ cap ∧ cap ≤ 64) (ho : over ≤ 4096) (cv : Value) (ph qh : Nat) (hw : List Int) (hs : Int) (bo po : Option Addr) (bw : Nat) (F : Nat → Nat → Bool) (w : World) (hm : Mem w ph qh hw hs) (hb : Bt.Brd w bo bw F) (hne : bw ≠ hw.length) :
    Calls Tryz.prog 30 #[.pointer (some ⟨ph, 0, none⟩), cv, .pointer bo, .pointer po, .int .i64 n, .int .i64 cap, .int .i64 over] w fun e w' => e = .returned (.tuple #[.pointer none, .int .i64 1]) ∧ w' = w := by
  have HN := hide (mneed_ok n cap over hn hc ho w)
  have HW := hide (Bt.words_any _ _ _ w hb)
  have HL1 := hide (len_mem ph qh hw hs w hm)
  have hNz : ¬ (((1 + n * (4 + cap + over) : Nat) : Int) = 0) := by omega
  have hneq : ¬ ((bw : Int) = (hw.length : Int)) := by omega
  generalize ((1 + n * (4 + cap + over) : Nat) : Int) = N at *
  generalize (bw : Int) = b1 at *
  generalize (hw.length : Int) = b2 at *
  clear hn hc ho hm hb hne
  go_enter Tryz.func30, Tryz.ntmps30
  go_wp2_with fail
  refine HN.out.mono ?_
  rintro e w1 ⟨rfl, hw1⟩
  rw [hw1]
  clear hw1 w1 HN
  go_wp2_with fail
  refine HW.out.mono ?_
  rintro e w1 ⟨rfl, hw1⟩
  rw [hw1]
  clear hw1 w1 HW
  go_wp2_with fail
  refine HL1.out.mono ?_
  rintro e w1 ⟨rfl, hw1⟩
  rw [hw1]
  clear hw1 w1 HL1
  go_wp2_with fail
  go_ret2
  exact ⟨rfl, rfl⟩
/-- New with a control that is too short. -/
theorem mnew_short (n cap over : Nat) (hn : 1 ≤ n ∧ n ≤ 64) (hc : 1 ≤ cap ∧ cap ≤ 64) (ho : over ≤ 4096) (cv : Value) (ph qh p q : Nat) (hw l : List Int) (hs cs : Int) (bo : Option Addr) (F : Nat → Nat → Bool) (w : World) (hm : Mem w ph qh hw hs) (hb : Bt.Brd w bo hw.length F) (hmc : Mem w p q l cs) (hl : l.length < 1 + n * (4 + cap + over)) :
    Calls Tryz.prog 30 #[.pointer (some ⟨ph, 0, none⟩), cv, .pointer bo, .pointer (some ⟨p, 0, none⟩), .int .i64 n, .int .i64 cap, .int .i64 over] w fun e w' => e = .returned (.tuple #[.pointer none, .int .i64 1]) ∧ w' = w := by
  have HN := hide (mneed_ok n cap over hn hc ho w)
  have HW := hide (Bt.words_any _ _ _ w hb)
  have HL1 := hide (len_mem ph qh hw hs w hm)
  have HL2 := hide (len_mem p q l cs w hmc)
  have hNz : ¬ (((1 + n * (4 + cap + over) : Nat) : Int) = 0) := by omega
  have hlt : (l.length : Int) < ((1 + n * (4 + cap + over) : Nat) : Int) := by omega
  generalize ((1 + n * (4 + cap + over) : Nat) : Int) = N at *
  generalize (l.length : Int) = b1 at *
  generalize (hw.length : Int) = b2 at *
  clear hn hc ho hm hb hmc hl
  go_enter Tryz.func30, Tryz.ntmps30
  go_wp2_with fail
  refine HN.out.mono ?_
  rintro e w1 ⟨rfl, hw1⟩
  rw [hw1]
  clear hw1 w1 HN
  go_wp2_with fail
  refine HW.out.mono ?_
  rintro e w1 ⟨rfl, hw1⟩
  rw [hw1]
  clear hw1 w1 HW
  go_wp2_with fail
  refine HL1.out.mono ?_
  rintro e w1 ⟨rfl, hw1⟩
  rw [hw1]
  clear hw1 w1 HL1
  go_wp2_with fail
  refine HL2.out.mono ?_
  rintro e w1 ⟨rfl, hw1⟩
  rw [hw1]
  clear hw1 w1 HL2
  go_wp2_with fail
  go_ret2
  exact ⟨rfl, rfl⟩

/-- A nil marker. -/
theorem nil_root (w : World) (v : Value) : Calls Tryz.prog 14 #[.pointer none, v] w fun e w' => e = .returned (.tuple #[]) ∧ w' = w := by
  go_enter Tryz.func14, Tryz.ntmps14
  go_wp2_with fail
  refine (none_true _).mono ?_
  rintro e w1 ⟨rfl, hw1⟩
  rw [hw1]
  go_wp2_with fail
  first | refine bodyPost_end (results_none rfl _ _ _) rfl ?_ | refine bodyPost_ret (results_none rfl _ _ _) rfl ?_
  exact ⟨rfl, rfl⟩
theorem nil_step (w : World) (k : Int) : Calls Tryz.prog 17 #[.pointer none, .int .i64 k] w fun e w' => e = .returned (.int .i64 2) ∧ w' = w := by
  go_enter Tryz.func17, Tryz.ntmps17
  go_wp2_with fail
  refine (none_true _).mono ?_
  rintro e w1 ⟨rfl, hw1⟩
  rw [hw1]
  go_wp2_with fail
  go_ret
  exact ⟨rfl, rfl⟩
theorem nil_done (w : World) : Calls Tryz.prog 24 #[.pointer none] w fun e w' => e = .returned (.bool true) ∧ w' = w := by
  go_enter Tryz.func24, Tryz.ntmps24
  go_wp2_with fail
  refine (none_true _).mono ?_
  rintro e w1 ⟨rfl, hw1⟩
  rw [hw1]
  go_wp2_with fail
  go_ret
  exact ⟨rfl, rfl⟩
theorem nil_seen (w : World) : Calls Tryz.prog 25 #[.pointer none] w fun e w' => e = .returned (.slice none 0 0) ∧ w' = w := by
  go_enter Tryz.func25, Tryz.ntmps25
  go_wp2_with fail
  refine (none_true _).mono ?_
  rintro e w1 ⟨rfl, hw1⟩
  rw [hw1]
  go_wp2_with fail
  go_ret
  exact ⟨rfl, rfl⟩
theorem nil_fault (w : World) : Calls Tryz.prog 26 #[.pointer none] w fun e w' => e = .returned (.int .i64 1) ∧ w' = w := by
  go_enter Tryz.func26, Tryz.ntmps26
  go_wp2_with fail
  refine (none_true _).mono ?_
  rintro e w1 ⟨rfl, hw1⟩
  rw [hw1]
  go_wp2_with fail
  go_ret
  exact ⟨rfl, rfl⟩
end Go.Proofs.YthpjlhfijkeciaaGreatDoor

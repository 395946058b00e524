/-
  Texts of the proof, several in one: MarkTells, MarkMore.
-/
import Derived.Test.YtgbclfhgpkmcnaaGreatDoorPack34
/-
  What a marker of package mark tells: Fault, Done, Seen.
-/
namespace Go.Proofs.YtgbclfhgpkmcnaaGreatDoor
open Go.RowKit
set_option linter.unusedVariables false

/-- Have the first j ended? -/
def allE (S : MS) : Nat → Bool
  | 0 => true
  | j + 1 => allE S j && (S.X j).ended

section
variable (P : MP) (I : Ids) (w0 w : World) (ds ws : List Nat) (S : MS) (Bs : Nat → List Nat)

theorem mfault_any (h : Mk P I w0 w ds ws S Bs) (m : Nat) :
    Calls Tryz.prog 26 #[.pointer (some ⟨I.M, 0, none⟩)] (w.drewN m) fun e w' => e = .returned (.int .i64 S.fault) ∧ w' = w.drewN m := by
  have HN := hide (none_false P I w0 w ds ws S Bs h m)
  have g5 : (w.drewN m).cell? ⟨I.M, 5, none⟩ = some (.int .i64 S.fault) := h.mkr.f 5
  clear h
  generalize w.drewN m = wm at *
  go_enter Tryz.func26, Tryz.ntmps26
  go_wp2_with fail
  refine HN.out.mono ?_
  rintro e w1 ⟨rfl, hw1⟩
  rw [hw1]
  clear hw1 w1
  go_wp2_with fail
  go_ret
  exact ⟨rfl, rfl⟩

theorem goes_any (b : Nat) (en : Bool) (wm : World) (f : wm.cell? ⟨b, 15, none⟩ = some (.bool en)) :
    Calls Tryz.prog 47 #[.pointer (some ⟨b, 0, none⟩)] wm fun e w' => e = .returned (.bool (!en)) ∧ w' = wm := by
  go_enter Tryz.func47, Tryz.ntmps47
  go_wp2_with fail
  go_ret
  exact ⟨rfl, rfl⟩

theorem Mk.cell15 {P : MP} {I : Ids} {w0 w : World} {ds ws : List Nat} {S : MS} {Bs : Nat → List Nat} (h : Mk P I w0 w ds ws S Bs) {i b : Nat} (hb : ws[i]? = some b) (m : Nat) : (w.drewN m).cell? ⟨I.gw, i, none⟩ = some (.pointer (some ⟨b, 0, none⟩)) ∧ (w.drewN m).cell? ⟨b, 15, none⟩ = some (.bool (S.X i).ended) ∧ (w.drewN m).cell? ⟨b, 14, none⟩ = some (.int .i64 (S.X i).seen) := by
  refine ⟨h.rows i b hb, ?_⟩
  obtain ⟨gd, cd, hv, kv, pv, gh, gp, O, nx, bl, asked, po, item, pf, hW⟩ := h.wk i b hb
  exact ⟨hW.raw.f 15, hW.raw.f 14⟩

set_option maxRecDepth 100000 in
theorem indexW_any (h : Mk P I w0 w ds ws S Bs) (m cap : Nat) :
    Calls Tryz.prog 64 #[.slice (some ⟨I.gw, 0, none⟩) P.n cap, .func (.func 47) #[] #[]] (w.drewN m) fun e w' => (∃ y : Int, e = .returned (.int .i64 y) ∧ (allE S P.n = false ∧ 0 ≤ y ∨ allE S P.n = true ∧ y = -1)) ∧ w' = w.drewN m := by
  have hn := h.n
  have hn4 : P.n ≤ 4 := by omega
  have HC : Hid (∀ i, i < P.n → ∃ b, (w.drewN m).cell? ⟨I.gw, i, none⟩ = some (.pointer (some ⟨b, 0, none⟩)) ∧ (w.drewN m).cell? ⟨b, 15, none⟩ = some (.bool (S.X i).ended)) := fun i hi => by
    obtain ⟨b, hb⟩ : ∃ b, ws[i]? = some b := ⟨ws[i]'(by omega), by simp⟩
    have := h.cell15 hb m
    exact ⟨b, this.1, this.2.1⟩
  have HA : Hid (∀ j, j < P.n → allE S j = true → (S.X j).ended = false → allE S P.n = false) := by
    intro j hj h1 h2
    have key : ∀ d, allE S (j + 1 + d) = false := fun d => by
      induction d with
      | zero => show (allE S j && (S.X j).ended) = false; rw [h2]; simp
      | succ d ih => show (allE S (j + 1 + d) && (S.X (j + 1 + d)).ended) = false; rw [ih]; rfl
    have := key (P.n - (j + 1))
    rwa [show j + 1 + (P.n - (j + 1)) = P.n by omega] at this
  clear h hn
  generalize P.n = n at *
  generalize w.drewN m = wm at *
  go_enter Tryz.func64, Tryz.ntmps64
  go_wp2_with fail
  go_loopw [8] (fun i wr => ∃ (j : Nat), j ≤ n ∧ i = .int .i64 j ∧ Hid (allE S j = true) ∧ Hid (wr = wm)) (fun i _ => n - (intOf i).toNat)
  case atStart => exact ⟨0, Nat.zero_le _, rfl, (show allE S 0 = true from rfl), rfl⟩
  case round =>
    obtain ⟨j, hj, rfl, HF, HW⟩ := hrel
    have hW : wr = wm := HW.out
    subst hW
    by_cases hlt : j < n
    · obtain ⟨b, c0, c1⟩ := HC.out j hlt
      cases he : (S.X j).ended
      · rw [he] at c1
        have HJ := hide (HA.out j hlt HF.out he)
        have HB := hide (goes_any b false wr c1)
        clear c1 HC HA HF
        go_wp2_with fail
        refine HB.out.mono ?_
        rintro e w' ⟨rfl, rfl⟩
        go_wp2_with fail
        go_ret
        exact ⟨⟨_, rfl, .inl ⟨HJ.out, by omega⟩⟩, rfl⟩
      · rw [he] at c1
        have HF2 : Hid (allE S (j + 1) = true) := by
          show (allE S j && (S.X j).ended) = true
          rw [HF.out, he]
          rfl
        have HB := hide (goes_any b true wr c1)
        clear c1 HA HF
        go_wp2_with fail
        refine HB.out.mono ?_
        rintro e w' ⟨rfl, rfl⟩
        go_wp2_with fail
        go_roundw
        case rel => exact ⟨j + 1, by omega, by go_num, HF2, hide trivial⟩
        case measure => simp [intOf]; omega
    · have hjn : j = n := by omega
      subst hjn
      go_wp2_with fail
      go_ret
      exact ⟨⟨_, rfl, .inr ⟨HF.out, rfl⟩⟩, rfl⟩

theorem containsW_any (h : Mk P I w0 w ds ws S Bs) (m cap : Nat) :
    Calls Tryz.prog 46 #[.slice (some ⟨I.gw, 0, none⟩) P.n cap, .func (.func 47) #[] #[]] (w.drewN m) fun e w' => e = .returned (.bool (!allE S P.n)) ∧ w' = w.drewN m := by
  have HI := hide (indexW_any P I w0 w ds ws S Bs h m cap)
  clear h
  generalize allE S P.n = q at *
  generalize P.n = n at *
  generalize w.drewN m = wm at *
  go_enter Tryz.func46, Tryz.ntmps46
  go_wp2_with fail
  refine HI.out.mono ?_
  rintro e w1 ⟨⟨y, rfl, hy⟩, hw1⟩
  rw [hw1]
  clear hw1 w1 HI
  rcases hy with ⟨rfl, h0⟩ | ⟨rfl, rfl⟩
  · go_wp2_with fail
    go_ret
    first | exact ⟨rfl, rfl⟩ | exact ⟨by simp [h0], rfl⟩
  · go_wp2_with fail
    go_ret
    exact ⟨rfl, rfl⟩

theorem mdone_any (h : Mk P I w0 w ds ws S Bs) (m : Nat) :
    Calls Tryz.prog 24 #[.pointer (some ⟨I.M, 0, none⟩)] (w.drewN m) fun e w' => e = .returned (.bool (allE S P.n)) ∧ w' = w.drewN m := by
  have HN := hide (none_false P I w0 w ds ws S Bs h m)
  have HC := hide (containsW_any P I w0 w ds ws S Bs h m I.cw)
  have g3 : (w.drewN m).cell? ⟨I.M, 3, none⟩ = some (.slice (some ⟨I.gw, 0, none⟩) I.n I.cw) := h.mkr.f 3
  have hIn : I.n = P.n := h.n.2.2.2.2
  rw [hIn] at g3
  clear h hIn
  generalize allE S P.n = q at *
  generalize P.n = n at *
  generalize w.drewN m = wm at *
  go_enter Tryz.func24, Tryz.ntmps24
  go_wp2_with fail
  refine HN.out.mono ?_
  rintro e w1 ⟨rfl, hw1⟩
  rw [hw1]
  clear hw1 w1 HN
  go_wp2_with fail
  refine HC.out.mono ?_
  rintro e w1 ⟨rfl, hw1⟩
  rw [hw1]
  clear hw1 w1 HC
  go_wp2_with fail
  go_ret
  cases q <;> exact ⟨rfl, rfl⟩

set_option maxRecDepth 100000 in
/-- A row of its own, of what each worker has scanned. -/
theorem mseen_any (h : Mk P I w0 w ds ws S Bs) :
    Calls Tryz.prog 25 #[.pointer (some ⟨I.M, 0, none⟩)] w fun e w' => ∃ g c, e = .returned (.slice (some ⟨g, 0, none⟩) P.n P.n) ∧ w.heap.size ≤ g ∧ w'.heap[g]? = some (.cells c 3 (0, 0)) ∧ c.size = P.n ∧ (∀ i : Nat, i < P.n → c[i]? = some (.int .i64 (S.X i).seen)) ∧ Turned [] w w' := by
  have hn := h.n
  have hn4 : P.n ≤ 4 := by omega
  have HN := hide (none_false P I w0 w ds ws S Bs h 0)
  rw [drewN_zero] at HN
  have g3 : w.cell? ⟨I.M, 3, none⟩ = some (.slice (some ⟨I.gw, 0, none⟩) I.n I.cw) := h.mkr.f 3
  have hIn : I.n = P.n := h.n.2.2.2.2
  rw [hIn] at g3
  have HC : Hid (∀ wr, Turned [] w wr → ∀ i, i < P.n → ∃ b, wr.cell? ⟨I.gw, i, none⟩ = some (.pointer (some ⟨b, 0, none⟩)) ∧ wr.cell? ⟨b, 14, none⟩ = some (.int .i64 (S.X i).seen) ∧ b < w.heap.size ∧ I.gw < w.heap.size) := fun wr t i hi => by
    obtain ⟨b, hb⟩ : ∃ b, ws[i]? = some b := ⟨ws[i]'(by omega), by simp⟩
    have h1 := h.cell15 hb 0
    rw [drewN_zero] at h1
    have l1 := block_lt h1.1
    have l2 := block_lt h1.2.2
    exact ⟨b, by rw [t.cell l1 (by simp)]; exact h1.1, by rw [t.cell l2 (by simp)]; exact h1.2.2, l2, l1⟩
  have lM : I.M < w.heap.size := lt_of_heap h.mkr
  have hmk := run_make_row' (P := Tryz.prog) 25 3 (.int .i64 0) 8 Tryz.underlying25 Tryz.infoInt rfl .i64 .i64 P.n (by omega) (by omega)
  clear h hn hIn
  generalize P.n = n at *
  go_enter Tryz.func25, Tryz.ntmps25
  go_wp2_with fail
  refine HN.out.mono ?_
  rintro e w1 ⟨rfl, hw1⟩
  rw [hw1]
  clear hw1 w1 HN
  have HT2 := hide ((Turned.refl [] w).alloc (.cells (madeCells #[.int .i64 0] n) 3))
  have HB : Hid ((w.alloc (.cells (madeCells #[.int .i64 0] n) 3)).heap[w.heap.size]? = some (.cells (madeCells #[.int .i64 0] n) 3 (0, 0))) := heap_alloc_new _ _
  have HZ : Hid ((madeCells #[Value.int .i64 0] n).size = n) := by show _ = _; simp [madeCells]
  go_wp2_with fail
  generalize hg : w.heap.size = g at *
  have HG := hide (Nat.le_of_eq hg)
  clear hmk hg
  go_loopw [19] (fun i wr => ∃ (j : Nat) (c : Array Value), j ≤ n ∧ i = .int .i64 j ∧ Hid (wr.heap[g]? = some (.cells c 3 (0, 0)) ∧ c.size = n ∧ ∀ i : Nat, i < j → c[i]? = some (.int .i64 (S.X i).seen)) ∧ Hid (Turned [] w wr)) (fun i _ => n - (intOf i).toNat)
  case atStart => exact ⟨0, _, Nat.zero_le _, rfl, ⟨HB.out, HZ.out, fun i hi => by omega⟩, HT2⟩
  case round =>
    obtain ⟨j, c, hj, rfl, HI, HTr⟩ := hrel
    by_cases hlt : j < n
    · obtain ⟨b, c0, c1, lb, lg⟩ := HC.out wr HTr.out j hlt
      have hc := HI.out.1
      have hcell : wr.cell? ⟨g, j, none⟩ = some (c[j]'(by have := HI.out.2.1; omega)) := by rw [cell_of_heap hc, Array.getElem?_eq_getElem]
      have hfz : wr.frozen? ⟨g, j, none⟩ = false := by simp [World.frozen?, hc]
      generalize c[j]'(by have := HI.out.2.1; omega) = u at *
      have HI2 : Hid ((wr.setCell ⟨g, j, none⟩ (.int .i64 (S.X j).seen)).heap[g]? = some (.cells (c.setIfInBounds j (.int .i64 (S.X j).seen)) 3 (0, 0)) ∧ (c.setIfInBounds j (.int .i64 (S.X j).seen)).size = n ∧ ∀ i : Nat, i < j + 1 → (c.setIfInBounds j (.int .i64 (S.X j).seen))[i]? = some (.int .i64 (S.X i).seen)) := by
        refine ⟨heap_setCell_at _ _ _ _ _ _ hc _, by simp [HI.out.2.1], fun i hi => ?_⟩
        by_cases he : i = j
        · subst he
          rw [Array.getElem?_setIfInBounds_self_of_lt (by have := HI.out.2.1; omega)]
        · rw [Array.getElem?_setIfInBounds_ne (by omega)]
          exact HI.out.2.2 i (by omega)
      have HT3 := hide (HTr.out.setCell (p := ⟨g, j, none⟩) (.inr HG.out) (.int .i64 (S.X j).seen))
      clear hc HI HTr
      go_wp2_with fail
      go_roundw
      case rel => exact ⟨j + 1, _, by omega, by go_num, HI2, HT3⟩
      case measure => simp [intOf]; omega
    · have hjm : j = n := by omega
      subst hjm
      go_wp2_with fail
      go_ret
      exact ⟨g, c, rfl, HG.out, HI.out.1, HI.out.2.1, HI.out.2.2, HTr.out⟩
end
end Go.Proofs.YtgbclfhgpkmcnaaGreatDoor

/-
  Step of a marker: what lies elsewhere stays.
-/
namespace Go.Proofs.YtgbclfhgpkmcnaaGreatDoor
open Go.RowKit
set_option linter.unusedVariables false
section
variable (P : MP) (I : Ids) (w0 w : World) (ds ws : List Nat) (S : MS) (Bs : Nat → List Nat) (k : Nat)
set_option maxRecDepth 100000 in
set_option maxHeartbeats 2000000 in
theorem mstep_keep (hk : k < P.n) (h : Mk P I w0 w ds ws S Bs) (hm : MayM P S k) :
    Calls Tryz.prog 17 #[.pointer (some ⟨I.M, 0, none⟩), .int .i64 k] w fun e w' => e = .returned (.int .i64 (if ((stepM P S k).X k).ended then 2 else 0)) ∧ ∃ Bs', Mk P I w0 w' ds ws (stepM P S k) Bs' ∧ (∀ i y, y ∈ Bs' i → y ∈ Bs i ∨ w.heap.size ≤ y) ∧ ∃ b, ws[k]? = some b ∧ Turned (I.all b (Bs k)) w w' := by
  have hn := h.n
  obtain ⟨b, hb⟩ : ∃ b, ws[k]? = some b := ⟨ws[k]'(by omega), by simp⟩
  have HN := hide (none_false P I w0 w ds ws S Bs h 0)
  rw [drewN_zero] at HN
  have g3 : w.cell? ⟨I.M, 3, none⟩ = some (.slice (some ⟨I.gw, 0, none⟩) I.n I.cw) := h.mkr.f 3
  have gk := h.rows k b hb
  have hx := h.wk k b hb
  have hC := h.cx hb
  have hraw : ∃ nx c, WmR w b c ∧ c[0]? = some (stpV nx b) ∧ c[15]? = some (.bool (S.X k).ended) := by
    obtain ⟨gd, cd, hv, kv, pv, gh, gp, O, nx, bl, asked, po, item, pf, hW⟩ := hx
    exact ⟨nx, _, hW.raw, rfl, rfl⟩
  obtain ⟨nx, c, hr, hc0, hc15⟩ := hraw
  have f0 : w.cell? ⟨b, 0, none⟩ = some (stpV nx b) := by rw [hr.f]; exact hc0
  have f15 : w.cell? ⟨b, 15, none⟩ = some (.bool (S.X k).ended) := by rw [hr.f]; exact hc15
  have a1 : ¬ ((k : Int) < 0) := by omega
  have a2 : ¬ ((I.n : Int) ≤ (k : Int)) := by omega
  have hIn : I.n ≤ 4 := by omega
  have hkI : k < I.n := by omega
  cases he : (S.X k).ended
  · have HK := hide (wnext_any P I k (rotL ds k) w S b (Bs k) nx hC hx f0 he hm)
    have HU : Hid (∀ w', Out P I k (rotL ds k) w b (Bs k) (stepM P S k) ((stepM P S k).X k) w' → (w'.cell? ⟨b, 15, none⟩ = some (.bool ((stepM P S k).X k).ended)) ∧ ∃ Bs', Mk P I w0 w' ds ws (stepM P S k) Bs' ∧ (∀ i y, y ∈ Bs' i → y ∈ Bs i ∨ w.heap.size ≤ y) ∧ ∃ b, ws[k]? = some b ∧ Turned (I.all b (Bs k)) w w') := by
      intro w' hO
      obtain ⟨Bs2, k1, k2⟩ := h.updB hb hO (stepM_X P S k)
      have k3 : Turned (I.all b (Bs k)) w w' := (by obtain ⟨_, _, _, _, h4⟩ := hO; exact h4)
      refine ⟨?_, Bs2, k1, k2, b, hb, k3⟩
      obtain ⟨B', _, W, _, _⟩ := hO
      obtain ⟨gd, cd, hv, kv, pv, gh, gp, O, nx, bl, asked, po, item, pf, hW⟩ := W
      exact hW.raw.f 15
    rw [he] at f15
    generalize (stepM P S k) = S' at *
    generalize (S'.X k).ended = en at *
    generalize I.n = n at *
    clear h hx hC hr hc0 hc15 hb hn
    cases nx
    all_goals (
      simp only [stpV, MStp.fn] at f0 HK
      go_enter Tryz.func17, Tryz.ntmps17
      go_wp2_with fail
      refine HN.out.mono ?_
      rintro e w1 ⟨rfl, hw1⟩
      rw [hw1]
      clear hw1 w1
      go_wp2_with fail
      refine HK.out.mono ?_
      rintro e w2 ⟨rfl, hO⟩
      obtain ⟨u15, hM⟩ := HU.out w2 hO
      have HM := hide hM
      clear hO hM HU HK HN f0 f15 g3 gk
      cases en
      · go_wp2_with fail
        go_ret
        exact ⟨rfl, HM.out⟩
      · go_wp2_with fail
        go_ret
        exact ⟨rfl, HM.out⟩)
  · have hst : stepM P S k = S := by unfold stepM; rw [if_pos he]
    rw [hst, he]
    rw [he] at f15
    have HM := hide h
    have HBk := hide hb
    generalize I.n = n at *
    clear h hx hC hr hc0 hc15 hb hn f0
    go_enter Tryz.func17, Tryz.ntmps17
    go_wp2_with fail
    refine HN.out.mono ?_
    rintro e w1 ⟨rfl, hw1⟩
    rw [hw1]
    clear hw1 w1
    go_wp2_with fail
    go_ret
    exact ⟨rfl, _, HM.out, fun i y hy => .inl hy, b, HBk.out, Turned.refl _ _⟩
end
/-- A store into an array variable of four bools changes nothing of a marker. -/
theorem Mk.boolSet {P : MP} {I : Ids} {w0 w : World} {ds ws : List Nat} {S : MS} {Bs : Nat → List Nat} (h : Mk P I w0 w ds ws S Bs) {x : Nat} {c : Array Value} (hx : w.heap[x]? = some (.cells c 60)) (hlo : w0.heap.size ≤ x) (i : Nat) (v : Value) : Mk P I w0 (w.setCell ⟨x, i, none⟩ v) ds ws S Bs := by
  have t : Turned [x] w (w.setCell ⟨x, i, none⟩ v) := (Turned.refl _ _).setCell (by simp) _
  have oM : ∀ e, 60 ≠ e → Off w [x] e := fun e he => Off.one hx he
  obtain ⟨cr, fr, hr⟩ := h.row
  have hM0 : 0 ∉ [x] := by
    have := h.lo.1
    simp
    omega
  have hg := (oM 77 (by decide)).not hr
  refine ⟨h.tu.trans_new t (fun y hy => by simp at hy; subst hy; exact .inr hlo), h.n, ⟨cr, fr, t.at hr hg⟩, fun i b hb => by rw [t.cell (p := ⟨I.gw, i, none⟩) (lt_of_heap hr) hg]; exact h.rows i b hb, t.at h.mkr ((oM _ (by decide)).not h.mkr), h.hm.turned t ((oM _ (by decide)).not h.hm.head) ((oM _ (by decide)).not h.hm.row), h.hl, h.cl.off t (oM _ (by decide)), Bts.off h.bt t (oM _ (by decide)) (oM _ (by decide)) hM0, h.bl, h.sh.off t (oM _ (by decide)) (oM _ (by decide)) ((oM _ (by decide)).not h.sh.mem.head) ((oM _ (by decide)).not h.sh.mem.row), fun i b hb => ?_, h.nd, h.ap, h.nq, h.lo⟩
  obtain ⟨cb, hcb⟩ : ∃ cc, WmR w b cc := by
    obtain ⟨gd, cd, hv, kv, pv, gh, gp, O, nx, bl, asked, po, item, pf, hW⟩ := h.wk i b hb
    exact ⟨_, hW.raw⟩
  refine (h.wk i b hb).keep t ((oM _ (by decide)).not hcb) (fun y hy => ?_) (oM _ (by decide))
  obtain ⟨c2, e2, fr2, g1, g2⟩ := (h.wk i b hb).types y hy
  refine (oM e2 ?_).not g1
  rcases g2 with rfl | rfl | rfl | rfl | rfl <;> decide

/-- A marker, and an array variable of four bools. -/
structure MkE (P : MP) (I : Ids) (w0 w : World) (ds ws : List Nat) (S : MS) (x : Nat) (E : Nat → Bool) : Prop where
  all : ∃ Bs, Mk P I w0 w ds ws S Bs
  arr : ∃ c : Array Value, w.heap[x]? = some (.cells c 60) ∧ ∀ i, i < 4 → c[i]? = some (.bool (E i))
  lo : w0.heap.size ≤ x
  five : x ∉ I.five
section
variable {P : MP} {I : Ids} {w0 w w' : World} {ds ws : List Nat} {S : MS} {x : Nat} {E : Nat → Bool}
theorem MkE.lt (h : MkE P I w0 w ds ws S x E) : x < w.heap.size := by obtain ⟨c, h1, _⟩ := h.arr; exact lt_of_heap h1
theorem MkE.cell (h : MkE P I w0 w ds ws S x E) {i : Nat} (hi : i < 4) : w.cell? ⟨x, i, none⟩ = some (.bool (E i)) := by
  obtain ⟨c, h1, h2⟩ := h.arr
  rw [cell_of_heap h1, h2 i hi]
theorem MkE.fz (h : MkE P I w0 w ds ws S x E) (i : Nat) : w.frozen? ⟨x, i, none⟩ = false := by
  obtain ⟨c, h1, _⟩ := h.arr
  simp [World.frozen?, h1]
theorem MkE.keep0 (h : MkE P I w0 w ds ws S x E) (t : Turned [] w w') : MkE P I w0 w' ds ws S x E := by
  obtain ⟨Bs, hM⟩ := h.all
  obtain ⟨c, h1, h2⟩ := h.arr
  exact ⟨⟨Bs, hM.keep0 t⟩, ⟨c, t.at h1 (by simp), h2⟩, h.lo, h.five⟩
theorem MkE.set (h : MkE P I w0 w ds ws S x E) (i : Nat) (v : Bool) : MkE P I w0 (w.setCell ⟨x, i, none⟩ (.bool v)) ds ws S x (fun j => if j = i then v else E j) := by
  obtain ⟨Bs, hM⟩ := h.all
  obtain ⟨c, h1, h2⟩ := h.arr
  refine ⟨⟨Bs, hM.boolSet h1 h.lo i _⟩, ⟨_, heap_setCell_at _ _ _ _ _ _ h1 _, fun j hj => ?_⟩, h.lo, h.five⟩
  rw [Array.getElem?_setIfInBounds]
  by_cases hji : i = j
  · subst hji
    have h4 : i < c.size := by
      rcases Array.getElem?_eq_some_iff.1 (h2 i hj) with ⟨h5, _⟩
      exact h5
    rw [if_pos rfl, if_pos h4]
    simp
  · rw [if_neg hji, h2 j hj]
    show _ = some (Value.bool (if j = i then v else E j))
    rw [if_neg (fun e : j = i => hji e.symm)]
theorem MkE.step (h : MkE P I w0 w ds ws S x E) {k : Nat} (hk : k < P.n) (hm : MayM P S k) :
    Calls Tryz.prog 17 #[.pointer (some ⟨I.M, 0, none⟩), .int .i64 k] w fun e w' => e = .returned (.int .i64 (if ((stepM P S k).X k).ended then 2 else 0)) ∧ MkE P I w0 w' ds ws (stepM P S k) x E := by
  obtain ⟨Bs, hM⟩ := h.all
  obtain ⟨c, h1, h2⟩ := h.arr
  refine (mstep_keep P I w0 w ds ws S Bs k hk hM hm).mono ?_
  rintro e w' ⟨rfl, Bs', g1, g2, b, g3, g4⟩
  have hn := hM.n
  obtain ⟨cb, hcb⟩ : ∃ cc, WmR w b cc := by
    obtain ⟨gd, cd, hv, kv, pv, gh, gp, O, nx, bl, asked, po, item, pf, hW⟩ := hM.wk k b g3
    exact ⟨_, hW.raw⟩
  refine ⟨rfl, ⟨Bs', g1⟩, ⟨c, g4.at h1 (fun hx => ?_), h2⟩, h.lo, h.five⟩
  rcases Ids.all_mem.1 hx with h5 | h5
  · exact h.five h5
  · simp only [List.mem_cons] at h5
    rcases h5 with h5 | h5 | h5
    · exact ne_of_type h1 hM.mkr (by decide) h5
    · exact ne_of_type h1 hcb (by decide) h5
    · obtain ⟨c2, e2, fr2, q1, q2⟩ := (hM.wk k b g3).types x h5
      rw [h1] at q1
      cases q1
      rcases q2 with r | r | r | r | r <;> exact absurd r (by decide)
end
end Go.Proofs.YtgbclfhgpkmcnaaGreatDoor

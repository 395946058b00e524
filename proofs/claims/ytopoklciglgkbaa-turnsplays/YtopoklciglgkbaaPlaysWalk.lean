/-
  The law of TurnsPlays, walked.
-/
import Derived.Test.YtopoklciglgkbaaPlaysAdd
import Derived.Deep.LoopGhost
import Derived.Deep.Cut
import Derived.Deep.CutBlock
import Derived.Deep.CutRange
import Derived.Deep.DeepCutAuto
namespace Go.Proofs.Ytopoklciglgkbaa
open Go.RowKit
set_option linter.unusedVariables false

/-- The script that came in: at each place a call. -/
def IsPlays (w : World) (a : Option Addr) (len : Nat) : Prop :=
  len ≤ 9223372036854775807 ∧ ∀ i, i < len → ∃ b off kd nn aL lL cL zs, a = some ⟨b, off, none⟩ ∧ b < w.heap.size ∧
    w.cell? ⟨b, off + i * 3, none⟩ = some (.int .i64 kd) ∧ w.cell? ⟨b, off + i * 3 + 1, none⟩ = some (.int .i64 nn) ∧ w.cell? ⟨b, off + i * 3 + 2, none⟩ = some (.slice aL lL cL) ∧ IsRow .i64 w aL lL cL zs ∧ -9223372036854775808 ≤ nn ∧ nn ≤ 9223372036854775807

theorem isRow_cap {w : World} {a : Option Addr} {len cap : Nat} {zs : List Int} (h : IsRow .i64 w a len cap zs) : len ≤ cap := by
  rcases h with ⟨_, rfl, rfl, _⟩ | ⟨x, _, h1, _⟩ <;> omega
theorem isRow_some {w : World} {a : Option Addr} {len cap : Nat} {zs : List Int} (h : IsRow .i64 w a len cap zs) (h0 : 0 < len) : ∃ x, a = some x := by
  rcases h with ⟨_, rfl, _⟩ | ⟨x, rfl, _⟩
  · omega
  · exact ⟨x, rfl⟩
theorem isRow_short {w : World} {a : Option Addr} {len cap m : Nat} {zs : List Int} (h : IsRow .i64 w a len cap zs) (hm : m ≤ len) : IsRow .i64 w a m cap zs := by
  rcases h with ⟨rfl, rfl, rfl, rfl⟩ | ⟨x, rfl, h1, h2⟩
  · exact .inl ⟨rfl, by omega, rfl, rfl⟩
  · exact .inr ⟨x, rfl, by omega, h2⟩

/-- What stands at the beginning of each round. -/
structure Rnd (w wr : World) (p q : Nat) (N : Int) (ts : List Task) (F G : List Nat) (ls : List Sl) : Prop where
  two : Two w.heap.size wr p q ts F G ls
  lim : Lim N ts
  t : Turned [] w wr

theorem rd_in {w W : World} {F : List Nat} {a : Option Addr} {n : Nat} {l : List Int} (h : Rd w [] a n l) (ht : Turned [] w W) (hF : ∀ k, k ∈ F → w.heap.size ≤ k) : Rd W F a n l := by
  refine ⟨h.1, fun i x hx => ?_⟩
  obtain ⟨b, off, e1, _, e2⟩ := h.2 i x hx
  refine ⟨b, off, e1, fun hk => ?_, by rw [ht.cell (block_lt e2) (by simp)]; exact e2⟩
  have h1 := hF b hk
  have h2 : b < w.heap.size := block_lt e2
  omega
theorem lim_run {N N' : Int} {ts : List Task} (h : Lim N ts) (f : Nat) (l : List Int) (m : Int) (hN : N + (f : Int) ≤ N') : Lim N' (runOf f l m ts).2 := by
  induction f generalizing ts l m N with
  | zero => exact fun t ht => ⟨(h t ht).1, by have := (h t ht).2; omega⟩
  | succ f ih =>
    unfold runOf
    split
    · exact ih (lim_pick h _) _ _ (by omega)
    · exact fun t ht => ⟨(h t ht).1, by have := (h t ht).2; omega⟩
theorem lim_wake {N : Int} {ts : List Task} (h : Lim N ts) (l : List Int) : Lim N (wakeAll ts l) := fun u hu => by
  obtain ⟨i, hi⟩ := List.mem_iff_getElem?.1 hu
  obtain ⟨t, ht, e⟩ := alike_wake ts l i u hi
  have h1 := h t (List.mem_of_getElem? ht)
  rw [e]
  exact h1
theorem lim_more {N N' : Int} {ts : List Task} (h : Lim N ts) (hN : N ≤ N') : Lim N' ts := fun t ht => ⟨(h t ht).1, by have := (h t ht).2; omega⟩
section
variable {w wr W : World} {p q : Nat} {N N' : Int} {ts us : List Task} {F G : List Nat} {ls : List Sl}
theorem rnd_alloc (h : Rnd w wr p q N ts F G ls) (o : Obj) : Rnd w (wr.alloc o) p q N ts F G ls :=
  ⟨h.two.same ((Turned.refl [] wr).alloc o), h.lim, h.t.alloc o⟩
/-- The copy of the script's call lies in a block that neither object has. -/
theorem box_cells (h : Rnd w wr p q N ts F G ls) (kd nn : Int) (v : Value) :
    (wr.alloc (.cells #[.int .i64 kd, .int .i64 nn, v] 32)).cell? ⟨wr.heap.size, 1, none⟩ = some (.int .i64 nn) ∧ (wr.alloc (.cells #[.int .i64 kd, .int .i64 nn, v] 32)).cell? ⟨wr.heap.size, 2, none⟩ = some v ∧ wr.heap.size ∉ F ∧ wr.heap.size ∉ G := by
  have hh := heap_alloc_new wr (.cells #[.int .i64 kd, .int .i64 nn, v] 32)
  refine ⟨by rw [cell_of_heap hh]; rfl, by rw [cell_of_heap hh]; rfl, fun hm => ?_, fun hm => ?_⟩
  · have := (h.two.lowF _ hm).2; omega
  · have := (h.two.lowG _ hm).2; omega
theorem rnd_step {w1 w2 : World} (h : Rnd w W p q N ts F G ls) (hu : Tur w.heap.size w1 p F us) (h1 : Turned F W w1) (hr : Rf w.heap.size w2 q G us ls) (h2 : Turned G w1 w2) (hl : Lim N' us) : Rnd w w2 p q N' us F G ls :=
  ⟨h.two.step hu h1 hr h2, hl, (h.t.trans_new h1 (fun k hk => .inr (h.two.lowF k hk).1)).trans_new h2 (fun k hk => .inr (h.two.lowG k hk).1)⟩
theorem rnd_pets {w1 w2 : World} (h : Rnd w W p q N ts F G ls) (hr : Rf w.heap.size w1 q G us ls) (h1 : Turned G W w1) (hu : Tur w.heap.size w2 p F us) (h2 : Turned F w1 w2) (hl : Lim N' us) : Rnd w w2 p q N' us F G ls :=
  ⟨h.two.pets hr h1 hu h2, hl, (h.t.trans_new h1 (fun k hk => .inr (h.two.lowG k hk).1)).trans_new h2 (fun k hk => .inr (h.two.lowF k hk).1)⟩
end

set_option maxRecDepth 100000 in
set_option maxHeartbeats 8000000 in
theorem plays_walk (a : Option Addr) (len cap : Nat) (w : World) (h : IsPlays w a len) :
    Calls Try.prog 3 #[.slice a len cap] w fun e w' => e = .returned (.bool true) ∧ Turned [] w w' := by
  have H := hide h
  have hlen := h.1
  clear h
  go_enter Try.func3, Try.ntmps3
  go_wp2_with fail
  refine (awake_true _).mono ?_
  rintro e w1 ⟨rfl, ht1⟩
  have HT1 := hide ht1
  clear ht1
  go_wp2_with fail
  refine (new_tur w.heap.size w1 HT1.out.size).mono ?_
  rintro e w2 ⟨rfl, hm, ht, -⟩
  generalize w1.heap.size = p at *
  have HR0 : Hid (Rnd w (w2.alloc (.cells #[.slice none 0 0, .slice none 0 0, .slice none 0 0] 30)) p w2.heap.size 0 [] [p] [w2.heap.size] []) := by
    have hT2 : Turned [] w w2 := HT1.out.trans ht
    have hTa := (Turned.refl [] w2).alloc (.cells #[.slice none 0 0, .slice none 0 0, .slice none 0 0] 30)
    refine ⟨⟨hm.same hTa, rf_zero _ _ hT2.size, fun k hk hk2 => ?_⟩, fun t ht => by simp at ht, hT2.trans hTa⟩
    have := (hm.trn.lo k hk).2
    simp at hk2
    omega
  clear hm ht HT1
  go_wp2_with fail
  generalize w2.alloc (.cells #[.slice none 0 0, .slice none 0 0, .slice none 0 0] 30) = w3 at *
  generalize w2.heap.size = q at *
  go_loopg [6] 100 (fun g i wr => ∃ (n : Nat) (ts : List Task) (F G : List Nat) (ls : List Sl), n ≤ len ∧ n ≤ 100 ∧ g = 100 - n ∧ i = .int .i64 n ∧ Aside (Rnd w wr p q (60 * (n : Int)) ts F G ls))
  case atStart => exact ⟨0, [], _, _, [], Nat.zero_le _, Nat.zero_le _, rfl, rfl, HR0.out⟩
  case round =>
    obtain ⟨n, ts, F, G, ls, hn, hn2, hg, rfl, HR⟩ := hrel
    by_cases hlt : n < len
    · by_cases hlt2 : n < 100
      · obtain ⟨b, off, kd, nn, aL, lL, cL, zs, rfl, hb, g0, g1, g2, hrow, hnn⟩ := H.out.2 n hlt
        have hc0 := (HR.out.t.cell (block_lt g0) (by simp)).trans g0
        have hc1 := (HR.out.t.cell (block_lt g1) (by simp)).trans g1
        have hc2 := (HR.out.t.cell (block_lt g2) (by simp)).trans g2
        have HRow := hide hrow
        clear g0 g1 g2 hrow hb
        go_upto_if 47 with fail
        have htm : -6 < kd.tmod 6 ∧ kd.tmod 6 < 6 := tmod_bounds kd 6 (by omega)
        go_cut [8] (fun k wc => ∃ kk : Int, 0 ≤ kk ∧ kk < 6 ∧ k = .int .i64 kk ∧ wc = wr.alloc (.cells #[.int .i64 kd, .int .i64 nn, .slice aL lL cL] 32))
        case first =>
          by_cases hneg : kd.tmod 6 < 0
          · have e1 : wrap64 (kd.tmod 6 + 6) = kd.tmod 6 + 6 := by unfold wrap64; omega
            go_wp2_with fail
            go_meet
            case rel => exact ⟨_, by omega, by omega, rfl, rfl⟩
          · go_wp2_with fail
            go_meet
            case rel => exact ⟨_, by omega, by omega, rfl, rfl⟩
        case rest =>
          obtain ⟨kk, hk0, hk6, rfl, rfl⟩ := hcut
          clear hc0 hc1 hc2 htm
          go_upto_if 53 with fail
          go_cut [53] (fun _ wc => ∃ lM : Nat, lM ≤ 40 ∧ Aside (IsRow .i64 w aL lM cL zs) ∧ wc = wr.alloc (.cells #[.int .i64 kd, .int .i64 nn, .slice aL lM cL] 32))
          case first =>
            by_cases hL : 40 < lL
            · have hLi : (40 : Int) < (lL : Int) := by omega
              have hcap : 40 ≤ cL := by have := isRow_cap HRow.out; omega
              obtain ⟨ad, rfl⟩ := isRow_some HRow.out (by omega)
              have HShort := hide (isRow_short HRow.out (m := 40) (by omega))
              go_wp2_with fail
              go_meet
              case rel => exact ⟨40, by omega, HShort.out, rfl⟩
            · have hLi : ¬ ((40 : Int) < (lL : Int)) := by omega
              go_wp2_with fail
              go_meet
              case rel => exact ⟨lL, by omega, HRow.out, rfl⟩
          case rest =>
            obtain ⟨lM, hlM, HRw, rfl⟩ := hcut
            clear HRow
            go_upto_block 2 with fail
            have HW0 := hide (rnd_alloc HR.out (.cells #[.int .i64 kd, .int .i64 nn, .slice aL lM cL] 32))
            have HX := hide (box_cells HR.out kd nn (.slice aL lM cL))
            generalize wr.alloc (.cells #[.int .i64 kd, .int .i64 nn, .slice aL lM cL] 32) = W0 at *
            generalize wr.heap.size = x at *
            clear HR
            go_cut [81] (fun _ wc => ∃ (us : List Task) (F' G' : List Nat) (ls' : List Sl), Aside (Rnd w wc p q (60 * (n : Int) + 60) us F' G' ls'))
            case first =>
              obtain ⟨x1, x2, hxF, hxG⟩ := HX.out
              by_cases hk2 : kk = 2
              · as_aux_lemma =>
                  subst hk2
                  have HRd := hide (isRow_rd HRw.out)
                  have HLl : Hid ((zs.take lM).length = lM) := HRd.out.1.1
                  generalize zs.take lM = l at *
                  go_wp2_with fail
                  go_loopg [9, 10] lM (fun g s i wx => ∃ (j m : Nat), j ≤ lM ∧ m ≤ j ∧ g = lM - j ∧ i = .int .i64 j ∧ s = .int .i64 m ∧ Aside (m = wakeNum ts (l.take j) ∧ Rf w.heap.size wx q G (wakeAll ts (l.take j)) ls ∧ Turned G W0 wx))
                  case atStart => exact ⟨0, 0, Nat.zero_le _, Nat.zero_le _, rfl, rfl, rfl, by rfl, HW0.out.two.rf, Turned.refl _ _⟩
                  case round =>
                    obtain ⟨j, m, hj, hmj, hg2, rfl, rfl, HA⟩ := hrel
                    have y2 := (HA.out.2.2.cell (block_lt x2) hxG).trans x2
                    by_cases hjl : j < lM
                    · obtain ⟨v, hv⟩ : ∃ v, l[j]? = some v := ⟨_, List.getElem?_eq_getElem (by have := HLl.out; omega)⟩
                      obtain ⟨gb, go, rfl, -, hce⟩ := (rd_in (F := []) HRd.out.1 (HW0.out.t.trans_new HA.out.2.2 (fun k hk => .inr (HW0.out.two.lowG k hk).1)) (by simp)).2 j v hv
                      have HV := hide hv
                      have HQ := hide (rwake_any w.heap.size _ q G (wakeAll ts (l.take j)) ls v HA.out.2.1)
                      have hw1 := waits1_le (states (wakeAll ts (l.take j))) v
                      have HN := hide (wakeNum_snoc ts (l.take j) v)
                      have HM := hide (wakeAll_snoc ts (l.take j) v)
                      generalize waits1 (states (wakeAll ts (l.take j))) v = wt at *
                      have e1 : wrap64 ((m : Int) + (wt : Int)) = (m : Int) + (wt : Int) := by unfold wrap64; omega
                      have HW1 := hide hw1
                      clear hv
                      go_wp2_with fail
                      refine HQ.out.mono ?_
                      rintro e wy ⟨rfl, hr, ht⟩
                      have HA2 : Aside (m + wt = wakeNum ts (l.take (j + 1)) ∧ Rf w.heap.size wy q G (wakeAll ts (l.take (j + 1))) ls ∧ Turned G W0 wy) := by
                        refine ⟨?_, ?_, HA.out.2.2.trans ht⟩
                        · rw [take_snoc HV.out, HN.out, HA.out.1]
                        · rw [take_snoc HV.out, HM.out]
                          exact hr
                      have hbnd : m + wt ≤ j + 1 := Nat.add_le_add hmj HW1.out
                      clear hr ht HA HQ HN HM hce y2 hw1
                      have HBnd := hide (And.intro hbnd (And.intro hj hmj))
                      have HE1 := hide e1
                      clear hbnd e1
                      go_wp2_with fail
                      go_roundg (lM - (j + 1))
                      case measure => omega
                      case rel => exact ⟨j + 1, m + wt, by omega, by have := HBnd.out; omega, rfl, by go_num, by first | rfl | (rw [HE1.out]; simp), HA2⟩
                    · have hjl2 : j = lM := by omega
                      have hfull : l.take j = l := List.take_of_length_le (by have := HLl.out; omega)
                      rw [hfull] at HA
                      have HP := hide (wake_tur w.heap.size _ p F ts aL lM cL l (by omega) (rd_in HRd.out.1 (HW0.out.t.trans_new HA.out.2.2 (fun k hk => .inr (HW0.out.two.lowG k hk).1)) (fun k hk => (HW0.out.two.lowF k hk).1)) (HW0.out.two.tuG HW0.out.two.tu HA.out.2.2))
                      rw [← HA.out.1] at HP
                      clear hfull
                      go_wp2_with fail
                      refine HP.out.mono ?_
                      rintro e wz ⟨rfl, hu, ht⟩
                      have HRn := hide (rnd_pets HW0.out HA.out.2.1 HA.out.2.2 hu ht (lim_more (lim_wake HW0.out.lim l) (N' := 60 * (n : Int) + 60) (by omega)))
                      clear hu ht HP HA
                      go_wp2_with fail
                      go_meet
                      case rel => exact ⟨_, _, _, _, HRn.out⟩
              · by_cases hk3 : kk = 3
                · subst hk3
                  have HRd := hide (isRow_rd HRw.out)
                  have hroom := HW0.out.two.rf.room
                  by_cases hfull : ts.length < 128
                  · as_aux_lemma =>
                      have HAdd := hide (add_both HW0.out.two HW0.out.t aL lM cL (zs.take lM) hlM HRd.out.1 hfull x (.slice aL lM cL) x2 hxF)
                      have HLim := hide HW0.out.lim
                      have hne : ¬ ((ts.length : Int) + 1 = 0) := by omega
                      have hne2 : ((ts.length : Int) + 1 == 0) = false := by simp; omega
                      clear hk2 hroom
                      go_wp2_with fail
                      refine HAdd.out.mono ?_
                      rintro e wa ⟨rfl, y2, hb2⟩
                      have HB2 := hide hb2
                      clear hb2 HAdd x1 x2
                      go_wp2_with fail
                      refine HB2.out.mono ?_
                      rintro e wb ⟨rfl, us, F', G', ls', htwo, hlm, htt⟩
                      have HRn : Hid (Rnd w wb p q (60 * (n : Int) + 60) us F' G' ls') := ⟨htwo, fun t htm => by
                        rcases hlm t htm with h1 | h1
                        · have := HLim.out t h1; omega
                        · omega, htt⟩
                      clear htwo hlm htt HB2 y2
                      go_wp2_with fail
                      go_meet
                      case rel => exact ⟨_, _, _, _, HRn.out⟩
                  · as_aux_lemma =>
                      have hf128 : ts.length = 128 := by omega
                      have HRn := hide (rnd_alloc HW0.out (.cells #[.slice aL lM cL, .int .i64 0] 37))
                      have y2 : (W0.alloc (.cells #[.slice aL lM cL, .int .i64 0] 37)).cell? ⟨x, 2, none⟩ = some (.slice aL lM cL) := ((Turned.refl [] W0).alloc _).cell (p := ⟨x, 2, none⟩) (block_lt x2) (by simp) |>.trans x2
                      have HP := hide (add_full w.heap.size _ p F ts (.func 14) #[.pointer (some ⟨W0.heap.size, 0, none⟩)] #[] hf128 HRn.out.two.tu.trn)
                      have HQ := hide (radd_full w.heap.size _ q G ts ls aL lM cL hf128 HRn.out.two.rf)
                      clear hk2 hroom hfull hf128
                      go_wp2_with fail
                      refine HP.out.mono ?_
                      rintro e wa ⟨rfl, hwa⟩
                      rw [hwa]
                      clear hwa wa HP
                      go_wp2_with fail
                      refine HQ.out.mono ?_
                      rintro e wa ⟨rfl, hwa⟩
                      rw [hwa]
                      clear hwa wa HQ
                      go_wp2_with fail
                      go_meet
                      case rel => exact ⟨_, _, _, _, ⟨HRn.out.two, lim_more HRn.out.lim (by omega), HRn.out.t⟩⟩
                · by_cases hk4 : kk = 4
                  · as_aux_lemma =>
                      subst hk4
                      have HRd := hide (isRow_rd HRw.out)
                      have hfu : -61 < nn.tmod 61 ∧ nn.tmod 61 < 61 := tmod_bounds nn 61 (by omega)
                      have HF := hide hfu
                      have hrF : Hid (∀ wa, Turned F W0 wa → Rd wa F aL lM (zs.take lM)) := fun wa ht => rd_in HRd.out.1 (HW0.out.t.trans_new ht (fun k hk => .inr (HW0.out.two.lowF k hk).1)) (fun k hk => (HW0.out.two.lowF k hk).1)
                      have HP := hide (fun W1 (hT : Turned [] W0 W1) => run_tur w.heap.size W1 p F ts aL lM cL (zs.take lM) (nn.tmod 61).toNat (nn.tmod 61) (60 * (n : Int)) rfl (by omega) (by omega) (by omega) HRd.out.2.1 (rd_in HRd.out.1 (HW0.out.t.trans hT) (fun k hk => (HW0.out.two.lowF k hk).1)) HW0.out.lim (HW0.out.two.tu.same hT))
                      have HQ := hide (fun wa (hT : Turned [] w wa) (hr : Rf w.heap.size wa q G ts ls) => rrun_any w.heap.size wa q G ts ls aL lM cL (zs.take lM) (nn.tmod 61).toNat (nn.tmod 61) (60 * (n : Int)) rfl (by omega) (by omega) (by omega) (by omega) HRd.out.2.1 (rd_in HRd.out.1 hT (fun k hk => (HW0.out.two.lowG k hk).1)) HW0.out.lim hr)
                      have HLm := hide (lim_run HW0.out.lim (nn.tmod 61).toNat (zs.take lM) 0 (N' := 60 * (n : Int) + 60) (by omega))
                      generalize runOf (nn.tmod 61).toNat (zs.take lM) 0 ts = ru at *
                      clear hfu hk2 hk3
                      go_wp2_with fail
                      go_region_held3 (fun w' => w'.cell? ⟨x, 1, none⟩ = some (.int .i64 nn) ∧ w'.cell? ⟨x, 2, none⟩ = some (.slice aL lM cL)) (go_keep)
                        (first
                          | (go_at_call 16; refine (HP.out _ ((Turned.refl [] W0).drew)).mono ?_; rintro e wa ⟨rfl, hu, ht⟩; have HU := hide hu; have HT := hide (((Turned.refl F W0).drew).trans ht); have y1 := (HT.out.cell (block_lt x1) hxF).trans x1; have y2 := (HT.out.cell (block_lt x2) hxF).trans x2; clear hu ht)
                          | (go_at_call 17; refine (HQ.out wa (HW0.out.t.trans_new HT.out (fun k hk => .inr (HW0.out.two.lowF k hk).1)) (HW0.out.two.rfF HT.out)).mono ?_; rintro e wb ⟨rfl, hr, ht⟩; have HRn := hide (rnd_step HW0.out HU.out HT.out hr ht HLm.out); have z1 := (ht.cell (block_lt y1) hxG).trans y1; have z2 := (ht.cell (block_lt y2) hxG).trans y2; clear hr ht))
                      clear x1 x2 y1 y2 z1 z2
                      go_wp2_with fail
                      go_meet
                      case rel => exact ⟨_, _, _, _, HRn.out⟩
                  · as_aux_lemma =>
                      have e2 : (kk == 2) = false := by simp [hk2]
                      have e3 : (kk == 3) = false := by simp [hk3]
                      have e4 : (kk == 4) = false := by simp [hk4]
                      have hlimN : (60 * (n : Int)) < 4611686018427387904 := by omega
                      have HP := hide (pick_tur w.heap.size W0 p F ts nn hnn (60 * (n : Int)) hlimN HW0.out.lim HW0.out.two.tu)
                      have HQ := hide (fun wa (hr : Rf w.heap.size wa q G ts ls) => rpick_any w.heap.size wa q G ts ls nn hnn (60 * (n : Int)) hlimN HW0.out.lim hr)
                      have HLm := hide (lim_pick HW0.out.lim nn)
                      generalize pickNum ts nn = pn at *
                      generalize (pickOf ts nn).isSome = pb at *
                      generalize pickTo ts nn = us at *
                      clear hlimN hk2 hk3 hk4
                      go_wp2_with fail
                      refine HP.out.mono ?_
                      rintro e wa ⟨rfl, hu, ht⟩
                      have HU := hide hu
                      have HT := hide ht
                      have x1a := (ht.cell (block_lt x1) hxF).trans x1
                      clear hu ht HP x1 x2
                      go_wp2_with fail
                      refine (HQ.out wa (HW0.out.two.rfF HT.out)).mono ?_
                      rintro e wb ⟨rfl, hr, ht⟩
                      have HRn := hide (rnd_step HW0.out HU.out HT.out hr ht (lim_more HLm.out (N' := 60 * (n : Int) + 60) (by omega)))
                      clear hr ht HQ HU HT x1a
                      go_wp2_with fail
                      go_meet
                      case rel => exact ⟨_, _, _, _, HRn.out⟩
            case rest =>
              as_aux_lemma =>
                obtain ⟨us, F', G', ls', HRn⟩ := hcut
                obtain ⟨wb, hwb⟩ : ∃ wb, wb = wc := ⟨_, rfl⟩
                subst hwb
                clear HW0 HX HRw
                obtain ⟨as_, cs, an, cn, q1, q2, hcells⟩ := HRn.out.two.rf.cells
                have HC := hide hcells
                have hroom := HRn.out.two.rf.room
                have HT := hide HRn.out.two.tu.trn
                clear hcells
                go_wp2_with fail
                go_loopg [19, 20] 129 (fun g s19 s20 wr => ∃ (i m : Nat) (bb : Bool), s20 = .int .i64 ((i : Int) + 1) ∧ s19 = .bool bb ∧ i ≤ us.length ∧ us.length - i ≤ g ∧ Aside (bb = some1 ((states us).take i)) ∧ Aside (wr = wb.drewN m))
                case atStart => exact ⟨0, 0, false, rfl, rfl, by omega, by omega, rfl, rfl⟩
                case round =>
                  obtain ⟨i, m, bb, rfl, rfl, hi, hgi, hbb, hwr⟩ := hrel
                  by_cases hil : i < us.length
                  · as_aux_lemma =>
                      obtain ⟨t, ht⟩ : ∃ t, us[i]? = some t := ⟨us[i], by simp [hil]⟩
                      obtain ⟨⟨g1, rfl, hc1⟩, g2, rfl, hc2⟩ := HC.out i t ht
                      have e1 : (i : Int) + 1 ≤ (us.length : Int) := by omega
                      have hsub : IntKind.i64.wrap ((i : Int) + 1 - 1) = (i : Int) := by rw [IntKind.wrap_i64]; omega
                      have hsub2 : wrap64 ((i : Int) + 1 - 1) = (i : Int) := by unfold wrap64; omega
                      have hii : (i : Int) < (us.length : Int) := by omega
                      have a1 : wr.cell? ⟨q, 1, none⟩ = some (.slice (some ⟨g1, 0, none⟩) us.length cs) := by rw [hwr.out]; exact q1
                      have a2 : wr.cell? ⟨q, 2, none⟩ = some (.slice (some ⟨g2, 0, none⟩) us.length cn) := by rw [hwr.out]; exact q2
                      have b1 : wr.cell? ⟨g1, i, none⟩ = some (.int .i64 t.st) := by rw [hwr.out]; exact hc1
                      have b2 : wr.cell? ⟨g2, i, none⟩ = some (.int .i64 t.n) := by rw [hwr.out]; exact hc2
                      have HTr : Hid (∀ k, Trn w.heap.size (wr.drewN k) p F' us) := fun k => by rw [hwr.out]; exact HT.out.keep (fun _ _ => rfl)
                      have HSt := hide (fun k => state_in w.heap.size (wr.drewN k) p F' us i t ht (HTr.out k))
                      have HSn := hide (fun k => steps_in w.heap.size (wr.drewN k) p F' us i t ht (HTr.out k))
                      have HSn1 : Hid (some1 ((states us).take (i + 1)) = (some1 ((states us).take i) || decide (t.st = 1))) := by
                        show _ = _
                        rw [← some1_snoc]
                        congr 1
                        exact take_snoc (by unfold states; rw [List.getElem?_map, ht]; rfl)
                      generalize t.st = st at *
                      generalize t.n = tn at *
                      have c1 : ∀ k, (wr.drewN k).cell? ⟨q, 1, none⟩ = some (.slice (some ⟨g1, 0, none⟩) us.length cs) := fun _ => a1
                      have d1 : ∀ k, (wr.drewN k).cell? ⟨g1, i, none⟩ = some (.int .i64 st) := fun _ => b1
                      have HC1 := hide c1
                      have HD1 := hide d1
                      clear ht q1 q2 hc1 hc2 c1 d1 HTr
                      go_wp2_with fail
                      go_quiet ((first | (go_at_call 20; exact Calls.quiet_of_same (HSt.out _)) | (go_at_call 21; exact Calls.quiet_of_same (HSn.out _))))
                      have a3 := HC1.out nq
                      have b3 := HD1.out nq
                      have hdr : Aside (wr.drewN nq = wb.drewN (m + nq)) := by show _ = _; rw [hwr.out, World.drewN_drewN]
                      clear HSt HSn a1 a2 b1 b2 HC1 HD1
                      generalize wr.drewN nq = wy at *
                      cases bb
                      · by_cases hst : st = 1
                        · go_wp2_with fail
                          go_roundg (us.length - (i + 1))
                          case measure => omega
                          case rel => exact ⟨i + 1, m + nq, true, by go_num, by first | rfl | simp [hst], by omega, Nat.le_refl _, by show true = _; rw [HSn1.out]; simp [hst], hdr⟩
                        · go_wp2_with fail
                          go_roundg (us.length - (i + 1))
                          case measure => omega
                          case rel => exact ⟨i + 1, m + nq, false, by go_num, by first | rfl | simp [hst], by omega, Nat.le_refl _, by show false = _; rw [HSn1.out, ← hbb.out]; simp [hst], hdr⟩
                      · go_wp2_with fail
                        go_roundg (us.length - (i + 1))
                        case measure => omega
                        case rel => exact ⟨i + 1, m + nq, true, by go_num, rfl, by omega, Nat.le_refl _, by show true = _; rw [HSn1.out, ← hbb.out]; rfl, hdr⟩
                  · as_aux_lemma =>
                      have hie : i = us.length := by omega
                      have e1 : ¬ ((i : Int) + 1 ≤ (us.length : Int)) := by omega
                      have HRw2 : Hid (Rnd w wr p q (60 * (n : Int) + 60) us F' G' ls') := by
                        have hT : Turned [] wb wr := by rw [hwr.out]; exact (Turned.refl [] wb).drewN m
                        exact ⟨HRn.out.two.same hT, HRn.out.lim, HRn.out.t.trans hT⟩
                      have HBB : Hid (bb = some1 (states us)) := by
                        have h1 := hbb.out
                        rw [List.take_of_length_le (by unfold states; simp; omega)] at h1
                        exact h1
                      have HRr := hide (rready_any w.heap.size wr q G' us ls' HRw2.out.two.rf)
                      have a1 : wr.cell? ⟨q, 1, none⟩ = some (.slice as_ us.length cs) := by rw [hwr.out]; exact q1
                      clear hbb hwr HC HT q1 q2
                      go_wp2_with fail
                      refine HRr.out.mono ?_
                      rintro e wy ⟨v1, rfl, ho1, ht1⟩
                      have HRy : Hid (Rnd w wy p q (60 * (n : Int) + 60) us F' G' ls') := ⟨HRw2.out.two.same ht1, HRw2.out.lim, HRw2.out.t.trans ht1⟩
                      have HO1 := hide ho1
                      have HRp := hide (ready_any w.heap.size wy p F' us HRy.out.two.tu.trn)
                      clear ho1 ht1 HRr HRw2 a1
                      go_wp2_with fail
                      refine HRp.out.mono ?_
                      rintro e wz ⟨v2, rfl, ho2, ht2⟩
                      have HRz : Hid (Rnd w wz p q (60 * (n : Int) + 60) us F' G' ls') := ⟨HRy.out.two.same ht2, HRy.out.lim, HRy.out.t.trans ht2⟩
                      have ho3 := ownsRow_keep HO1.out (fun b hb => ht2.block b (ownsRow_lt HO1.out b hb).2.1 (by simp))
                      obtain ⟨hl1, ao1, cp1, rfl, hr1⟩ := ownsRow_any ho3
                      obtain ⟨hl2, ao2, cp2, rfl, hr2⟩ := ownsRow_any ho2
                      have hrl : (readyOf us).length ≤ 128 := Nat.le_trans (thatOf_length 0 (states us) 0) (by unfold states; simp; omega)
                      have HSame := hide (same_true ao2 ao1 cp2 cp1 (readyOf us) (readyOf us).length wz rfl (by omega) (fun k y hy => by
                        obtain ⟨g, e, _, _, hc, _⟩ := hr2 k _ (by rw [List.getElem?_map, hy]; rfl)
                        exact ⟨g, e, hc⟩) (fun k y hy => by
                        obtain ⟨g, e, _, _, hc, _⟩ := hr1 k _ (by rw [List.getElem?_map, hy]; rfl)
                        exact ⟨g, e, hc⟩))
                      clear ho2 ho3 ht2 HRp HO1 HRy hl1 hl2 hr1 hr2
                      go_wp2_with fail
                      refine HSame.out.mono ?_
                      rintro e wv ⟨rfl, ht3⟩
                      have HRv : Hid (Rnd w wv p q (60 * (n : Int) + 60) us F' G' ls') := ⟨HRz.out.two.same ht3, HRz.out.lim, HRz.out.t.trans ht3⟩
                      have HStk := hide (stuck_any w.heap.size wv p F' us HRv.out.two.tu.trn)
                      rw [show (decide (¬ thatOf 1 (states us) 0 = [])) = bb by rw [HBB.out]; unfold some1; simp] at HStk
                      rw [show decide (readyOf us = []) = decide (((readyOf us).length : Int) = 0) by congr 1; simp] at HStk
                      clear ht3 HSame HRz HBB
                      generalize (readyOf us).length = rn at *
                      by_cases hz : rn = 0
                      · subst hz
                        rw [show decide (((0 : Nat) : Int) = 0) = true by simp] at HStk
                        cases bb
                        · rw [show (true && false) = false from rfl] at HStk
                          go_wp2_with fail
                          refine HStk.out.mono ?_
                          rintro e wu ⟨rfl, ht4⟩
                          have HRu : Hid (Rnd w wu p q (60 * ((n + 1 : Nat) : Int)) us F' G' ls') := ⟨HRv.out.two.same ht4, lim_more HRv.out.lim (by omega), HRv.out.t.trans ht4⟩
                          clear ht4 HStk HRv
                          go_wp2_with fail
                          go_roundg (100 - (n + 1))
                          case measure => omega
                          case rel => exact ⟨n + 1, us, F', G', ls', by omega, by omega, rfl, by go_num, HRu.out⟩
                        · rw [show (true && true) = true from rfl] at HStk
                          go_wp2_with fail
                          refine HStk.out.mono ?_
                          rintro e wu ⟨rfl, ht4⟩
                          have HRu : Hid (Rnd w wu p q (60 * ((n + 1 : Nat) : Int)) us F' G' ls') := ⟨HRv.out.two.same ht4, lim_more HRv.out.lim (by omega), HRv.out.t.trans ht4⟩
                          clear ht4 HStk HRv
                          go_wp2_with fail
                          go_roundg (100 - (n + 1))
                          case measure => omega
                          case rel => exact ⟨n + 1, us, F', G', ls', by omega, by omega, rfl, by go_num, HRu.out⟩
                      · have hz2 : ¬ ((rn : Int) = 0) := by omega
                        rw [show decide ((rn : Int) = 0) = false by simp; omega, Bool.false_and] at HStk
                        go_wp2_with fail
                        refine HStk.out.mono ?_
                        rintro e wu ⟨rfl, ht4⟩
                        have HRu : Hid (Rnd w wu p q (60 * ((n + 1 : Nat) : Int)) us F' G' ls') := ⟨HRv.out.two.same ht4, lim_more HRv.out.lim (by omega), HRv.out.t.trans ht4⟩
                        clear ht4 HStk HRv
                        go_wp2_with fail
                        go_roundg (100 - (n + 1))
                        case measure => omega
                        case rel => exact ⟨n + 1, us, F', G', ls', by omega, by omega, rfl, by go_num, HRu.out⟩
      · go_wp2_with fail
        go_ret
        exact ⟨rfl, HR.out.t⟩
    · go_wp2_with fail
      go_ret
      exact ⟨rfl, HR.out.t⟩
end Go.Proofs.Ytopoklciglgkbaa

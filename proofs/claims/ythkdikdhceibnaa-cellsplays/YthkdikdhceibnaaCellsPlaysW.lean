/-
  What the law of CellsPlays does, walked: for every number of words and every script it returns true, and nothing that was there has turned.
-/
import Derived.Test.YthkdikdhceibnaaPlaysKit
import Derived.Deep.QuietTactic
import Derived.BigQuiet
import Derived.Deep.RegionHeld3
namespace Go.Proofs.Ythkdikdhceibnaa
open Go.RowKit Go.ChangeShapes Go.WideShapes Go.ChangeAt
set_option linter.unusedVariables false

theorem Both.drewN {w : World} {p q rp rq : Nat} {l : List Int} {s : Int} (h : Both w p q rp rq l s) (m : Nat) : Both (w.drewN m) p q rp rq l s := h.turned ((Turned.refl [] w).drewN m)
theorem tmod7 (x : Int) : -6 ≤ x.tmod 7 ∧ x.tmod 7 ≤ 6 := by
  have h1 := Int.tmod_lt_of_pos x (show (0 : Int) < 7 by decide)
  have h2 := Int.lt_tmod_of_pos x (show (0 : Int) < 7 by decide)
  omega

set_option maxRecDepth 100000 in
set_option maxHeartbeats 4000000 in
theorem plays_walk (words : Int) (a : Option Addr) (len cap : Nat) (w : World) (hops : IsOps w a len) :
    Calls Try.prog 3 #[.int .i64 words, .slice a len cap] w fun e w' => e = .returned (.bool true) ∧ Turned [] w w' := by
  have hlen := hops.1
  have HOP := hide hops.2
  clear hops
  go_enter Try.func3, Try.ntmps3
  go_wp2_with fail
  refine (awake_true _).mono ?_
  rintro e w1 ⟨rfl, ht⟩
  have HT1 := hide ht
  clear ht
  go_wp2_with fail
  refine (new_any words _).mono ?_
  obtain ⟨n, hn⟩ : ∃ n : Nat, n = (min (max words 0) 65536).toNat := ⟨_, rfl⟩
  rw [← hn]
  have HN := hide hn
  have hn2 : n ≤ 65536 := by omega
  clear hn
  rintro e w2 ⟨rfl, hm, ht, hz⟩
  have HM2 := hide hm
  have HT2 := hide (HT1.out.trans ht)
  have hq := HT1.out.size
  have hp : w.heap.size ≤ w1.heap.size + 1 := by omega
  generalize w1.heap.size + 1 = p at *
  generalize w1.heap.size = q at *
  clear hm ht HT1
  go_wp2_with fail
  refine (rnew_k words n _ HN.out).mono ?_
  rintro e w3 ⟨rfl, hr, ht, hz3⟩
  have HT3 := hide (HT2.out.trans ht)
  have hrq := HT2.out.size
  have hrp : w.heap.size ≤ w2.heap.size + 1 := by omega
  have HB3 : Hid (Both w3 p q (w2.heap.size + 1) w2.heap.size (List.replicate n 0) 0) := by
    have h1 := HM2.out.ltp
    have h2 := HM2.out.ltq
    exact ⟨HM2.out.turned ht (by simp) (by simp), hr, by omega, by omega, by omega, by omega⟩
  generalize w2.heap.size + 1 = rp at *
  generalize w2.heap.size = rq at *
  have hrc := HB3.out.r.c0
  rw [List.length_replicate] at hrc
  clear hr ht HM2 HT2 hz hz3
  have hlm : ∀ m, Calls Try.prog 12 #[.pointer (some ⟨p, 0, none⟩)] (w3.drewN m) fun e w' => e = .returned (.int .i64 n) ∧ w' = w3.drewN m := fun m => by
    have h2 := len_mem p q (List.replicate n 0) 0 (w3.drewN m) (HB3.out.drewN m).m
    rwa [List.length_replicate] at h2
  have HLM := hide hlm
  clear hlm
  go_wp2_with fail
  go_quiet ((go_at_call 12; exact Calls.quiet_of_same (HLM.out _)))
  go_wp2_with fail
  go_loopw [8] (fun i wr => ∃ (k : Nat) (l : List Int) (s : Int), k ≤ len ∧ k ≤ 200 ∧ i = .int .i64 k ∧ Hid (l.length = n) ∧ Hid (Ranged l) ∧ Hid (Both wr p q rp rq l s) ∧ Hid (Turned [] w wr)) (fun i _ => 200 - (intOf i).toNat)
  case atStart =>
    refine ⟨0, List.replicate n 0, 0, Nat.zero_le _, Nat.zero_le _, rfl, List.length_replicate, ?_, HB3.out.drewN _, HT3.out.drewN _⟩
    intro i x hx
    rw [List.getElem?_replicate] at hx
    split at hx
    · injection hx with hx
      subst hx
      decide
    · cases hx
  case round =>
    obtain ⟨k, l, s, hk, hk2, rfl, HL, HRg, HBr, HTr⟩ := hrel
    clear hrc HLM HB3 HT3
    by_cases hlt : k < len
    · by_cases hlt2 : k < 200
      · obtain ⟨b, off, kd, t, o, v, aL, lL, cL, zs, rfl, hb, h0, h1, h2, h3, h4, hrow, ht64, ho64, hv64⟩ := HOP.out k hlt
        have c0 : wr.cell? ⟨b, off + k * 5, none⟩ = some (.int .i64 kd) := by rw [HTr.out.cell hb (by simp)]; exact h0
        have c1 : wr.cell? ⟨b, off + k * 5 + 1, none⟩ = some (.int .i64 t) := by rw [HTr.out.cell hb (by simp)]; exact h1
        have c2 : wr.cell? ⟨b, off + k * 5 + 2, none⟩ = some (.int .i64 o) := by rw [HTr.out.cell hb (by simp)]; exact h2
        have c3 : wr.cell? ⟨b, off + k * 5 + 3, none⟩ = some (.int .i64 v) := by rw [HTr.out.cell hb (by simp)]; exact h3
        have c4 : wr.cell? ⟨b, off + k * 5 + 4, none⟩ = some (.slice aL lL cL) := by rw [HTr.out.cell hb (by simp)]; exact h4
        have HV := hide hv64
        have HO64 := hide ho64
        have HT64 := hide ht64
        have HRow := hide hrow
        clear h0 h1 h2 h3 h4 hrow ht64 ho64 hv64
        have h7 := tmod7 kd
        obtain ⟨h7a, h7b⟩ := h7
        have HX0 : Hid (Box (wr.alloc (.cells #[.int .i64 kd, .int .i64 t, .int .i64 o, .int .i64 v, .slice aL lL cL] 33)) wr.heap.size kd t o v aL lL cL) := heap_alloc_new _ _
        have HB0 := hide (HBr.out.turned ((Turned.refl [] wr).alloc (.cells #[.int .i64 kd, .int .i64 t, .int .i64 o, .int .i64 v, .slice aL lL cL] 33)))
        have HT0 := hide (HTr.out.alloc (.cells #[.int .i64 kd, .int .i64 t, .int .i64 o, .int .i64 v, .slice aL lL cL] 33))
        have HXN : Hid (wr.heap.size ≠ p ∧ wr.heap.size ≠ q ∧ wr.heap.size ≠ rp ∧ wr.heap.size ≠ rq) := by
          have e1 := HBr.out.m.ltp
          have e2 := HBr.out.m.ltq
          have e3 := HBr.out.r.ltp
          have e4 := HBr.out.r.ltq
          show _ ∧ _
          omega
        have hxw := HTr.out.size
        by_cases hsg : kd.tmod 7 < 0
        · skip
          by_cases g0 : kd.tmod 7 + 7 = 0
          · as_aux_lemma =>
              have t0 : (kd.tmod 7 + 7 == 0) = true := by rw [beq_iff_eq]; omega
              clear g0
              go_wp2_with fail
              generalize wr.alloc (.cells #[.int .i64 kd, .int .i64 t, .int .i64 o, .int .i64 v, .slice aL lL cL] 33) = W0 at *
              generalize wr.heap.size = x at *
              refine (load_any p q l s t W0 HB0.out.m).mono ?_
              rintro e wa ⟨rfl, hm, ht⟩
              have HXa := hide (HX0.out.turned ht (by simp; exact ⟨HXN.out.1, HXN.out.2.1⟩))
              obtain ⟨bx1, bx2, bx3, bx4⟩ := HXa.out.cells
              have HRa := hide (HB0.out.ref ht)
              have HMa := hide hm
              have HTa := hide (HT0.out.trans_new ht (by simp; omega))
              clear hm ht
              go_wp2_with fail
              refine (rload_any rp rq l s t wa HRa.out).mono ?_
              rintro e wb ⟨rfl, hr, ht⟩
              have HBb := hide (HB0.out.mk' HMa.out hr ht)
              have HTb := hide (HTa.out.trans_new ht (by simp; omega))
              clear hr ht bx1 bx2 bx3 bx4
              have hrs := HBb.out.r.c1
              have hst : ∀ m, Calls Try.prog 26 #[.pointer (some ⟨p, 0, none⟩)] (wb.drewN m) fun e w' => e = .returned (.int .i64 (stS l t s)) ∧ w' = wb.drewN m := fun m => steps_mem p q _ _ _ (HBb.out.drewN m).m
              have HST := hide hst
              clear hst
              go_wp2_with fail
              go_quiet ((go_at_call 26; exact Calls.quiet_of_same (HST.out _)))
              go_wp2_with fail
              go_roundw
              case rel => exact ⟨k + 1, l, stS l t s, by omega, by omega, by go_num, HL, HRg, HBb.out.drewN _, HTb.out.drewN _⟩
              case measure => simp [intOf]; omega
          by_cases g3 : kd.tmod 7 + 7 = 3
          · as_aux_lemma =>
              have t0 : (kd.tmod 7 + 7 == 0) = false := by rw [beq_eq_false_iff_ne]; omega
              have t3 : (kd.tmod 7 + 7 == 3) = true := by rw [beq_iff_eq]; omega
              clear g0 g3
              go_wp2_with fail
              generalize wr.alloc (.cells #[.int .i64 kd, .int .i64 t, .int .i64 o, .int .i64 v, .slice aL lL cL] 33) = W0 at *
              generalize wr.heap.size = x at *
              refine (swap_any p q l s t o v W0 HB0.out.m).mono ?_
              rintro e wa ⟨rfl, hm, ht⟩
              have HXa := hide (HX0.out.turned ht (by simp; exact ⟨HXN.out.1, HXN.out.2.1⟩))
              obtain ⟨bx1, bx2, bx3, bx4⟩ := HXa.out.cells
              have HRa := hide (HB0.out.ref ht)
              have HMa := hide hm
              have HTa := hide (HT0.out.trans_new ht (by simp; omega))
              clear hm ht
              go_wp2_with fail
              refine (rswap_any rp rq l s t o v wa HRa.out).mono ?_
              rintro e wb ⟨rfl, hr, ht⟩
              have HBb := hide (HB0.out.mk' HMa.out hr ht)
              have HTb := hide (HTa.out.trans_new ht (by simp; omega))
              clear hr ht bx1 bx2 bx3 bx4
              have hrs := HBb.out.r.c1
              have hst : ∀ m, Calls Try.prog 26 #[.pointer (some ⟨p, 0, none⟩)] (wb.drewN m) fun e w' => e = .returned (.int .i64 (stS l t s)) ∧ w' = wb.drewN m := fun m => steps_mem p q _ _ _ (HBb.out.drewN m).m
              have HST := hide hst
              clear hst
              go_wp2_with fail
              go_quiet ((go_at_call 26; exact Calls.quiet_of_same (HST.out _)))
              go_wp2_with fail
              go_roundw
              case rel => exact ⟨k + 1, swL l t o v, stS l t s, by omega, by omega, by go_num, by show _ = _; rw [swL_length]; exact HL.out, swL_ranged HRg.out _ _ _ HV.out, HBb.out.drewN _, HTb.out.drewN _⟩
              case measure => simp [intOf]; omega
          by_cases g4 : kd.tmod 7 + 7 = 4
          · as_aux_lemma =>
              have t0 : (kd.tmod 7 + 7 == 0) = false := by rw [beq_eq_false_iff_ne]; omega
              have t3 : (kd.tmod 7 + 7 == 3) = false := by rw [beq_eq_false_iff_ne]; omega
              have t4 : (kd.tmod 7 + 7 == 4) = true := by rw [beq_iff_eq]; omega
              clear g0 g3 g4
              go_wp2_with fail
              generalize wr.alloc (.cells #[.int .i64 kd, .int .i64 t, .int .i64 o, .int .i64 v, .slice aL lL cL] 33) = W0 at *
              generalize wr.heap.size = x at *
              refine (add_any p q l s t v W0 HRg.out HB0.out.m).mono ?_
              rintro e wa ⟨rfl, hm, ht⟩
              have HXa := hide (HX0.out.turned ht (by simp; exact ⟨HXN.out.1, HXN.out.2.1⟩))
              obtain ⟨bx1, bx2, bx3, bx4⟩ := HXa.out.cells
              have HRa := hide (HB0.out.ref ht)
              have HMa := hide hm
              have HTa := hide (HT0.out.trans_new ht (by simp; omega))
              clear hm ht
              go_wp2_with fail
              refine (radd_any rp rq l s t v wa HRa.out).mono ?_
              rintro e wb ⟨rfl, hr, ht⟩
              have HBb := hide (HB0.out.mk' HMa.out hr ht)
              have HTb := hide (HTa.out.trans_new ht (by simp; omega))
              clear hr ht bx1 bx2 bx3 bx4
              have hrs := HBb.out.r.c1
              have hst : ∀ m, Calls Try.prog 26 #[.pointer (some ⟨p, 0, none⟩)] (wb.drewN m) fun e w' => e = .returned (.int .i64 (stS l t s)) ∧ w' = wb.drewN m := fun m => steps_mem p q _ _ _ (HBb.out.drewN m).m
              have HST := hide hst
              clear hst
              go_wp2_with fail
              go_quiet ((go_at_call 26; exact Calls.quiet_of_same (HST.out _)))
              go_wp2_with fail
              go_roundw
              case rel => exact ⟨k + 1, addL l t v, stS l t s, by omega, by omega, by go_num, by show _ = _; rw [addL_length]; exact HL.out, addL_ranged HRg.out _ _, HBb.out.drewN _, HTb.out.drewN _⟩
              case measure => simp [intOf]; omega
          by_cases g5 : kd.tmod 7 + 7 = 5
          · as_aux_lemma =>
              have t0 : (kd.tmod 7 + 7 == 0) = false := by rw [beq_eq_false_iff_ne]; omega
              have t3 : (kd.tmod 7 + 7 == 3) = false := by rw [beq_eq_false_iff_ne]; omega
              have t4 : (kd.tmod 7 + 7 == 4) = false := by rw [beq_eq_false_iff_ne]; omega
              have t5 : (kd.tmod 7 + 7 == 5) = true := by rw [beq_iff_eq]; omega
              clear g0 g3 g4 g5
              go_wp2_with fail
              generalize wr.alloc (.cells #[.int .i64 kd, .int .i64 t, .int .i64 o, .int .i64 v, .slice aL lL cL] 33) = W0 at *
              generalize wr.heap.size = x at *
              obtain ⟨bx1, bx2, bx3, bx4⟩ := HX0.out.cells
              go_region_held3 (fun w' => w'.cell? ⟨x, 1, none⟩ = some (.int .i64 t) ∧ w'.cell? ⟨x, 4, none⟩ = some (.slice aL lL cL)) (go_keep)
                (first
                  | (go_at_call 19; refine (put_any p q l s t aL lL cL zs _ (by rw [HL.out]; exact hn2) (by exact HB0.out.m.drew) (by exact HRow.out.below HT0.out.drew.below0)).mono ?_; rintro e wa ⟨rfl, hm, ht⟩; obtain ⟨hra, hta, by1, by2, by3, by4⟩ := after_c HB0.out HX0.out HT0.out HXN.out hp hq ht; have HRa := hide hra; have HTa := hide hta; have HMa := hide hm; clear hra hta hm ht)
                  | (go_at_call 20; refine (rput_any rp rq l s t aL lL cL zs _ (by rw [HL.out]; exact hn2) (by exact HRa.out) (by exact HRow.out.below HTa.out.below0) (fun b off h0 e => by have := row_block HRow.out h0 b off e; omega)).mono ?_; rintro e wb ⟨rfl, hr, ht⟩; have hxn := not_in2 HXN.out.2.2.1 HXN.out.2.2.2; have bz1 := keep_cell ht by1 hxn; have bz2 := keep_cell ht by2 hxn; have bz3 := keep_cell ht by3 hxn; have bz4 := keep_cell ht by4 hxn; have HBb := hide (HB0.out.mk' HMa.out hr ht); have HTb := hide (HTa.out.trans_new ht (by simp; omega)); clear hr ht))
              clear bx1 bx2 bx3 bx4 by1 by2 by3 by4 bz1 bz2 bz3 bz4 hxn
              have hrs := HBb.out.r.c1
              have hst : ∀ m, Calls Try.prog 26 #[.pointer (some ⟨p, 0, none⟩)] (wb.drewN m) fun e w' => e = .returned (.int .i64 (s)) ∧ w' = wb.drewN m := fun m => steps_mem p q _ _ _ (HBb.out.drewN m).m
              have HST := hide hst
              clear hst
              go_wp2_with fail
              go_quiet ((go_at_call 26; exact Calls.quiet_of_same (HST.out _)))
              go_wp2_with fail
              go_roundw
              case rel => exact ⟨k + 1, putL l t (zs.take lL), s, by omega, by omega, by go_num, by show _ = _; rw [putL_length]; exact HL.out, row_ranged HRow.out _ HRg.out _, HBb.out.drewN _, HTb.out.drewN _⟩
              case measure => simp [intOf]; omega
          by_cases g6 : kd.tmod 7 + 7 = 6
          · as_aux_lemma =>
              have t0 : (kd.tmod 7 + 7 == 0) = false := by rw [beq_eq_false_iff_ne]; omega
              have t3 : (kd.tmod 7 + 7 == 3) = false := by rw [beq_eq_false_iff_ne]; omega
              have t4 : (kd.tmod 7 + 7 == 4) = false := by rw [beq_eq_false_iff_ne]; omega
              have t5 : (kd.tmod 7 + 7 == 5) = false := by rw [beq_eq_false_iff_ne]; omega
              have t6 : (kd.tmod 7 + 7 == 6) = true := by rw [beq_iff_eq]; omega
              clear g0 g3 g4 g5 g6
              go_wp2_with fail
              generalize wr.alloc (.cells #[.int .i64 kd, .int .i64 t, .int .i64 o, .int .i64 v, .slice aL lL cL] 33) = W0 at *
              generalize wr.heap.size = x at *
              have hx64 := HT64.out.2
              refine (words_mem p q l s t o W0 (by rw [HL.out]; exact hn2) HB0.out.m).mono ?_
              rintro e wa ⟨v0, rfl, hown, ht⟩
              have hown0 : wa.ownsRow W0.heap.size 2 1 v0 (cut l t o).length ((cut l t o).map (Value.int .i64)) := hown
              obtain ⟨-, ao, c4, hv0, hcl⟩ := ownsRow_any hown0
              have hrok : RowOK wa ao (cut l t o).length W0.heap.size := by rw [hv0] at hown0; exact RowOK.of_owns hown0
              have hv0' : v0 = .slice ao (cut l t o).length c4 := hv0
              clear hown hown0 hv0
              subst hv0'
              have hN : (cut l t o).length ≤ 65536 := by have := HL.out; unfold cut; simp; omega
              have hXa := HX0.out.turned ht (by simp)
              obtain ⟨bx1, bx2, bx3, bx4⟩ := hXa.cells
              have HC := hide hcl
              have HRK := hide hrok
              have HBa := hide (HB0.out.turned ht)
              have HTa := hide (HT0.out.trans ht)
              have hW0 : p < W0.heap.size ∧ q < W0.heap.size ∧ rp < W0.heap.size ∧ rq < W0.heap.size := ⟨HB0.out.m.ltp, HB0.out.m.ltq, HB0.out.r.ltp, HB0.out.r.ltq⟩
              have hWw := HT0.out.size
              clear ht hcl hrok hXa
              generalize hcu : cut l t o = cu at *
              have HCU := hide hcu
              clear hcu
              generalize hNe : cu.length = N at *
              have HNE := hide hNe
              clear hNe
              go_wp2_with fail
              refine (rwords_mem rp rq l s t o wa (by rw [HL.out]; exact hn2) hx64 HBa.out.r).mono ?_
              rw [HCU.out, HNE.out]
              rintro e wb ⟨v1, rfl, hown, ht⟩
              obtain ⟨-, ao2, c5, rfl, hcl2⟩ := ownsRow_any hown
              have HC2 := hide hcl2
              have HBc := hide (HBa.out.turned ht)
              have HTc := hide (HTa.out.trans ht)
              have HRK2 := hide (HRK.out.turned ht)
              have HTU := hide ht
              clear hown ht hcl2 bx1 bx2 bx3 bx4
              go_wp2_with fail
              refine (same_true ao ao2 c4 c5 cu N wb HNE.out.symm (by omega) (fun i x hx => by
                obtain ⟨g, e1, _, e2, e3, _⟩ := HC.out i x hx
                exact ⟨g, e1, by rw [HTU.out.cell e2 (by simp)]; exact e3⟩) (fun i x hx => by
                obtain ⟨g, e1, _, e2, e3, _⟩ := HC2.out i x hx
                exact ⟨g, e1, e3⟩)).mono ?_
              rintro e wd ⟨rfl, ht⟩
              have HBd := hide (HBc.out.turned ht)
              have HTd := hide (HTc.out.trans ht)
              have HRK3 := hide (HRK2.out.turned ht)
              clear ht HC HC2 HTU HRK HRK2 HBa HBc HTa HTc
              go_wp2_with fail
              go_loopw [25] (fun j wi => ∃ jn : Nat, jn ≤ N ∧ j = .int .i64 jn ∧ Hid (Both wi p q rp rq l s) ∧ Hid (Turned [] w wi) ∧ Hid (RowOK wi ao N W0.heap.size)) (fun j _ => N - (intOf j).toNat)
              case atStart => exact ⟨0, Nat.zero_le _, rfl, HBd, HTd, HRK3⟩
              case round =>
                obtain ⟨jn, hj, rfl, HBi, HTi, HRi⟩ := hrel
                clear HBd HTd HRK3
                by_cases hjl : jn < N
                · obtain ⟨g, u, rfl, hg, hcu, hfu⟩ := HRi.out.cell jn hjl
                  have HB2 := hide (HBi.out.setOther (g := g) jn (.int .i64 99) (by omega) (by omega) (by omega) (by omega))
                  have HT2 := hide (HTi.out.setCell (p := ⟨g, jn, none⟩) (.inr (Nat.le_trans hWw hg)) (.int .i64 99))
                  have HR2 := hide (HRi.out.setCell g jn (.int .i64 99))
                  go_wp2_with fail
                  go_roundw
                  case rel => exact ⟨jn + 1, by omega, by go_num, HB2, HT2, HR2⟩
                  case measure => simp [intOf]; omega
                · have HBb := HBi
                  have HTb := HTi
                  have hrs := HBb.out.r.c1
                  have hst : ∀ m, Calls Try.prog 26 #[.pointer (some ⟨p, 0, none⟩)] (wr.drewN m) fun e w' => e = .returned (.int .i64 (s)) ∧ w' = wr.drewN m := fun m => steps_mem p q _ _ _ (HBb.out.drewN m).m
                  have HST := hide hst
                  clear hst
                  go_wp2_with fail
                  go_quiet ((go_at_call 26; exact Calls.quiet_of_same (HST.out _)))
                  go_wp2_with fail
                  go_roundw
                  case rel => exact ⟨k + 1, l, s, by omega, by omega, by go_num, HL, HRg, HBb.out.drewN _, HTb.out.drewN _⟩
                  case measure => simp [intOf]; omega
          as_aux_lemma =>
            have t0 : (kd.tmod 7 + 7 == 0) = false := by rw [beq_eq_false_iff_ne]; omega
            have t3 : (kd.tmod 7 + 7 == 3) = false := by rw [beq_eq_false_iff_ne]; omega
            have t4 : (kd.tmod 7 + 7 == 4) = false := by rw [beq_eq_false_iff_ne]; omega
            have t5 : (kd.tmod 7 + 7 == 5) = false := by rw [beq_eq_false_iff_ne]; omega
            have t6 : (kd.tmod 7 + 7 == 6) = false := by rw [beq_eq_false_iff_ne]; omega
            clear g0 g3 g4 g5 g6
            go_wp2_with fail
            generalize wr.alloc (.cells #[.int .i64 kd, .int .i64 t, .int .i64 o, .int .i64 v, .slice aL lL cL] 33) = W0 at *
            generalize wr.heap.size = x at *
            obtain ⟨bx1, bx2, bx3, bx4⟩ := HX0.out.cells
            go_region_held3 (fun w' => w'.cell? ⟨x, 1, none⟩ = some (.int .i64 t) ∧ w'.cell? ⟨x, 3, none⟩ = some (.int .i64 v)) (go_keep)
              (first
                | (go_at_call 24; refine (store_any p q l s t v _ (by exact HB0.out.m.drew)).mono ?_; rintro e wa ⟨rfl, hm, ht⟩; obtain ⟨hra, hta, by1, by2, by3, by4⟩ := after_c HB0.out HX0.out HT0.out HXN.out hp hq ht; have HRa := hide hra; have HTa := hide hta; have HMa := hide hm; clear hra hta hm ht)
                | (go_at_call 25; refine (rstore_any rp rq l s t v _ (by exact HRa.out)).mono ?_; rintro e wb ⟨rfl, hr, ht⟩; have hxn := not_in2 HXN.out.2.2.1 HXN.out.2.2.2; have bz1 := keep_cell ht by1 hxn; have bz2 := keep_cell ht by2 hxn; have bz3 := keep_cell ht by3 hxn; have bz4 := keep_cell ht by4 hxn; have HBb := hide (HB0.out.mk' HMa.out hr ht); have HTb := hide (HTa.out.trans_new ht (by simp; omega)); clear hr ht))
            clear bx1 bx2 bx3 bx4 by1 by2 by3 by4 bz1 bz2 bz3 bz4 hxn
            have hrs := HBb.out.r.c1
            have hst : ∀ m, Calls Try.prog 26 #[.pointer (some ⟨p, 0, none⟩)] (wb.drewN m) fun e w' => e = .returned (.int .i64 (stS l t s)) ∧ w' = wb.drewN m := fun m => steps_mem p q _ _ _ (HBb.out.drewN m).m
            have HST := hide hst
            clear hst
            go_wp2_with fail
            go_quiet ((go_at_call 26; exact Calls.quiet_of_same (HST.out _)))
            go_wp2_with fail
            go_roundw
            case rel => exact ⟨k + 1, setL l t v, stS l t s, by omega, by omega, by go_num, by show _ = _; rw [setL_length]; exact HL.out, setL_ranged HRg.out _ _ HV.out, HBb.out.drewN _, HTb.out.drewN _⟩
            case measure => simp [intOf]; omega
        · skip
          by_cases g0 : kd.tmod 7 = 0
          · as_aux_lemma =>
              have t0 : (kd.tmod 7 == 0) = true := by rw [beq_iff_eq]; omega
              clear g0
              go_wp2_with fail
              generalize wr.alloc (.cells #[.int .i64 kd, .int .i64 t, .int .i64 o, .int .i64 v, .slice aL lL cL] 33) = W0 at *
              generalize wr.heap.size = x at *
              refine (load_any p q l s t W0 HB0.out.m).mono ?_
              rintro e wa ⟨rfl, hm, ht⟩
              have HXa := hide (HX0.out.turned ht (by simp; exact ⟨HXN.out.1, HXN.out.2.1⟩))
              obtain ⟨bx1, bx2, bx3, bx4⟩ := HXa.out.cells
              have HRa := hide (HB0.out.ref ht)
              have HMa := hide hm
              have HTa := hide (HT0.out.trans_new ht (by simp; omega))
              clear hm ht
              go_wp2_with fail
              refine (rload_any rp rq l s t wa HRa.out).mono ?_
              rintro e wb ⟨rfl, hr, ht⟩
              have HBb := hide (HB0.out.mk' HMa.out hr ht)
              have HTb := hide (HTa.out.trans_new ht (by simp; omega))
              clear hr ht bx1 bx2 bx3 bx4
              have hrs := HBb.out.r.c1
              have hst : ∀ m, Calls Try.prog 26 #[.pointer (some ⟨p, 0, none⟩)] (wb.drewN m) fun e w' => e = .returned (.int .i64 (stS l t s)) ∧ w' = wb.drewN m := fun m => steps_mem p q _ _ _ (HBb.out.drewN m).m
              have HST := hide hst
              clear hst
              go_wp2_with fail
              go_quiet ((go_at_call 26; exact Calls.quiet_of_same (HST.out _)))
              go_wp2_with fail
              go_roundw
              case rel => exact ⟨k + 1, l, stS l t s, by omega, by omega, by go_num, HL, HRg, HBb.out.drewN _, HTb.out.drewN _⟩
              case measure => simp [intOf]; omega
          by_cases g3 : kd.tmod 7 = 3
          · as_aux_lemma =>
              have t0 : (kd.tmod 7 == 0) = false := by rw [beq_eq_false_iff_ne]; omega
              have t3 : (kd.tmod 7 == 3) = true := by rw [beq_iff_eq]; omega
              clear g0 g3
              go_wp2_with fail
              generalize wr.alloc (.cells #[.int .i64 kd, .int .i64 t, .int .i64 o, .int .i64 v, .slice aL lL cL] 33) = W0 at *
              generalize wr.heap.size = x at *
              refine (swap_any p q l s t o v W0 HB0.out.m).mono ?_
              rintro e wa ⟨rfl, hm, ht⟩
              have HXa := hide (HX0.out.turned ht (by simp; exact ⟨HXN.out.1, HXN.out.2.1⟩))
              obtain ⟨bx1, bx2, bx3, bx4⟩ := HXa.out.cells
              have HRa := hide (HB0.out.ref ht)
              have HMa := hide hm
              have HTa := hide (HT0.out.trans_new ht (by simp; omega))
              clear hm ht
              go_wp2_with fail
              refine (rswap_any rp rq l s t o v wa HRa.out).mono ?_
              rintro e wb ⟨rfl, hr, ht⟩
              have HBb := hide (HB0.out.mk' HMa.out hr ht)
              have HTb := hide (HTa.out.trans_new ht (by simp; omega))
              clear hr ht bx1 bx2 bx3 bx4
              have hrs := HBb.out.r.c1
              have hst : ∀ m, Calls Try.prog 26 #[.pointer (some ⟨p, 0, none⟩)] (wb.drewN m) fun e w' => e = .returned (.int .i64 (stS l t s)) ∧ w' = wb.drewN m := fun m => steps_mem p q _ _ _ (HBb.out.drewN m).m
              have HST := hide hst
              clear hst
              go_wp2_with fail
              go_quiet ((go_at_call 26; exact Calls.quiet_of_same (HST.out _)))
              go_wp2_with fail
              go_roundw
              case rel => exact ⟨k + 1, swL l t o v, stS l t s, by omega, by omega, by go_num, by show _ = _; rw [swL_length]; exact HL.out, swL_ranged HRg.out _ _ _ HV.out, HBb.out.drewN _, HTb.out.drewN _⟩
              case measure => simp [intOf]; omega
          by_cases g4 : kd.tmod 7 = 4
          · as_aux_lemma =>
              have t0 : (kd.tmod 7 == 0) = false := by rw [beq_eq_false_iff_ne]; omega
              have t3 : (kd.tmod 7 == 3) = false := by rw [beq_eq_false_iff_ne]; omega
              have t4 : (kd.tmod 7 == 4) = true := by rw [beq_iff_eq]; omega
              clear g0 g3 g4
              go_wp2_with fail
              generalize wr.alloc (.cells #[.int .i64 kd, .int .i64 t, .int .i64 o, .int .i64 v, .slice aL lL cL] 33) = W0 at *
              generalize wr.heap.size = x at *
              refine (add_any p q l s t v W0 HRg.out HB0.out.m).mono ?_
              rintro e wa ⟨rfl, hm, ht⟩
              have HXa := hide (HX0.out.turned ht (by simp; exact ⟨HXN.out.1, HXN.out.2.1⟩))
              obtain ⟨bx1, bx2, bx3, bx4⟩ := HXa.out.cells
              have HRa := hide (HB0.out.ref ht)
              have HMa := hide hm
              have HTa := hide (HT0.out.trans_new ht (by simp; omega))
              clear hm ht
              go_wp2_with fail
              refine (radd_any rp rq l s t v wa HRa.out).mono ?_
              rintro e wb ⟨rfl, hr, ht⟩
              have HBb := hide (HB0.out.mk' HMa.out hr ht)
              have HTb := hide (HTa.out.trans_new ht (by simp; omega))
              clear hr ht bx1 bx2 bx3 bx4
              have hrs := HBb.out.r.c1
              have hst : ∀ m, Calls Try.prog 26 #[.pointer (some ⟨p, 0, none⟩)] (wb.drewN m) fun e w' => e = .returned (.int .i64 (stS l t s)) ∧ w' = wb.drewN m := fun m => steps_mem p q _ _ _ (HBb.out.drewN m).m
              have HST := hide hst
              clear hst
              go_wp2_with fail
              go_quiet ((go_at_call 26; exact Calls.quiet_of_same (HST.out _)))
              go_wp2_with fail
              go_roundw
              case rel => exact ⟨k + 1, addL l t v, stS l t s, by omega, by omega, by go_num, by show _ = _; rw [addL_length]; exact HL.out, addL_ranged HRg.out _ _, HBb.out.drewN _, HTb.out.drewN _⟩
              case measure => simp [intOf]; omega
          by_cases g5 : kd.tmod 7 = 5
          · as_aux_lemma =>
              have t0 : (kd.tmod 7 == 0) = false := by rw [beq_eq_false_iff_ne]; omega
              have t3 : (kd.tmod 7 == 3) = false := by rw [beq_eq_false_iff_ne]; omega
              have t4 : (kd.tmod 7 == 4) = false := by rw [beq_eq_false_iff_ne]; omega
              have t5 : (kd.tmod 7 == 5) = true := by rw [beq_iff_eq]; omega
              clear g0 g3 g4 g5
              go_wp2_with fail
              generalize wr.alloc (.cells #[.int .i64 kd, .int .i64 t, .int .i64 o, .int .i64 v, .slice aL lL cL] 33) = W0 at *
              generalize wr.heap.size = x at *
              obtain ⟨bx1, bx2, bx3, bx4⟩ := HX0.out.cells
              go_region_held3 (fun w' => w'.cell? ⟨x, 1, none⟩ = some (.int .i64 t) ∧ w'.cell? ⟨x, 4, none⟩ = some (.slice aL lL cL)) (go_keep)
                (first
                  | (go_at_call 19; refine (put_any p q l s t aL lL cL zs _ (by rw [HL.out]; exact hn2) (by exact HB0.out.m.drew) (by exact HRow.out.below HT0.out.drew.below0)).mono ?_; rintro e wa ⟨rfl, hm, ht⟩; obtain ⟨hra, hta, by1, by2, by3, by4⟩ := after_c HB0.out HX0.out HT0.out HXN.out hp hq ht; have HRa := hide hra; have HTa := hide hta; have HMa := hide hm; clear hra hta hm ht)
                  | (go_at_call 20; refine (rput_any rp rq l s t aL lL cL zs _ (by rw [HL.out]; exact hn2) (by exact HRa.out) (by exact HRow.out.below HTa.out.below0) (fun b off h0 e => by have := row_block HRow.out h0 b off e; omega)).mono ?_; rintro e wb ⟨rfl, hr, ht⟩; have hxn := not_in2 HXN.out.2.2.1 HXN.out.2.2.2; have bz1 := keep_cell ht by1 hxn; have bz2 := keep_cell ht by2 hxn; have bz3 := keep_cell ht by3 hxn; have bz4 := keep_cell ht by4 hxn; have HBb := hide (HB0.out.mk' HMa.out hr ht); have HTb := hide (HTa.out.trans_new ht (by simp; omega)); clear hr ht))
              clear bx1 bx2 bx3 bx4 by1 by2 by3 by4 bz1 bz2 bz3 bz4 hxn
              have hrs := HBb.out.r.c1
              have hst : ∀ m, Calls Try.prog 26 #[.pointer (some ⟨p, 0, none⟩)] (wb.drewN m) fun e w' => e = .returned (.int .i64 (s)) ∧ w' = wb.drewN m := fun m => steps_mem p q _ _ _ (HBb.out.drewN m).m
              have HST := hide hst
              clear hst
              go_wp2_with fail
              go_quiet ((go_at_call 26; exact Calls.quiet_of_same (HST.out _)))
              go_wp2_with fail
              go_roundw
              case rel => exact ⟨k + 1, putL l t (zs.take lL), s, by omega, by omega, by go_num, by show _ = _; rw [putL_length]; exact HL.out, row_ranged HRow.out _ HRg.out _, HBb.out.drewN _, HTb.out.drewN _⟩
              case measure => simp [intOf]; omega
          by_cases g6 : kd.tmod 7 = 6
          · as_aux_lemma =>
              have t0 : (kd.tmod 7 == 0) = false := by rw [beq_eq_false_iff_ne]; omega
              have t3 : (kd.tmod 7 == 3) = false := by rw [beq_eq_false_iff_ne]; omega
              have t4 : (kd.tmod 7 == 4) = false := by rw [beq_eq_false_iff_ne]; omega
              have t5 : (kd.tmod 7 == 5) = false := by rw [beq_eq_false_iff_ne]; omega
              have t6 : (kd.tmod 7 == 6) = true := by rw [beq_iff_eq]; omega
              clear g0 g3 g4 g5 g6
              go_wp2_with fail
              generalize wr.alloc (.cells #[.int .i64 kd, .int .i64 t, .int .i64 o, .int .i64 v, .slice aL lL cL] 33) = W0 at *
              generalize wr.heap.size = x at *
              have hx64 := HT64.out.2
              refine (words_mem p q l s t o W0 (by rw [HL.out]; exact hn2) HB0.out.m).mono ?_
              rintro e wa ⟨v0, rfl, hown, ht⟩
              have hown0 : wa.ownsRow W0.heap.size 2 1 v0 (cut l t o).length ((cut l t o).map (Value.int .i64)) := hown
              obtain ⟨-, ao, c4, hv0, hcl⟩ := ownsRow_any hown0
              have hrok : RowOK wa ao (cut l t o).length W0.heap.size := by rw [hv0] at hown0; exact RowOK.of_owns hown0
              have hv0' : v0 = .slice ao (cut l t o).length c4 := hv0
              clear hown hown0 hv0
              subst hv0'
              have hN : (cut l t o).length ≤ 65536 := by have := HL.out; unfold cut; simp; omega
              have hXa := HX0.out.turned ht (by simp)
              obtain ⟨bx1, bx2, bx3, bx4⟩ := hXa.cells
              have HC := hide hcl
              have HRK := hide hrok
              have HBa := hide (HB0.out.turned ht)
              have HTa := hide (HT0.out.trans ht)
              have hW0 : p < W0.heap.size ∧ q < W0.heap.size ∧ rp < W0.heap.size ∧ rq < W0.heap.size := ⟨HB0.out.m.ltp, HB0.out.m.ltq, HB0.out.r.ltp, HB0.out.r.ltq⟩
              have hWw := HT0.out.size
              clear ht hcl hrok hXa
              generalize hcu : cut l t o = cu at *
              have HCU := hide hcu
              clear hcu
              generalize hNe : cu.length = N at *
              have HNE := hide hNe
              clear hNe
              go_wp2_with fail
              refine (rwords_mem rp rq l s t o wa (by rw [HL.out]; exact hn2) hx64 HBa.out.r).mono ?_
              rw [HCU.out, HNE.out]
              rintro e wb ⟨v1, rfl, hown, ht⟩
              obtain ⟨-, ao2, c5, rfl, hcl2⟩ := ownsRow_any hown
              have HC2 := hide hcl2
              have HBc := hide (HBa.out.turned ht)
              have HTc := hide (HTa.out.trans ht)
              have HRK2 := hide (HRK.out.turned ht)
              have HTU := hide ht
              clear hown ht hcl2 bx1 bx2 bx3 bx4
              go_wp2_with fail
              refine (same_true ao ao2 c4 c5 cu N wb HNE.out.symm (by omega) (fun i x hx => by
                obtain ⟨g, e1, _, e2, e3, _⟩ := HC.out i x hx
                exact ⟨g, e1, by rw [HTU.out.cell e2 (by simp)]; exact e3⟩) (fun i x hx => by
                obtain ⟨g, e1, _, e2, e3, _⟩ := HC2.out i x hx
                exact ⟨g, e1, e3⟩)).mono ?_
              rintro e wd ⟨rfl, ht⟩
              have HBd := hide (HBc.out.turned ht)
              have HTd := hide (HTc.out.trans ht)
              have HRK3 := hide (HRK2.out.turned ht)
              clear ht HC HC2 HTU HRK HRK2 HBa HBc HTa HTc
              go_wp2_with fail
              go_loopw [25] (fun j wi => ∃ jn : Nat, jn ≤ N ∧ j = .int .i64 jn ∧ Hid (Both wi p q rp rq l s) ∧ Hid (Turned [] w wi) ∧ Hid (RowOK wi ao N W0.heap.size)) (fun j _ => N - (intOf j).toNat)
              case atStart => exact ⟨0, Nat.zero_le _, rfl, HBd, HTd, HRK3⟩
              case round =>
                obtain ⟨jn, hj, rfl, HBi, HTi, HRi⟩ := hrel
                clear HBd HTd HRK3
                by_cases hjl : jn < N
                · obtain ⟨g, u, rfl, hg, hcu, hfu⟩ := HRi.out.cell jn hjl
                  have HB2 := hide (HBi.out.setOther (g := g) jn (.int .i64 99) (by omega) (by omega) (by omega) (by omega))
                  have HT2 := hide (HTi.out.setCell (p := ⟨g, jn, none⟩) (.inr (Nat.le_trans hWw hg)) (.int .i64 99))
                  have HR2 := hide (HRi.out.setCell g jn (.int .i64 99))
                  go_wp2_with fail
                  go_roundw
                  case rel => exact ⟨jn + 1, by omega, by go_num, HB2, HT2, HR2⟩
                  case measure => simp [intOf]; omega
                · have HBb := HBi
                  have HTb := HTi
                  have hrs := HBb.out.r.c1
                  have hst : ∀ m, Calls Try.prog 26 #[.pointer (some ⟨p, 0, none⟩)] (wr.drewN m) fun e w' => e = .returned (.int .i64 (s)) ∧ w' = wr.drewN m := fun m => steps_mem p q _ _ _ (HBb.out.drewN m).m
                  have HST := hide hst
                  clear hst
                  go_wp2_with fail
                  go_quiet ((go_at_call 26; exact Calls.quiet_of_same (HST.out _)))
                  go_wp2_with fail
                  go_roundw
                  case rel => exact ⟨k + 1, l, s, by omega, by omega, by go_num, HL, HRg, HBb.out.drewN _, HTb.out.drewN _⟩
                  case measure => simp [intOf]; omega
          as_aux_lemma =>
            have t0 : (kd.tmod 7 == 0) = false := by rw [beq_eq_false_iff_ne]; omega
            have t3 : (kd.tmod 7 == 3) = false := by rw [beq_eq_false_iff_ne]; omega
            have t4 : (kd.tmod 7 == 4) = false := by rw [beq_eq_false_iff_ne]; omega
            have t5 : (kd.tmod 7 == 5) = false := by rw [beq_eq_false_iff_ne]; omega
            have t6 : (kd.tmod 7 == 6) = false := by rw [beq_eq_false_iff_ne]; omega
            clear g0 g3 g4 g5 g6
            go_wp2_with fail
            generalize wr.alloc (.cells #[.int .i64 kd, .int .i64 t, .int .i64 o, .int .i64 v, .slice aL lL cL] 33) = W0 at *
            generalize wr.heap.size = x at *
            obtain ⟨bx1, bx2, bx3, bx4⟩ := HX0.out.cells
            go_region_held3 (fun w' => w'.cell? ⟨x, 1, none⟩ = some (.int .i64 t) ∧ w'.cell? ⟨x, 3, none⟩ = some (.int .i64 v)) (go_keep)
              (first
                | (go_at_call 24; refine (store_any p q l s t v _ (by exact HB0.out.m.drew)).mono ?_; rintro e wa ⟨rfl, hm, ht⟩; obtain ⟨hra, hta, by1, by2, by3, by4⟩ := after_c HB0.out HX0.out HT0.out HXN.out hp hq ht; have HRa := hide hra; have HTa := hide hta; have HMa := hide hm; clear hra hta hm ht)
                | (go_at_call 25; refine (rstore_any rp rq l s t v _ (by exact HRa.out)).mono ?_; rintro e wb ⟨rfl, hr, ht⟩; have hxn := not_in2 HXN.out.2.2.1 HXN.out.2.2.2; have bz1 := keep_cell ht by1 hxn; have bz2 := keep_cell ht by2 hxn; have bz3 := keep_cell ht by3 hxn; have bz4 := keep_cell ht by4 hxn; have HBb := hide (HB0.out.mk' HMa.out hr ht); have HTb := hide (HTa.out.trans_new ht (by simp; omega)); clear hr ht))
            clear bx1 bx2 bx3 bx4 by1 by2 by3 by4 bz1 bz2 bz3 bz4 hxn
            have hrs := HBb.out.r.c1
            have hst : ∀ m, Calls Try.prog 26 #[.pointer (some ⟨p, 0, none⟩)] (wb.drewN m) fun e w' => e = .returned (.int .i64 (stS l t s)) ∧ w' = wb.drewN m := fun m => steps_mem p q _ _ _ (HBb.out.drewN m).m
            have HST := hide hst
            clear hst
            go_wp2_with fail
            go_quiet ((go_at_call 26; exact Calls.quiet_of_same (HST.out _)))
            go_wp2_with fail
            go_roundw
            case rel => exact ⟨k + 1, setL l t v, stS l t s, by omega, by omega, by go_num, by show _ = _; rw [setL_length]; exact HL.out, setL_ranged HRg.out _ _ HV.out, HBb.out.drewN _, HTb.out.drewN _⟩
            case measure => simp [intOf]; omega
      · as_aux_lemma =>
          have hrw := HBr.out.r.c0
          rw [HL.out] at hrw
          have hnl : l.length ≤ 65536 := by rw [HL.out]; exact hn2
          go_wp2_with fail
          go_region_held3 (fun w' => w'.cell? ⟨rp, 0, none⟩ = some (.slice (some ⟨rq, 0, none⟩) n n)) (go_keep)
            (first
              | (go_at_call 21; refine (words_mem p q l s 0 65536 _ hnl (by exact HBr.out.m.drew)).mono ?_; rw [words_full l hnl]; rintro e wa ⟨v0, rfl, hown, ht⟩; rw [HL.out] at hown; obtain ⟨-, ao, c4, rfl, hcl⟩ := ownsRow_any hown; have hk1 := keep_cell (S := []) (x := rp) (i := 0) ht hrw List.not_mem_nil; have HC := hide hcl; have HRa := hide (HBr.out.r.drewIs.turned ht List.not_mem_nil List.not_mem_nil); have HTa := hide (HTr.out.drew.trans ht); clear hcl ht hown)
              | (go_at_call 22; refine (same_true ao (some ⟨rq, 0, none⟩) c4 n l n _ HL.out.symm (by omega) (fun i x hx => by obtain ⟨g, e1, _, e2, e3, _⟩ := HC.out i x hx; exact ⟨g, e1, e3⟩) (fun i x hx => ⟨rq, rfl, HRa.out.word hx⟩)).mono ?_; rintro e wb ⟨rfl, ht⟩; have hk2 := keep_cell (S := []) (x := rp) (i := 0) ht hk1 List.not_mem_nil; have HTb := hide (HTa.out.trans ht); clear ht))
          go_wp2_with fail
          go_ret
          exact ⟨rfl, HTb.out⟩
    · as_aux_lemma =>
        have hrw := HBr.out.r.c0
        rw [HL.out] at hrw
        have hnl : l.length ≤ 65536 := by rw [HL.out]; exact hn2
        go_wp2_with fail
        go_region_held3 (fun w' => w'.cell? ⟨rp, 0, none⟩ = some (.slice (some ⟨rq, 0, none⟩) n n)) (go_keep)
          (first
            | (go_at_call 21; refine (words_mem p q l s 0 65536 _ hnl (by exact HBr.out.m.drew)).mono ?_; rw [words_full l hnl]; rintro e wa ⟨v0, rfl, hown, ht⟩; rw [HL.out] at hown; obtain ⟨-, ao, c4, rfl, hcl⟩ := ownsRow_any hown; have hk1 := keep_cell (S := []) (x := rp) (i := 0) ht hrw List.not_mem_nil; have HC := hide hcl; have HRa := hide (HBr.out.r.drewIs.turned ht List.not_mem_nil List.not_mem_nil); have HTa := hide (HTr.out.drew.trans ht); clear hcl ht hown)
            | (go_at_call 22; refine (same_true ao (some ⟨rq, 0, none⟩) c4 n l n _ HL.out.symm (by omega) (fun i x hx => by obtain ⟨g, e1, _, e2, e3, _⟩ := HC.out i x hx; exact ⟨g, e1, e3⟩) (fun i x hx => ⟨rq, rfl, HRa.out.word hx⟩)).mono ?_; rintro e wb ⟨rfl, ht⟩; have hk2 := keep_cell (S := []) (x := rp) (i := 0) ht hk1 List.not_mem_nil; have HTb := hide (HTa.out.trans ht); clear ht))
        go_wp2_with fail
        go_ret
        exact ⟨rfl, HTb.out⟩
end Go.Proofs.Ythkdikdhceibnaa

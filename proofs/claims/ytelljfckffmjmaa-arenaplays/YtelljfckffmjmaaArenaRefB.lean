/-
  Step of the document's ask: a size that may not be, the buffer has as much, a filler; and the swap.
-/
import Derived.Test.YtelljfckffmjmaaArenaRef
namespace Go.Proofs.Ytelljfckffmjmaa
open Go.RowKit
set_option linter.unusedVariables false

section
variable (w w0 : World) (m p q D b o : Nat) (T : TypeId) (A : AC) (l bl : List Int) (s : Int)

set_option maxRecDepth 100000 in
theorem rstep_done (r : RkS) (hd : r.ended = true) (h : RkB w b m D o r) :
    Calls Try.prog 19 #[.pointer (some ⟨b, 0, none⟩)] w fun e w' => e = .returned (.bool true) ∧ w' = w := by
  have f7 := RkG.f h 7
  simp only [rkCells] at f7
  rw [hd] at f7
  clear h hd
  go_enter Try.func19, Try.ntmps19
  go_wp2_with fail
  go_ret
  exact ⟨rfl, rfl⟩

set_option maxRecDepth 100000 in
theorem rstep_bad (sz t0 want ps er : Int) (lg0 : Bool) (hs : sz < 1 ∨ 65536 < sz) (h : Rs w0 w m p q D b T A l bl s (rkCells m D o ⟨sz, 0, lg0, t0, want, false, ps, er⟩)) :
    Calls Try.prog 19 #[.pointer (some ⟨b, 0, none⟩)] w fun e w' => e = .returned (.bool true) ∧ Rs w0 w' m p q D b T A l bl s (rkCells m D o ⟨sz, 0, lg0, t0, want, true, 0, 11⟩) := by
  have H0 := hide h
  have f2 := h.ak.f 2
  have f3 := h.ak.f 3
  have f7 := h.ak.f 7
  simp only [rkCells] at f2 f3 f7
  have HE := hide (rends_any w m D b o ⟨sz, 0, lg0, t0, want, false, ps, er⟩ _ 0 11 rfl h.ak)
  clear h
  go_enter Try.func19, Try.ntmps19
  go_wp2_with fail
  all_goals (
    refine HE.out.mono ?_
    rintro e w7 ⟨rfl, g7, t7⟩
    have H7 := hide (H0.out.askd t7 g7)
    clear g7 t7 HE H0
    go_wp2_with fail
    go_ret
    exact ⟨rfl, H7.out⟩)

set_option maxRecDepth 100000 in
theorem rstep_take (f t sz t0 want ps er : Int) (lg0 : Bool) (hf : 0 ≤ f ∧ f ≤ t ∧ t ≤ l.length) (h0 : bl[o]? = some f) (h1 : bl[o + 1]? = some t) (hs : 1 ≤ sz ∧ sz ≤ 65536) (hx : sz ≤ t - f) (h : Rs w0 w m p q D b T A l bl s (rkCells m D o ⟨sz, 0, lg0, t0, want, false, ps, er⟩)) :
    Calls Try.prog 19 #[.pointer (some ⟨b, 0, none⟩)] w fun e w' => e = .returned (.bool true) ∧ Rs w0 w' m p q D b T A l (bl.set o (f + sz)) s (rkCells m D o ⟨sz, 0, lg0, t0, want, true, f, 0⟩) := by
  have HH := hide h
  have hm := h.ar.most
  have f1 := h.ak.f 1
  have f2 := h.ak.f 2
  have f3 := h.ak.f 3
  have f7 := h.ak.f 7
  have q0 := h.bf.at h0
  have q1 := h.bf.at h1
  simp only [rkCells] at f1 f2 f3 f7
  have hft : 0 ≤ f ∧ f ≤ t ∧ t ≤ 65536 := by omega
  have HB0 := hide h0
  have HB2 := hide (show (bl.set o (f + sz))[o]? = some (f + sz) by rw [List.getElem?_set_self]; exact (List.getElem?_eq_some_iff.1 h0).1)
  clear h hf hm h0 h1
  have ew : IntKind.i64.wrap (t - f) = t - f := by rw [IntKind.wrap_i64]; omega
  have ew2 : IntKind.i64.wrap (f + sz) = f + sz := by rw [IntKind.wrap_i64]; omega
  have ew3 : IntKind.i64.wrap (f + sz - sz) = f := by rw [IntKind.wrap_i64]; omega
  have ew4 : IntKind.i64.wrap f = f := by rw [IntKind.wrap_i64]; omega
  have dx1 : decide (sz ≤ t - f) = true := decide_eq_true hx
  go_enter Try.func19, Try.ntmps19
  go_wp2_with fail
  go_quiet (fail)
  have HA := hide (HH.out.drewN nq)
  generalize w.drewN nq = wa at *
  clear HH f1 f2 f3 f7 q0 q1
  have f1 := HA.out.ak.f 1
  have f2 := HA.out.ak.f 2
  have q0 := HA.out.bf.at HB0.out
  have q0z := HA.out.bf.fz o
  simp only [rkCells] at f1 f2
  go_wp2_with fail
  go_region
  have HB := hide ((HA.out.put o (f + sz)).drew)
  generalize (wa.setCell ⟨D, o, none⟩ (.int .i64 (f + sz))).drew = wb at *
  clear HA f1 f2 q0 q0z
  have f1 := HB.out.ak.f 1
  have f2 := HB.out.ak.f 2
  have q0 := HB.out.bf.at HB2.out
  simp only [rkCells] at f1 f2
  go_wp2_with fail
  go_region_held3 (fun w' => w'.cell? ⟨b, 1, none⟩ = some (.pointer (some ⟨D, o, none⟩)) ∧ w'.cell? ⟨b, 2, none⟩ = some (.int .i64 sz) ∧ w'.cell? ⟨D, o, none⟩ = some (.int .i64 (f + sz))) (go_keep)
    (first
      | (go_at_call 39; refine (rends_any _ m D b o ⟨sz, 0, lg0, t0, want, false, ps, er⟩ _ f 0 rfl HB.out.drew.ak).mono ?_; rintro e w7 ⟨rfl, g7, t7⟩; have H7 := hide (HB.out.drew.askd t7 g7); have i1 := H7.out.ak.f 1; have i2 := H7.out.ak.f 2; have i3 := H7.out.bf.at HB2.out; simp only [rkCells] at i1 i2; clear g7 t7))
  clear HB f1 f2 q0 i1 i2 i3
  go_wp2_with fail
  go_ret
  exact ⟨rfl, H7.out⟩

set_option maxHeartbeats 4000000 in
set_option maxRecDepth 100000 in
theorem rstep_fill (f t sz t0 want ps er : Int) (lg0 : Bool) (hf : 0 ≤ f ∧ f < t ∧ t ≤ l.length) (h0 : bl[o]? = some f) (h1 : bl[o + 1]? = some t) (hs : 1 ≤ sz ∧ sz ≤ 65536) (hx : t - f < sz) (hg : lg A sz = false) (h : Rs w0 w m p q D b T A l bl s (rkCells m D o ⟨sz, 0, lg0, t0, want, false, ps, er⟩)) :
    Calls Try.prog 19 #[.pointer (some ⟨b, 0, none⟩)] w fun e w' => e = .returned (.bool false) ∧ Rs w0 w' m p q D b T A (l.set f.toNat (headOf 0 (t - f - 1))) ((bl.set o 0).set (o + 1) 0) (wrap64 (s + 1)) (rkCells m D o ⟨sz, 1, false, t0, want, false, ps, er⟩) := by
  have HH := hide h
  have hbuf := h.ar.buf
  have hm := h.ar.most
  have f1 := h.ak.f 1
  have f2 := h.ak.f 2
  have f3 := h.ak.f 3
  have f7 := h.ak.f 7
  have q0 := h.bf.at h0
  have q1 := h.bf.at h1
  simp only [rkCells] at f1 f2 f3 f7
  have hft : 0 ≤ f ∧ f < t ∧ t ≤ 65536 := by omega
  have HB0 := hide h0
  have HB1 := hide h1
  have HF := hide (fun w' (h' : Rb w' w' m p q D T A l bl s) => fills_any w' m p q D o T A l bl s f t hf h0 h1 h')
  have hlg : decide ((A.buf : Int) < 2 * sz) = false := hg
  clear h hf hm h0 h1 hg
  generalize l.set f.toNat (headOf 0 (t - f - 1)) = l2 at *
  generalize (bl.set o 0).set (o + 1) 0 = bl2 at *
  have ew : IntKind.i64.wrap (t - f) = t - f := by rw [IntKind.wrap_i64]; omega
  have ew2 : IntKind.i64.wrap (2 * sz) = 2 * sz := by rw [IntKind.wrap_i64]; omega
  have hx1 : ¬ (sz ≤ t - f) := by omega
  have dx1 : decide (sz ≤ t - f) = false := decide_eq_false hx1
  go_enter Try.func19, Try.ntmps19
  go_wp2_with fail
  go_quiet (fail)
  have HA := hide (HH.out.drewN nq)
  generalize w.drewN nq = wa at *
  clear HH f1 f2 f3 f7 q0 q1
  have f0 := HA.out.ak.f 0
  have f2 := HA.out.ak.f 2
  have f4 := HA.out.ak.f 4
  have f4z := HA.out.ak.fz 4
  have d3 := HA.out.ar.c3
  simp only [rkCells] at f0 f2 f4
  have HLG := hide hlg
  clear hlg
  go_wp2_with fail
  go_region
  have HB := hide (show Rs w0 ((wa.setCell ⟨b, 4, none⟩ (.bool (decide ((A.buf : Int) < 2 * sz)))).drew) m p q D b T A l bl s (rkCells m D o ⟨sz, 0, false, t0, want, false, ps, er⟩) from by rw [HLG.out]; exact (HA.out.set 4 _).drew)
  generalize (wa.setCell ⟨b, 4, none⟩ (.bool (decide ((A.buf : Int) < 2 * sz)))).drew = wb at *
  clear HA f0 f2 f4 f4z d3
  have f3 := HB.out.ak.f 3
  have f3z := HB.out.ak.fz 3
  simp only [rkCells] at f3
  go_upto_region 13 with fail
  have HC := hide (show Rs w0 (wb.setCell ⟨b, 3, none⟩ (.int .i64 1)) m p q D b T A l bl s (rkCells m D o ⟨sz, 1, false, t0, want, false, ps, er⟩) from HB.out.set 3 _)
  generalize wb.setCell ⟨b, 3, none⟩ (.int .i64 1) = wc2 at *
  clear HB f3 f3z
  have f1 := HC.out.ak.f 1
  have f4 := HC.out.ak.f 4
  have q0 := HC.out.bf.at HB0.out
  have q1 := HC.out.bf.at HB1.out
  simp only [rkCells] at f1 f4
  have hfe : f < t := hft.2.1
  have dfe : decide (f < t) = true := decide_eq_true hfe
  go_quiet (fail)
  have H0 := hide (HC.out.drewN nq)
  generalize wc2.drewN nq = wd at *
  clear HC f1 f4 q0 q1
  have f0 := H0.out.ak.f 0
  have f1 := H0.out.ak.f 1
  simp only [rkCells] at f0 f1
  go_wp2_with fail
  go_region_held3 (fun w' => w'.cell? ⟨b, 0, none⟩ = some (.pointer (some ⟨m, 0, none⟩)) ∧ w'.cell? ⟨b, 1, none⟩ = some (.pointer (some ⟨D, o, none⟩))) (go_keep)
    (first
      | (go_at_call 38; refine (HF.out _ H0.out.drew.rb).mono ?_; rintro e w7 ⟨rfl, g7⟩; have H7 := hide (H0.out.drew.filled g7); have i1 := H7.out.ak.f 0; have i2 := H7.out.ak.f 1; simp only [rkCells] at i1 i2; clear g7))
  clear H0 f0 f1 i1 i2
  go_wp2_with fail
  go_ret
  exact ⟨rfl, H7.out⟩

set_option maxHeartbeats 4000000 in
set_option maxRecDepth 100000 in
theorem rstep_miss (sz t want ps er : Int) (g : Bool) (ht : 0 ≤ t ∧ 0 ≤ want ∧ t + want ≤ A.to) (hx : ¬ topOf A l = t) (h : Rs w0 w m p q D b T A l bl s (rkCells m D o ⟨sz, 2, g, t, want, false, ps, er⟩)) :
    Calls Try.prog 19 #[.pointer (some ⟨b, 0, none⟩)] w fun e w' => e = .returned (.bool false) ∧ Rs w0 w' m p q D b T A l bl (wrap64 (s + 1)) (rkCells m D o ⟨sz, 1, g, t, want, false, ps, er⟩) := by
  have hto : A.to ≤ 65536 := Nat.le_trans h.ar.til h.ar.most
  have hr : 0 ≤ t + want ∧ t + want ≤ 65536 ∧ t ≤ 65536 ∧ want ≤ 65536 := by omega
  have e1 : IntKind.i64.wrap (t + want) = t + want := by rw [IntKind.wrap_i64]; omega
  have HS := hide (fun w' (h' : Rn w' m p q A l s) => rswap_miss p q l s w' A.top (topOf A l) t (t + want) h'.at hx h'.mem)
  have H0 := hide h
  have c0 := h.ar.c0
  have c1 := h.ar.c1
  have f0 := h.ak.f 0
  have f3 := h.ak.f 3
  have f5 := h.ak.f 5
  have f6 := h.ak.f 6
  have f7 := h.ak.f 7
  simp only [rkCells] at f0 f3 f5 f6 f7
  clear h hto hx
  go_enter Try.func19, Try.ntmps19
  go_wp2_with fail
  go_region_held3 (fun w' => w'.cell? ⟨m, 0, none⟩ = some (.pointer (some ⟨p, 0, none⟩)) ∧ w'.cell? ⟨m, 1, none⟩ = some (.int .i64 A.top) ∧ w'.cell? ⟨b, 0, none⟩ = some (.pointer (some ⟨m, 0, none⟩)) ∧ w'.cell? ⟨b, 5, none⟩ = some (.int .i64 t) ∧ w'.cell? ⟨b, 6, none⟩ = some (.int .i64 want)) (go_keep)
    (first
      | (go_at_call 41; refine (HS.out _ H0.out.ar.drew).mono ?_; rintro e w1 ⟨rfl, m1, t1⟩; have g1 := H0.out.drew.acc m1 rfl t1; have g2 := g1.ar.c0; have g3 := g1.ar.c1; have g4 := g1.ak.f 0; have g5 := g1.ak.f 5; have g6 := g1.ak.f 6; simp only [rkCells] at g4 g5 g6; have H1 := hide g1; clear HS m1 t1 g1))
  clear H0 c0 c1 f0 f3 f5 f6 f7 g2 g3 g4 g5 g6
  have f3 := H1.out.ak.f 3
  have f3z := H1.out.ak.fz 3
  simp only [rkCells] at f3
  go_upto_region 32 with fail
  have H2 := hide (show Rs w0 (w1.setCell ⟨b, 3, none⟩ (.int .i64 1)) m p q D b T A l bl (wrap64 (s + 1)) (rkCells m D o ⟨sz, 1, g, t, want, false, ps, er⟩) from H1.out.set 3 _)
  generalize w1.setCell ⟨b, 3, none⟩ (.int .i64 1) = w2 at *
  clear H1 f3 f3z
  have f7 := H2.out.ak.f 7
  simp only [rkCells] at f7
  go_wp2_with fail
  go_ret
  exact ⟨rfl, H2.out⟩

set_option maxHeartbeats 4000000 in
set_option maxRecDepth 100000 in
theorem rstep_hit (sz t want ps er : Int) (hs : 1 ≤ sz ∧ sz ≤ 65536) (ht : 0 ≤ t ∧ sz ≤ want ∧ t + want ≤ A.to) (h0 : o + 1 < bl.length) (hx : topOf A l = t) (h : Rs w0 w m p q D b T A l bl s (rkCells m D o ⟨sz, 2, lg A sz, t, want, false, ps, er⟩)) :
    Calls Try.prog 19 #[.pointer (some ⟨b, 0, none⟩)] w fun e w' => e = .returned (.bool true) ∧ Rs w0 w' m p q D b T A (l.set A.top (t + want)) (if lg A sz then bl else (bl.set o (t + sz)).set (o + 1) (t + want)) (wrap64 (s + 1)) (rkCells m D o ⟨sz, 1, lg A sz, t, want, true, t, 0⟩) := by
  have hto : A.to ≤ 65536 := Nat.le_trans h.ar.til h.ar.most
  have hr : 0 ≤ t + want ∧ t + want ≤ 65536 ∧ t ≤ 65536 ∧ want ≤ 65536 := by omega
  have e1 : IntKind.i64.wrap (t + want) = t + want := by rw [IntKind.wrap_i64]; omega
  have e2 : IntKind.i64.wrap (t + sz) = t + sz := by rw [IntKind.wrap_i64]; omega
  have HS := hide (fun w' (h' : Rn w' m p q A l s) => rswap_hit p q l s w' A.top t (t + want) (by have h1 := h'.at; rw [hx] at h1; exact h1) h'.mem)
  have HN := hide (show (l.set A.top (t + want)).length = l.length by simp)
  obtain ⟨x0, hx0⟩ : ∃ x, bl[o]? = some x := ⟨bl[o]'(by omega), by simp⟩
  obtain ⟨x1, hx1⟩ : ∃ x, (bl.set o (t + sz))[o + 1]? = some x := ⟨(bl.set o (t + sz))[o + 1]'(by simp; omega), by simp⟩
  have HX0 := hide hx0
  have HX1 := hide hx1
  have H0 := hide h
  have c0 := h.ar.c0
  have c1 := h.ar.c1
  have f0 := h.ak.f 0
  have f3 := h.ak.f 3
  have f5 := h.ak.f 5
  have f6 := h.ak.f 6
  have f7 := h.ak.f 7
  simp only [rkCells] at f0 f3 f5 f6 f7
  clear h hto hx h0 hx0 hx1
  generalize l.set A.top (t + want) = l2 at *
  generalize lg A sz = g at *
  generalize hK : (if g = true then bl else _) = bl2
  have HK := hide hK
  clear hK
  go_enter Try.func19, Try.ntmps19
  go_wp2_with fail
  go_region_held3 (fun w' => w'.cell? ⟨m, 0, none⟩ = some (.pointer (some ⟨p, 0, none⟩)) ∧ w'.cell? ⟨m, 1, none⟩ = some (.int .i64 A.top) ∧ w'.cell? ⟨b, 0, none⟩ = some (.pointer (some ⟨m, 0, none⟩)) ∧ w'.cell? ⟨b, 5, none⟩ = some (.int .i64 t) ∧ w'.cell? ⟨b, 6, none⟩ = some (.int .i64 want)) (go_keep)
    (first
      | (go_at_call 41; refine (HS.out _ H0.out.ar.drew).mono ?_; rintro e w1 ⟨rfl, m1, t1⟩; have g1 := H0.out.drew.acc m1 HN.out t1; have g2 := g1.ar.c0; have g3 := g1.ar.c1; have g4 := g1.ak.f 0; have g5 := g1.ak.f 5; have g6 := g1.ak.f 6; simp only [rkCells] at g4 g5 g6; have H1 := hide g1; clear HS m1 t1 g1))
  clear H0 c0 c1 f0 f3 f5 f6 f7 g2 g3 g4 g5 g6
  have f3 := H1.out.ak.f 3
  have f3z := H1.out.ak.fz 3
  simp only [rkCells] at f3
  go_upto_region 32 with fail
  have H2 := hide (show Rs w0 (w1.setCell ⟨b, 3, none⟩ (.int .i64 1)) m p q D b T A l2 bl (wrap64 (s + 1)) (rkCells m D o ⟨sz, 1, g, t, want, false, ps, er⟩) from H1.out.set 3 _)
  generalize w1.setCell ⟨b, 3, none⟩ (.int .i64 1) = w2 at *
  clear H1 f3 f3z
  have f4 := H2.out.ak.f 4
  have f5 := H2.out.ak.f 5
  have f7 := H2.out.ak.f 7
  simp only [rkCells] at f4 f5 f7
  cases g
  · have f1 := H2.out.ak.f 1
    have f2 := H2.out.ak.f 2
    have q0 := H2.out.bf.at HX0.out
    have q0z := H2.out.bf.fz o
    simp only [rkCells] at f1 f2
    go_wp2_with fail
    go_region
    have H3 := hide ((H2.out.put o (t + sz)).drew)
    generalize (w2.setCell ⟨D, o, none⟩ (.int .i64 (t + sz))).drew = w3 at *
    clear H2 f1 f2 f4 f5 f7 q0 q0z
    have f1 := H3.out.ak.f 1
    have f5 := H3.out.ak.f 5
    have f6 := H3.out.ak.f 6
    have q0 := H3.out.bf.at HX1.out
    have q0z := H3.out.bf.fz (o + 1)
    simp only [rkCells] at f1 f5 f6
    go_wp2_with fail
    go_region
    have H4 := hide ((H3.out.put (o + 1) (t + want)).drew)
    generalize (w3.setCell ⟨D, o + 1, none⟩ (.int .i64 (t + want))).drew = w4 at *
    clear H3 f1 f5 f6 q0 q0z
    have f5 := H4.out.ak.f 5
    simp only [rkCells] at f5
    have HE := hide (rends_any w4 m D b o ⟨sz, 1, false, t, want, false, ps, er⟩ _ t 0 rfl H4.out.ak)
    go_wp2_with fail
    refine HE.out.mono ?_
    rintro e w7 ⟨rfl, g7, t7⟩
    have H7 := hide (H4.out.askd t7 g7)
    clear g7 t7 HE H4 f5
    have f7 := H7.out.ak.f 7
    simp only [rkCells] at f7
    go_wp2_with fail
    go_ret
    rw [← HK.out, if_neg (by simp)]
    exact ⟨rfl, H7.out⟩
  · have HE := hide (rends_any w2 m D b o ⟨sz, 1, true, t, want, false, ps, er⟩ _ t 0 rfl H2.out.ak)
    go_wp2_with fail
    refine HE.out.mono ?_
    rintro e w7 ⟨rfl, g7, t7⟩
    have H7 := hide (H2.out.askd t7 g7)
    clear g7 t7 HE H2 f4 f5 f7
    have f7 := H7.out.ak.f 7
    simp only [rkCells] at f7
    go_wp2_with fail
    go_ret
    rw [← HK.out, if_pos trivial]
    exact ⟨rfl, H7.out⟩
end
end Go.Proofs.Ytelljfckffmjmaa

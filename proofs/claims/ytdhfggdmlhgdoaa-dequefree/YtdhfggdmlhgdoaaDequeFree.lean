/-
  DequeFree: whatever the order of steps, once all operations are done nobody holds the stack's lock, and the top is not above the bottom: true for every size and every script. (Text by DequeFree.gen.py.)
-/
import Derived.Test.YtdhfggdmlhgdoaaDequePlay
namespace Go.Proofs.Ytdhfggdmlhgdoaa
open Go.ChangeShapes Go.WideShapes Go.ChangeAt Go.RowKit
set_option linter.unusedVariables false

theorem fi_zero (n ov k : Nat) (hn : 1 ≤ n) (hk : 4 + n + ov ≤ k) (m : Nat → OpS) : FI ⟨0, n, ov⟩ (List.replicate k 0) (act (fun _ => none) m) := by
  have z : ∀ j, rd ⟨0, n, ov⟩ (List.replicate k 0) j = 0 := by
    intro j
    unfold rd
    rw [List.getD_eq_getElem?_getD, List.getElem?_replicate]
    split <;> rfl
  refine ⟨by rw [z]; rfl, by rw [z]; omega, fun h => by simp [act, nilOp] at h, fun i _ _ h => by simp [act, nilOp] at h, ?_, fun i _ _ h => by simp [act, nilOp] at h, by rw [z]; omega, fun i _ => trivial, by simp; omega, hn⟩
  rw [z, z]
  show (0 : Int) ≤ 0
  omega

set_option maxHeartbeats 4000000 in
set_option maxRecDepth 100000 in
theorem dequeFree_walk (x y : Int) (a : Option Addr) (len cap : Nat) (cs : List Op3) (w : World) (h0 : In64 x ∧ In64 y) (hR : ORd w a len cs) :
    Calls Try.prog 7 #[.agg #[.int .i64 x, .int .i64 y], .slice a len cap] w fun e w' => e = .returned (.bool true) ∧ Turned [] w w' := by
  have tz : Turned [] w (w.alloc (.cells #[.int .i64 x, .int .i64 y] 66)) := (Turned.refl _ _).alloc _
  have c0 : (w.alloc (.cells #[.int .i64 x, .int .i64 y] 66)).cell? ⟨w.heap.size, 0, none⟩ = some (.int .i64 x) := by rw [cell_of_heap (heap_alloc_new _ _)]; rfl
  have c1 : (w.alloc (.cells #[.int .i64 x, .int .i64 y] 66)).cell? ⟨w.heap.size, 1, none⟩ = some (.int .i64 y) := by rw [cell_of_heap (heap_alloc_new _ _)]; rfl
  have HAw := hide (awake_any (w.alloc (.cells #[.int .i64 x, .int .i64 y] 66)))
  have HR := hide hR
  have HP1 := hide (fun W => lpick_any x 4 W (wf_of h0.1) (by omega))
  have HP2 := hide (fun W => lpick_any y 5 W (wf_of h0.2) (by omega))
  have hroom := hR.room
  clear h0 hR
  go_enter Try.func7, Try.ntmps7
  go_wp2_with fail
  have TZ := hide tz
  generalize w.alloc (.cells #[.int .i64 x, .int .i64 y] 66) = wz at *
  obtain ⟨z, hz⟩ : ∃ z, z = w.heap.size := ⟨_, rfl⟩
  rw [← hz] at c0 c1
  rw [← hz]
  have hz2 : z < wz.heap.size := block_lt c0
  clear hz tz
  refine HAw.out.mono ?_
  rintro e w0 ⟨rfl, t0⟩
  have k0 : w0.cell? ⟨z, 0, none⟩ = some (.int .i64 x) := by rw [t0.cell (p := ⟨z, 0, none⟩) hz2 (by simp)]; exact c0
  have k1 : w0.cell? ⟨z, 1, none⟩ = some (.int .i64 y) := by rw [t0.cell (p := ⟨z, 1, none⟩) hz2 (by simp)]; exact c1
  have T0 := hide (TZ.out.trans t0)
  have HNew := hide (new_any 60 w0)
  clear t0 HAw TZ c0 c1 hz2
  go_wp2_with fail
  refine HNew.out.mono ?_
  rintro e w1 ⟨rfl, h1, t1, -⟩
  have hw0 : w.heap.size ≤ w0.heap.size := T0.out.size
  have j0 : w1.cell? ⟨z, 0, none⟩ = some (.int .i64 x) := by rw [t1.cell (p := ⟨z, 0, none⟩) (block_lt k0) (by simp)]; exact k0
  have j1 : w1.cell? ⟨z, 1, none⟩ = some (.int .i64 y) := by rw [t1.cell (p := ⟨z, 1, none⟩) (block_lt k1) (by simp)]; exact k1
  obtain ⟨p, hp⟩ : ∃ p, p = w0.heap.size + 1 := ⟨_, rfl⟩
  obtain ⟨q, hq⟩ : ∃ q, q = w0.heap.size := ⟨_, rfl⟩
  rw [← hp, ← hq] at h1
  rw [← hp]
  have HPQ := hide (show w.heap.size ≤ p ∧ w.heap.size ≤ q by omega)
  have T1 := hide (T0.out.trans t1)
  have M1 := hide h1
  clear h1 t1 hp hq HNew T0 hw0 k0 k1
  go_wp2_with fail
  have HDN : Hid (∀ r1 r2 : Nat, r1 < 4 → r2 < 5 → Calls Try.prog 11 #[.pointer (some ⟨p, 0, none⟩), .int .i64 0, .int .i64 (IntKind.i64.wrap (1 + (r1 : Int))), .int .i64 (r2 : Int)] w1.drew fun e w' => e = .returned (.tuple #[.pointer (some ⟨w1.heap.size, 0, none⟩), .int .i64 0]) ∧ Dn w' w1.heap.size p q ⟨0, 1 + r1, r2⟩ (List.replicate 60 0) ∧ Turned [] w1 w') := by
    intro r1 r2 h1 h2
    rw [show IntKind.i64.wrap (1 + (r1 : Int)) = ((1 + r1 : Nat) : Int) by rw [IntKind.wrap_i64]; omega]
    refine (dnew_ok w1.drew p q ⟨0, 1 + r1, r2⟩ (List.replicate 60 0) 0 (show 1 ≤ 1 + r1 ∧ 1 + r1 ≤ 64 by omega) (show r2 ≤ 4096 by omega) (show 0 + (4 + (1 + r1) + r2) ≤ (List.replicate 60 (0 : Int)).length by rw [List.length_replicate]; omega) (by simp) M1.out.drew).mono ?_
    rintro e w' ⟨rfl, h3, h4, _⟩
    exact ⟨rfl, ⟨0, h3⟩, (Turned.refl [] w1).drew.trans h4⟩
  go_region_held3 (fun w' => w'.cell? ⟨z, 0, none⟩ = some (.int .i64 x) ∧ w'.cell? ⟨z, 1, none⟩ = some (.int .i64 y)) (go_keep)
    (first
      | (go_at_call 15; refine (HP1.out _).mono ?_; rintro e wa ⟨⟨r1, rfl, hr1⟩, rfl⟩; clear HP1)
      | (go_at_call 15; refine (HP2.out _).mono ?_; rintro e wb ⟨⟨r2, rfl, hr2⟩, rfl⟩; clear HP2)
      | (go_at_call 11; refine (HDN.out r1 r2 hr1 hr2).mono ?_; rintro e w2 ⟨rfl, h2, t2⟩; have D2 := hide h2; have i0 : w2.cell? ⟨z, 0, none⟩ = some (.int .i64 x) := (t2.cell (p := ⟨z, 0, none⟩) (block_lt j0) (by simp)).trans j0; have i1 : w2.cell? ⟨z, 1, none⟩ = some (.int .i64 y) := (t2.cell (p := ⟨z, 1, none⟩) (block_lt j1) (by simp)).trans j1; have T2 := hide (T1.out.trans t2); have hdl : w1.heap.size < w2.heap.size := (by obtain ⟨s, hh⟩ := h2; exact hh.ltd); clear h2 t2))
  have HDD := hide (show w.heap.size ≤ w1.heap.size from T1.out.size)
  obtain ⟨n, hn⟩ : ∃ n, n = 1 + r1 := ⟨_, rfl⟩
  rw [← hn] at D2
  have hnn : 1 ≤ n ∧ n ≤ 4 := by omega
  have FZ := hide (fi_zero n r2 60 hnn.1 (by omega) (fun _ => nilOp))
  generalize w1.heap.size = d at *
  clear HDN M1 T1 j0 j1 hn hr1 i0 i1
  generalize hl0 : List.replicate 60 (0 : Int) = l0 at *
  have HL0 := hide hl0
  clear hl0
  go_wp2_with fail
  have ta : Turned [] w2 (w2.alloc (.cells #[.pointer none, .pointer none, .pointer none, .pointer none] 38)) := (Turned.refl _ _).alloc _
  have HPl : Hid (Play w.heap.size (w2.alloc (.cells #[.pointer none, .pointer none, .pointer none, .pointer none] 38)) w2.heap.size d p q ⟨0, n, r2⟩ l0 (fun _ => none) (fun _ => nilOp) 0) := by
    obtain ⟨s, hd⟩ := D2.out
    have h1 := hd.ltd
    have h2 := hd.mem.ltp
    have h3 := hd.mem.ltq
    have zz : ∀ j, rd ⟨0, n, r2⟩ l0 j = 0 := by
      intro j
      rw [← HL0.out]
      unfold rd
      rw [List.getD_eq_getElem?_getD, List.getElem?_replicate]
      split <;> rfl
    refine ⟨⟨s, hd.turned ta (by simp) (by simp) (by simp)⟩, ⟨fun i hi => ?_, fun i => ?_, by simp⟩, ⟨by omega, by omega, by omega⟩, fun i b _ hb => (by cases hb), fun i j b _ _ hb => (by cases hb), FZ.out, fun i b _ hb => (by cases hb), by rw [zz]; omega, by rw [zz]; omega, ⟨by have := T2.out.size; omega, HPQ.out.1, HPQ.out.2, HDD.out⟩⟩
    · rw [cell_of_heap (heap_alloc_new _ _)]
      have : i = 0 ∨ i = 1 ∨ i = 2 ∨ i = 3 := by omega
      rcases this with rfl | rfl | rfl | rfl <;> rfl
    · have hh := heap_alloc_new w2 (.cells #[.pointer none, .pointer none, .pointer none, .pointer none] 38)
      simp only [World.frozen?, hh]
      simp
  have TA := hide (T2.out.trans ta)
  generalize w2.alloc (.cells #[.pointer none, .pointer none, .pointer none, .pointer none] 38) = w3 at *
  generalize w2.heap.size = g at *
  clear ta T2 D2 FZ hdl
  go_loopg [10] 201 (fun gg s10 wr => ∃ k : Nat, s10 = .int .i64 (k : Int) ∧ k ≤ 200 ∧ k ≤ len ∧ 200 - k ≤ gg ∧ Aside (Turned [] w wr) ∧ Aside (∃ l xs m, Play w.heap.size wr g d p q ⟨0, n, r2⟩ l xs m (k : Int)))
  case atStart => exact ⟨0, rfl, by omega, by omega, by omega, TA.out, ⟨l0, _, _, HPl.out⟩⟩
  case round =>
    obtain ⟨i, rfl, hi, hil, hgg, htu, hst⟩ := hrel
    obtain ⟨l, xs, m, hpl⟩ := hst.out
    clear HPl TA
    have HTU := hide htu.out
    have PL := hide hpl
    clear hst hpl htu
    by_cases hgo : i < len ∧ i < 200
    · obtain ⟨hi1, hi2⟩ := hgo
      have e1 : (i : Int) < (len : Int) := by omega
      have e2 : (i : Int) < 200 := by omega
      obtain ⟨c, hc⟩ : ∃ c, cs[i]? = some c := ⟨_, List.getElem?_eq_getElem (by rw [HR.out.size]; exact hi1)⟩
      obtain ⟨b0, off0, rfl, d0, d1, d2⟩ := HR.out.cell i c hc
      have hin := HR.out.inn c (List.mem_of_getElem? hc)
      obtain ⟨K, Wh, V⟩ := c
      simp only at d0 d1 d2
      have f0 : wr.cell? ⟨b0, off0 + i * 3, none⟩ = some (.int .i64 K) := by rw [HTU.out.cell (p := ⟨b0, _, none⟩) (block_lt d0) (by simp)]; exact d0
      have f1 : wr.cell? ⟨b0, off0 + i * 3 + 1, none⟩ = some (.int .i64 Wh) := by rw [HTU.out.cell (p := ⟨b0, _, none⟩) (block_lt d1) (by simp)]; exact d1
      have f2 : wr.cell? ⟨b0, off0 + i * 3 + 2, none⟩ = some (.int .i64 V) := by rw [HTU.out.cell (p := ⟨b0, _, none⟩) (block_lt d2) (by simp)]; exact d2
      have HPk := hide (lpick_any K 6 wr (wf_of hin.1) (by omega))
      have HPw := hide (lpick_any Wh 3 wr (wf_of hin.2.1) (by omega))
      clear d0 d1 d2 hc hin
      go_wp2_with fail
      refine HPk.out.mono ?_
      rintro e wk ⟨⟨k, rfl, hk⟩, hwk⟩
      rw [hwk]
      clear HPk hwk wk
      by_cases hk0 : k = 0
      · subst hk0
        clear HPw
        have ec := PL.out.ar.at_ 0 (by omega)
        have HDo := hide (PL.out.done 0 (by omega))
        cases hx : xs 0 with
        | none =>
          rw [hx] at ec
          simp only [pv] at ec
          have ed : (act xs m 0).done = true := by simp [act, hx, nilOp]
          clear HDo
          have HOp := hide (PL.out.dn.push V)
          go_wp2_with fail
          refine HOp.out.mono ?_
          rintro e wa ⟨rfl, h3, h4, h5, h6⟩
          have hbg := PL.out.begin 0 (by omega) ed .pushReadBottom V (.inl ⟨rfl, .inl rfl⟩) HTU.out.size h3 h4 h5 h6
          have ar := PL.out.ar.turned h5 (by simp)
          have au := ar.at_ 0 (by omega)
          have az := ar.fz 0
          simp only [pv] at hbg
          rw [hx] at au
          simp only [pv] at au
          have HBG := hide hbg
          clear ar hbg h3 h4 h5 h6 HOp
          generalize wr.heap.size = b9 at *
          go_wp2_with fail
          go_roundg (200 - (i + 1))
          case measure => omega
          case rel => exact ⟨i + 1, by go_num, by omega, by omega, Nat.le_refl _, HTU.out.trans_new HBG.out.2 (fun c hc => by have := PL.out.lo; simp at hc; subst hc; right; omega), ⟨_, _, _, HBG.out.1.more (by omega)⟩⟩
        | some b =>
          have eb : act xs m 0 = m b := by simp [act, hx]
          rw [hx, eb] at HDo
          rw [hx] at ec
          simp only [pv] at ec HDo
          cases hdd : (m b).done with
          | true =>
            rw [hdd] at HDo
            have ed : (act xs m 0).done = true := by rw [eb]; exact hdd
            clear hdd eb
            have HOp := hide (PL.out.dn.push V)
            go_wp2_with (go_at_call 23; refine HDo.out.mono ?_; rintro e wv ⟨rfl, hwv⟩; rw [hwv]; clear hwv wv)
            refine HOp.out.mono ?_
            rintro e wa ⟨rfl, h3, h4, h5, h6⟩
            have hbg := PL.out.begin 0 (by omega) ed .pushReadBottom V (.inl ⟨rfl, .inl rfl⟩) HTU.out.size h3 h4 h5 h6
            have ar := PL.out.ar.turned h5 (by simp)
            have au := ar.at_ 0 (by omega)
            have az := ar.fz 0
            simp only [pv] at hbg
            rw [hx] at au
            simp only [pv] at au
            have HBG := hide hbg
            clear ar hbg h3 h4 h5 h6 HOp
            generalize wr.heap.size = b9 at *
            go_wp2_with fail
            go_roundg (200 - (i + 1))
            case measure => omega
            case rel => exact ⟨i + 1, by go_num, by omega, by omega, Nat.le_refl _, HTU.out.trans_new HBG.out.2 (fun c hc => by have := PL.out.lo; simp at hc; subst hc; right; omega), ⟨_, _, _, HBG.out.1.more (by omega)⟩⟩
          | false =>
            rw [hdd] at HDo
            clear hdd eb
            go_wp2_with (go_at_call 23; refine HDo.out.mono ?_; rintro e wv ⟨rfl, hwv⟩; rw [hwv]; clear hwv wv)
            go_roundg (200 - (i + 1))
            case measure => omega
            case rel => exact ⟨i + 1, by go_num, by omega, by omega, Nat.le_refl _, HTU.out, ⟨l, xs, m, PL.out.more (by omega)⟩⟩
      · by_cases hk1 : k = 1
        · subst hk1
          clear HPw
          have ec := PL.out.ar.at_ 0 (by omega)
          have HDo := hide (PL.out.done 0 (by omega))
          cases hx : xs 0 with
          | none =>
            rw [hx] at ec
            simp only [pv] at ec
            have ed : (act xs m 0).done = true := by simp [act, hx, nilOp]
            clear HDo
            have HOp := hide (PL.out.dn.pop)
            go_wp2_with fail
            refine HOp.out.mono ?_
            rintro e wa ⟨rfl, h3, h4, h5, h6⟩
            have hbg := PL.out.begin 0 (by omega) ed .popReadBottom 0 (.inl ⟨rfl, .inr rfl⟩) HTU.out.size h3 h4 h5 h6
            have ar := PL.out.ar.turned h5 (by simp)
            have au := ar.at_ 0 (by omega)
            have az := ar.fz 0
            simp only [pv] at hbg
            rw [hx] at au
            simp only [pv] at au
            have HBG := hide hbg
            clear ar hbg h3 h4 h5 h6 HOp
            generalize wr.heap.size = b9 at *
            go_wp2_with fail
            go_roundg (200 - (i + 1))
            case measure => omega
            case rel => exact ⟨i + 1, by go_num, by omega, by omega, Nat.le_refl _, HTU.out.trans_new HBG.out.2 (fun c hc => by have := PL.out.lo; simp at hc; subst hc; right; omega), ⟨_, _, _, HBG.out.1.more (by omega)⟩⟩
          | some b =>
            have eb : act xs m 0 = m b := by simp [act, hx]
            rw [hx, eb] at HDo
            rw [hx] at ec
            simp only [pv] at ec HDo
            cases hdd : (m b).done with
            | true =>
              rw [hdd] at HDo
              have ed : (act xs m 0).done = true := by rw [eb]; exact hdd
              clear hdd eb
              have HOp := hide (PL.out.dn.pop)
              go_wp2_with (go_at_call 23; refine HDo.out.mono ?_; rintro e wv ⟨rfl, hwv⟩; rw [hwv]; clear hwv wv)
              refine HOp.out.mono ?_
              rintro e wa ⟨rfl, h3, h4, h5, h6⟩
              have hbg := PL.out.begin 0 (by omega) ed .popReadBottom 0 (.inl ⟨rfl, .inr rfl⟩) HTU.out.size h3 h4 h5 h6
              have ar := PL.out.ar.turned h5 (by simp)
              have au := ar.at_ 0 (by omega)
              have az := ar.fz 0
              simp only [pv] at hbg
              rw [hx] at au
              simp only [pv] at au
              have HBG := hide hbg
              clear ar hbg h3 h4 h5 h6 HOp
              generalize wr.heap.size = b9 at *
              go_wp2_with fail
              go_roundg (200 - (i + 1))
              case measure => omega
              case rel => exact ⟨i + 1, by go_num, by omega, by omega, Nat.le_refl _, HTU.out.trans_new HBG.out.2 (fun c hc => by have := PL.out.lo; simp at hc; subst hc; right; omega), ⟨_, _, _, HBG.out.1.more (by omega)⟩⟩
            | false =>
              rw [hdd] at HDo
              clear hdd eb
              go_wp2_with (go_at_call 23; refine HDo.out.mono ?_; rintro e wv ⟨rfl, hwv⟩; rw [hwv]; clear hwv wv)
              go_roundg (200 - (i + 1))
              case measure => omega
              case rel => exact ⟨i + 1, by go_num, by omega, by omega, Nat.le_refl _, HTU.out, ⟨l, xs, m, PL.out.more (by omega)⟩⟩
        · by_cases hk2 : k = 2
          · subst hk2
            have hu0 : True := trivial
            go_wp2_with fail
            refine HPw.out.mono ?_
            rintro e wv ⟨⟨u0, rfl, hu⟩, hwv⟩
            rw [hwv]
            clear hwv wv
            obtain ⟨u, hu1⟩ : ∃ u, u = 1 + u0 := ⟨_, rfl⟩
            have hu2 : (1 : Int) + (u0 : Int) = (u : Int) := by omega
            have hu3 : 1 ≤ u ∧ u ≤ 3 := by omega
            clear hu1 hu HPw
            have ec := PL.out.ar.at_ u (by omega)
            have HDo := hide (PL.out.done u (by omega))
            cases hx : xs u with
            | none =>
              rw [hx] at ec
              simp only [pv] at ec
              have ed : (act xs m u).done = true := by simp [act, hx, nilOp]
              clear HDo
              have HOp := hide (PL.out.dn.steal)
              go_wp2_with fail
              refine HOp.out.mono ?_
              rintro e wa ⟨rfl, h3, h4, h5, h6⟩
              have hbg := PL.out.begin u (by omega) ed .stealReadTop 0 (.inr ⟨by omega, rfl⟩) HTU.out.size h3 h4 h5 h6
              have ar := PL.out.ar.turned h5 (by simp)
              have au := ar.at_ u (by omega)
              have az := ar.fz u
              simp only [pv] at hbg
              rw [hx] at au
              simp only [pv] at au
              have HBG := hide hbg
              clear ar hbg h3 h4 h5 h6 HOp
              generalize wr.heap.size = b9 at *
              go_wp2_with fail
              go_roundg (200 - (i + 1))
              case measure => omega
              case rel => exact ⟨i + 1, by go_num, by omega, by omega, Nat.le_refl _, HTU.out.trans_new HBG.out.2 (fun c hc => by have := PL.out.lo; simp at hc; subst hc; right; omega), ⟨_, _, _, HBG.out.1.more (by omega)⟩⟩
            | some b =>
              have eb : act xs m u = m b := by simp [act, hx]
              rw [hx, eb] at HDo
              rw [hx] at ec
              simp only [pv] at ec HDo
              cases hdd : (m b).done with
              | true =>
                rw [hdd] at HDo
                have ed : (act xs m u).done = true := by rw [eb]; exact hdd
                clear hdd eb
                have HOp := hide (PL.out.dn.steal)
                go_wp2_with (go_at_call 23; refine HDo.out.mono ?_; rintro e wv ⟨rfl, hwv⟩; rw [hwv]; clear hwv wv)
                refine HOp.out.mono ?_
                rintro e wa ⟨rfl, h3, h4, h5, h6⟩
                have hbg := PL.out.begin u (by omega) ed .stealReadTop 0 (.inr ⟨by omega, rfl⟩) HTU.out.size h3 h4 h5 h6
                have ar := PL.out.ar.turned h5 (by simp)
                have au := ar.at_ u (by omega)
                have az := ar.fz u
                simp only [pv] at hbg
                rw [hx] at au
                simp only [pv] at au
                have HBG := hide hbg
                clear ar hbg h3 h4 h5 h6 HOp
                generalize wr.heap.size = b9 at *
                go_wp2_with fail
                go_roundg (200 - (i + 1))
                case measure => omega
                case rel => exact ⟨i + 1, by go_num, by omega, by omega, Nat.le_refl _, HTU.out.trans_new HBG.out.2 (fun c hc => by have := PL.out.lo; simp at hc; subst hc; right; omega), ⟨_, _, _, HBG.out.1.more (by omega)⟩⟩
              | false =>
                rw [hdd] at HDo
                clear hdd eb
                go_wp2_with (go_at_call 23; refine HDo.out.mono ?_; rintro e wv ⟨rfl, hwv⟩; rw [hwv]; clear hwv wv)
                go_roundg (200 - (i + 1))
                case measure => omega
                case rel => exact ⟨i + 1, by go_num, by omega, by omega, Nat.le_refl _, HTU.out, ⟨l, xs, m, PL.out.more (by omega)⟩⟩
          · by_cases hk3 : 3 < k
            · have hk45 : k = 4 ∨ k = 5 := by omega
              clear hk0 hk1 hk2 hk3 hk
              rcases hk45 with hk45 | hk45
              · subst hk45
                have hu0 : True := trivial
                go_wp2_with fail
                refine HPw.out.mono ?_
                rintro e wv ⟨⟨u0, rfl, hu⟩, hwv⟩
                rw [hwv]
                clear hwv wv
                obtain ⟨u, hu1⟩ : ∃ u, u = 1 + u0 := ⟨_, rfl⟩
                have hu2 : (1 : Int) + (u0 : Int) = (u : Int) := by omega
                have hu3 : 1 ≤ u ∧ u ≤ 3 := by omega
                clear hu1 hu HPw
                have ec := PL.out.ar.at_ u (by omega)
                have HDo := hide (PL.out.done u (by omega))
                cases hx : xs u with
                | none =>
                  rw [hx] at ec
                  simp only [pv] at ec
                  have ed : (act xs m u).done = true := by simp [act, hx, nilOp]
                  clear HDo
                  have HSt := hide (step_nil wr)
                  go_wp2_with fail
                  refine HSt.out.mono ?_
                  rintro e wv ⟨rfl, hwv⟩
                  rw [hwv]
                  clear hwv wv
                  go_wp2_with fail
                  go_roundg (200 - (i + 1))
                  case measure => omega
                  case rel => exact ⟨i + 1, by go_num, by omega, by omega, Nat.le_refl _, HTU.out, ⟨l, xs, m, PL.out.more (by omega)⟩⟩
                | some b =>
                  have eb : act xs m u = m b := by simp [act, hx]
                  rw [hx, eb] at HDo
                  rw [hx] at ec
                  simp only [pv] at ec HDo
                  obtain ⟨s, hdq⟩ := PL.out.dn
                  have hob := PL.out.ops u b (by omega) hx
                  have HSt := hide (step_any wr d p q b ⟨0, n, r2⟩ l s (i : Int) (by omega) (m b) (PL.out.fit u b (by omega) hx) hob.2.1 hdq hob.1)
                  have HOB := hide hob.2
                  generalize hdd : (m b).done = dd at HDo
                  clear hdd hdq hob eb
                  generalize hss : (stepOf ⟨0, n, r2⟩ l (m b)).2.done = ss at HSt
                  clear hss
                  go_wp2_with (first | (go_at_call 23; refine HDo.out.mono ?_; rintro e wv ⟨rfl, hwv⟩; rw [hwv]; clear hwv wv) | (go_at_call 20; refine HSt.out.mono ?_; rintro e w5 ⟨rfl, h1, h2, h3⟩; have H1 := hide h1; have H2 := hide h2; have H3 := hide h3; clear h1 h2 h3))
                  go_roundg (200 - (i + 1))
                  case measure => omega
                  case rel => exact ⟨i + 1, by go_num, by omega, by omega, Nat.le_refl _, HTU.out.trans_new H3.out (fun c hc => by have := PL.out.lo; have := HOB.out; simp at hc; right; rcases hc with rfl | rfl | rfl <;> omega), ⟨_, _, _, (PL.out.step u (by omega) b hx H1.out H2.out H3.out).more (by omega)⟩⟩
              · subst hk45
                have hu0 : True := trivial
                go_wp2_with fail
                refine HPw.out.mono ?_
                rintro e wv ⟨⟨u0, rfl, hu⟩, hwv⟩
                rw [hwv]
                clear hwv wv
                obtain ⟨u, hu1⟩ : ∃ u, u = 1 + u0 := ⟨_, rfl⟩
                have hu2 : (1 : Int) + (u0 : Int) = (u : Int) := by omega
                have hu3 : 1 ≤ u ∧ u ≤ 3 := by omega
                clear hu1 hu HPw
                have ec := PL.out.ar.at_ u (by omega)
                have HDo := hide (PL.out.done u (by omega))
                cases hx : xs u with
                | none =>
                  rw [hx] at ec
                  simp only [pv] at ec
                  have ed : (act xs m u).done = true := by simp [act, hx, nilOp]
                  clear HDo
                  have HSt := hide (step_nil wr)
                  go_wp2_with fail
                  refine HSt.out.mono ?_
                  rintro e wv ⟨rfl, hwv⟩
                  rw [hwv]
                  clear hwv wv
                  go_wp2_with fail
                  go_roundg (200 - (i + 1))
                  case measure => omega
                  case rel => exact ⟨i + 1, by go_num, by omega, by omega, Nat.le_refl _, HTU.out, ⟨l, xs, m, PL.out.more (by omega)⟩⟩
                | some b =>
                  have eb : act xs m u = m b := by simp [act, hx]
                  rw [hx, eb] at HDo
                  rw [hx] at ec
                  simp only [pv] at ec HDo
                  obtain ⟨s, hdq⟩ := PL.out.dn
                  have hob := PL.out.ops u b (by omega) hx
                  have HSt := hide (step_any wr d p q b ⟨0, n, r2⟩ l s (i : Int) (by omega) (m b) (PL.out.fit u b (by omega) hx) hob.2.1 hdq hob.1)
                  have HOB := hide hob.2
                  generalize hdd : (m b).done = dd at HDo
                  clear hdd hdq hob eb
                  generalize hss : (stepOf ⟨0, n, r2⟩ l (m b)).2.done = ss at HSt
                  clear hss
                  go_wp2_with (first | (go_at_call 23; refine HDo.out.mono ?_; rintro e wv ⟨rfl, hwv⟩; rw [hwv]; clear hwv wv) | (go_at_call 20; refine HSt.out.mono ?_; rintro e w5 ⟨rfl, h1, h2, h3⟩; have H1 := hide h1; have H2 := hide h2; have H3 := hide h3; clear h1 h2 h3))
                  go_roundg (200 - (i + 1))
                  case measure => omega
                  case rel => exact ⟨i + 1, by go_num, by omega, by omega, Nat.le_refl _, HTU.out.trans_new H3.out (fun c hc => by have := PL.out.lo; have := HOB.out; simp at hc; right; rcases hc with rfl | rfl | rfl <;> omega), ⟨_, _, _, (PL.out.step u (by omega) b hx H1.out H2.out H3.out).more (by omega)⟩⟩
            · have hk4 : k = 3 := by omega
              clear hk0 hk1 hk2 hk3
              subst hk4
              clear HPw
              have ec := PL.out.ar.at_ 0 (by omega)
              have HDo := hide (PL.out.done 0 (by omega))
              cases hx : xs 0 with
              | none =>
                rw [hx] at ec
                simp only [pv] at ec
                have ed : (act xs m 0).done = true := by simp [act, hx, nilOp]
                clear HDo
                have HSt := hide (step_nil wr)
                go_wp2_with fail
                refine HSt.out.mono ?_
                rintro e wv ⟨rfl, hwv⟩
                rw [hwv]
                clear hwv wv
                go_wp2_with fail
                go_roundg (200 - (i + 1))
                case measure => omega
                case rel => exact ⟨i + 1, by go_num, by omega, by omega, Nat.le_refl _, HTU.out, ⟨l, xs, m, PL.out.more (by omega)⟩⟩
              | some b =>
                have eb : act xs m 0 = m b := by simp [act, hx]
                rw [hx, eb] at HDo
                rw [hx] at ec
                simp only [pv] at ec HDo
                obtain ⟨s, hdq⟩ := PL.out.dn
                have hob := PL.out.ops 0 b (by omega) hx
                have HSt := hide (step_any wr d p q b ⟨0, n, r2⟩ l s (i : Int) (by omega) (m b) (PL.out.fit 0 b (by omega) hx) hob.2.1 hdq hob.1)
                have HOB := hide hob.2
                generalize hdd : (m b).done = dd at HDo
                clear hdd hdq hob eb
                generalize hss : (stepOf ⟨0, n, r2⟩ l (m b)).2.done = ss at HSt
                clear hss
                go_wp2_with (first | (go_at_call 23; refine HDo.out.mono ?_; rintro e wv ⟨rfl, hwv⟩; rw [hwv]; clear hwv wv) | (go_at_call 20; refine HSt.out.mono ?_; rintro e w5 ⟨rfl, h1, h2, h3⟩; have H1 := hide h1; have H2 := hide h2; have H3 := hide h3; clear h1 h2 h3))
                go_roundg (200 - (i + 1))
                case measure => omega
                case rel => exact ⟨i + 1, by go_num, by omega, by omega, Nat.le_refl _, HTU.out.trans_new H3.out (fun c hc => by have := PL.out.lo; have := HOB.out; simp at hc; right; rcases hc with rfl | rfl | rfl <;> omega), ⟨_, _, _, (PL.out.step 0 (by omega) b hx H1.out H2.out H3.out).more (by omega)⟩⟩
    · have ends := hide hgo
      have hbl : ∀ b, (∃ i, i ≤ 3 ∧ xs i = some b) ↔ b ∈ (four xs).filterMap id := by
        intro b
        simp only [four, List.mem_filterMap, List.mem_cons, List.not_mem_nil, or_false, id]
        constructor
        · rintro ⟨i, hi, e⟩
          have : i = 0 ∨ i = 1 ∨ i = 2 ∨ i = 3 := by omega
          exact ⟨some b, by rcases this with rfl | rfl | rfl | rfl <;> simp [e], rfl⟩
        · rintro ⟨x, hx, e⟩
          subst e
          rcases hx with hx | hx | hx | hx
          · exact ⟨0, by omega, hx.symm⟩
          · exact ⟨1, by omega, hx.symm⟩
          · exact ⟨2, by omega, hx.symm⟩
          · exact ⟨3, by omega, hx.symm⟩
      have HRun : Hid (Calls Try.prog 32 #[.pointer (some ⟨d, 0, none⟩), .slice (some ⟨g, 0, none⟩) 4 4] wr fun e w' => (∃ k : Int, e = .returned (.int .i64 k)) ∧ (∃ l' s' m', Dq w' d p q ⟨0, n, r2⟩ l' s' ∧ FI ⟨0, n, r2⟩ l' (act xs m') ∧ (∀ i, i ≤ 3 → (act xs m' i).done = true) ∧ Ar w' g xs ∧ ∀ i b, i ≤ 3 → xs i = some b → OpB w' b d (m' b)) ∧ Turned [] w w') := by
        obtain ⟨s, hdq⟩ := PL.out.dn
        refine (run_any wr d p q ⟨0, n, r2⟩ l s ((four xs).filterMap id) m (four xs) g 0 4 4 (i : Int) (by omega) rfl (by omega) (fun b hb => (hbl b).1 ?_) (fun j x hx => ?_) ⟨hdq, fun b hb => ?_, fun b hb => ?_⟩ (fun b hb => ?_)).mono ?_
        · simp only [four, List.mem_cons, List.not_mem_nil, or_false] at hb
          rcases hb with hb | hb | hb | hb
          · exact ⟨0, by omega, hb.symm⟩
          · exact ⟨1, by omega, hb.symm⟩
          · exact ⟨2, by omega, hb.symm⟩
          · exact ⟨3, by omega, hb.symm⟩
        · rw [Nat.zero_add]
          match j, hx with
          | 0, hx => cases hx; exact PL.out.ar.at_ 0 (by omega)
          | 1, hx => cases hx; exact PL.out.ar.at_ 1 (by omega)
          | 2, hx => cases hx; exact PL.out.ar.at_ 2 (by omega)
          | 3, hx => cases hx; exact PL.out.ar.at_ 3 (by omega)
          | j + 4, hx => simp [four] at hx
        · obtain ⟨j, hj, e⟩ := (hbl b).2 hb
          exact (PL.out.ops j b hj e).1
        · obtain ⟨j, hj, e⟩ := (hbl b).2 hb
          exact (PL.out.ops j b hj e).2.1
        · obtain ⟨j, hj, e⟩ := (hbl b).2 hb
          exact PL.out.fit j b hj e
        · rintro e w' ⟨k, rfl, h1, ⟨s', h2⟩, h3⟩
          have h4 := four_ends ⟨0, n, r2⟩ xs PL.out.apart l m PL.out.fi k h1
          have hgS : g ∉ p :: q :: (four xs).filterMap id := by
            have := PL.out.gne
            simp only [List.mem_cons, not_or]
            refine ⟨this.2.1, this.2.2, fun hm => ?_⟩
            obtain ⟨j, hj, e⟩ := (hbl g).2 hm
            exact (PL.out.ops j g hj e).2.2.1 rfl
          refine ⟨⟨_, rfl⟩, ⟨_, s', _, h2.dq, h4.1, h4.2, PL.out.ar.turned h3 hgS, fun j b hj e => h2.ops b ((hbl b).1 ⟨j, hj, e⟩)⟩, HTU.out.trans_new h3 (fun c hc => ?_)⟩
          right
          simp only [List.mem_cons] at hc
          rcases hc with rfl | rfl | hc
          · exact PL.out.lo.2.1
          · exact PL.out.lo.2.2.1
          · obtain ⟨j, hj, e⟩ := (hbl c).2 hc
            exact (PL.out.ops j c hj e).2.2.2
      have HLO := hide PL.out.lo
      have HGQ := hide (show g ≠ p ∧ g ≠ q ∧ ∀ j b, j ≤ 3 → xs j = some b → b ≠ p ∧ b ≠ q from ⟨PL.out.gne.2.1, PL.out.gne.2.2, fun j b hj e => (PL.out.ops j b hj e).2.1.2⟩)
      clear hbl PL HTU hgo
      by_cases hil2 : i < len
      · have e1 : (i : Int) < (len : Int) := by omega
        have e2 : ¬ (i : Int) < 200 := by have := ends.out; omega
        go_wp2_with fail
        refine HRun.out.mono ?_
        rintro e w4 ⟨⟨kk, rfl⟩, ⟨l', s', m', h1, h2, h3, h4, h5⟩, h6⟩
        have hl2 : l'[2]? = some (rd ⟨0, n, r2⟩ l' 2) := by have := h1.at (k := 2) (by omega); simpa using this
        have hz : rd ⟨0, n, r2⟩ l' 2 = 0 := by
          have := h2.lock
          rw [hn_done (h3 0 (by omega)), hn_done (h3 1 (by omega)), hn_done (h3 2 (by omega)), hn_done (h3 3 (by omega))] at this
          omega
        rw [hz] at hl2
        have hTB : rd ⟨0, n, r2⟩ l' 0 ≤ rd ⟨0, n, r2⟩ l' 1 := by
          have := h2.own
          unfold OwnI at this
          rw [if_pos (h3 0 (by omega))] at this
          exact this
        have HL := hide (load_in p q l' s' w4 2 0 hl2 h1.mem)
        have HTB := hide hTB
        have HN3 := hide h2.stk
        have HDone := hide h3
        have HArr := hide h4
        have HOps := hide h5
        have HD4 := hide h1
        have T4 := hide h6
        have HGN := hide (show g ≠ p ∧ g ≠ q ∧ ∀ j b, j ≤ 3 → xs j = some b → b ≠ p ∧ b ≠ q from HGQ.out)
        clear h1 h2 h3 h4 h5 h6 hl2 hz hTB HRun
        go_wp2_with fail
        refine HL.out.mono ?_
        rintro e w5 ⟨rfl, h7, h8⟩
        have D5 := hide (HD4.out.acc h7 rfl h8)
        have A5 := hide (HArr.out.turned h8 (by simp; exact ⟨HGN.out.1, HGN.out.2.1⟩))
        have O5 := hide (fun j b (hj : j ≤ 3) (e : xs j = some b) => (HOps.out j b hj e).turned h8 (by simp; exact HGN.out.2.2 j b hj e))
        have T5 := hide (T4.out.trans_new h8 (fun c hc => by have := HLO.out; simp at hc; right; rcases hc with rfl | rfl <;> omega))
        clear h7 h8 HL HD4 HArr HOps T4
        go_wp2_with fail
        go_loopg [16] 5 (fun gg s16 wr => ∃ j : Nat, s16 = .int .i64 (j : Int) ∧ j ≤ 4 ∧ 4 - j ≤ gg ∧ Aside (wr = w5))
        case atStart => exact ⟨0, rfl, by omega, by omega, rfl⟩
        case round =>
          obtain ⟨j, rfl, hj, hgg5, hw⟩ := hrel
          have hw' : w5 = wr := hw.out.symm
          subst hw'
          by_cases hj4 : j < 4
          · have e5 : (j : Int) < 4 := by omega
            have ec := A5.out.at_ j (by omega)
            have HDo : Hid (Calls Try.prog 23 #[pv (xs j)] w5 fun e w' => e = .returned (.bool true) ∧ w' = w5) := by
              have hdn := HDone.out j (by omega)
              cases hx : xs j with
              | none => exact done_nil w5
              | some b =>
                simp only [act, hx] at hdn
                have := done_any w5 d b (m' b) (O5.out j b (by omega) hx)
                rw [hdn] at this
                exact this
            obtain ⟨vx, hvx⟩ : ∃ a, pv (xs j) = .pointer a := by cases xs j <;> exact ⟨_, rfl⟩
            rw [hvx] at ec HDo
            clear hvx
            go_wp2_with (go_at_call 23; refine HDo.out.mono ?_; rintro e wv ⟨rfl, hwv⟩; rw [hwv]; clear hwv wv)
            go_roundg (4 - (j + 1))
            case measure => omega
            case rel => exact ⟨j + 1, by go_num, by omega, Nat.le_refl _, rfl⟩
          · have e5 : ¬ (j : Int) < 4 := by omega
            have H0 := hide (top_any w5 d p q ⟨0, n, r2⟩ l' _ D5.out)
            go_wp2_with fail
            refine H0.out.mono ?_
            rintro e w7 ⟨rfl, h7, t7⟩
            have H1 := hide (bottom_any w7 d p q ⟨0, n, r2⟩ l' _ h7)
            have T7 := hide (T5.out.trans_new t7 (fun c hc => by have := HLO.out; simp at hc; right; rcases hc with rfl | rfl <;> omega))
            clear H0 h7 t7
            go_wp2_with fail
            refine H1.out.mono ?_
            rintro e w8 ⟨rfl, h8, t8⟩
            have H2 := hide (stack_any w8 d p q ⟨0, n, r2⟩ l' _ h8)
            have T8 := hide (T7.out.trans_new t8 (fun c hc => by have := HLO.out; simp at hc; right; rcases hc with rfl | rfl <;> omega))
            have hTB := HTB.out
            have hN3 := HN3.out
            clear H1 h8 t8
            generalize rd ⟨0, n, r2⟩ l' 0 = T at *
            generalize rd ⟨0, n, r2⟩ l' 1 = Bt at *
            generalize rd ⟨0, n, r2⟩ l' 3 = N3 at *
            go_wp2_with fail
            refine H2.out.mono ?_
            rintro e w9 ⟨rfl, h9, t9⟩
            have T9 := hide (T8.out.trans_new t9 (fun c hc => by have := HLO.out; simp at hc; right; rcases hc with rfl | rfl <;> omega))
            clear H2 h9 t9
            go_wp2_with fail
            go_ret
            exact ⟨rfl, T9.out⟩
      · have e1 : ¬ (i : Int) < (len : Int) := by omega
        go_wp2_with fail
        refine HRun.out.mono ?_
        rintro e w4 ⟨⟨kk, rfl⟩, ⟨l', s', m', h1, h2, h3, h4, h5⟩, h6⟩
        have hl2 : l'[2]? = some (rd ⟨0, n, r2⟩ l' 2) := by have := h1.at (k := 2) (by omega); simpa using this
        have hz : rd ⟨0, n, r2⟩ l' 2 = 0 := by
          have := h2.lock
          rw [hn_done (h3 0 (by omega)), hn_done (h3 1 (by omega)), hn_done (h3 2 (by omega)), hn_done (h3 3 (by omega))] at this
          omega
        rw [hz] at hl2
        have hTB : rd ⟨0, n, r2⟩ l' 0 ≤ rd ⟨0, n, r2⟩ l' 1 := by
          have := h2.own
          unfold OwnI at this
          rw [if_pos (h3 0 (by omega))] at this
          exact this
        have HL := hide (load_in p q l' s' w4 2 0 hl2 h1.mem)
        have HTB := hide hTB
        have HN3 := hide h2.stk
        have HDone := hide h3
        have HArr := hide h4
        have HOps := hide h5
        have HD4 := hide h1
        have T4 := hide h6
        have HGN := hide (show g ≠ p ∧ g ≠ q ∧ ∀ j b, j ≤ 3 → xs j = some b → b ≠ p ∧ b ≠ q from HGQ.out)
        clear h1 h2 h3 h4 h5 h6 hl2 hz hTB HRun
        go_wp2_with fail
        refine HL.out.mono ?_
        rintro e w5 ⟨rfl, h7, h8⟩
        have D5 := hide (HD4.out.acc h7 rfl h8)
        have A5 := hide (HArr.out.turned h8 (by simp; exact ⟨HGN.out.1, HGN.out.2.1⟩))
        have O5 := hide (fun j b (hj : j ≤ 3) (e : xs j = some b) => (HOps.out j b hj e).turned h8 (by simp; exact HGN.out.2.2 j b hj e))
        have T5 := hide (T4.out.trans_new h8 (fun c hc => by have := HLO.out; simp at hc; right; rcases hc with rfl | rfl <;> omega))
        clear h7 h8 HL HD4 HArr HOps T4
        go_wp2_with fail
        go_loopg [16] 5 (fun gg s16 wr => ∃ j : Nat, s16 = .int .i64 (j : Int) ∧ j ≤ 4 ∧ 4 - j ≤ gg ∧ Aside (wr = w5))
        case atStart => exact ⟨0, rfl, by omega, by omega, rfl⟩
        case round =>
          obtain ⟨j, rfl, hj, hgg5, hw⟩ := hrel
          have hw' : w5 = wr := hw.out.symm
          subst hw'
          by_cases hj4 : j < 4
          · have e5 : (j : Int) < 4 := by omega
            have ec := A5.out.at_ j (by omega)
            have HDo : Hid (Calls Try.prog 23 #[pv (xs j)] w5 fun e w' => e = .returned (.bool true) ∧ w' = w5) := by
              have hdn := HDone.out j (by omega)
              cases hx : xs j with
              | none => exact done_nil w5
              | some b =>
                simp only [act, hx] at hdn
                have := done_any w5 d b (m' b) (O5.out j b (by omega) hx)
                rw [hdn] at this
                exact this
            obtain ⟨vx, hvx⟩ : ∃ a, pv (xs j) = .pointer a := by cases xs j <;> exact ⟨_, rfl⟩
            rw [hvx] at ec HDo
            clear hvx
            go_wp2_with (go_at_call 23; refine HDo.out.mono ?_; rintro e wv ⟨rfl, hwv⟩; rw [hwv]; clear hwv wv)
            go_roundg (4 - (j + 1))
            case measure => omega
            case rel => exact ⟨j + 1, by go_num, by omega, Nat.le_refl _, rfl⟩
          · have e5 : ¬ (j : Int) < 4 := by omega
            have H0 := hide (top_any w5 d p q ⟨0, n, r2⟩ l' _ D5.out)
            go_wp2_with fail
            refine H0.out.mono ?_
            rintro e w7 ⟨rfl, h7, t7⟩
            have H1 := hide (bottom_any w7 d p q ⟨0, n, r2⟩ l' _ h7)
            have T7 := hide (T5.out.trans_new t7 (fun c hc => by have := HLO.out; simp at hc; right; rcases hc with rfl | rfl <;> omega))
            clear H0 h7 t7
            go_wp2_with fail
            refine H1.out.mono ?_
            rintro e w8 ⟨rfl, h8, t8⟩
            have H2 := hide (stack_any w8 d p q ⟨0, n, r2⟩ l' _ h8)
            have T8 := hide (T7.out.trans_new t8 (fun c hc => by have := HLO.out; simp at hc; right; rcases hc with rfl | rfl <;> omega))
            have hTB := HTB.out
            have hN3 := HN3.out
            clear H1 h8 t8
            generalize rd ⟨0, n, r2⟩ l' 0 = T at *
            generalize rd ⟨0, n, r2⟩ l' 1 = Bt at *
            generalize rd ⟨0, n, r2⟩ l' 3 = N3 at *
            go_wp2_with fail
            refine H2.out.mono ?_
            rintro e w9 ⟨rfl, h9, t9⟩
            have T9 := hide (T8.out.trans_new t9 (fun c hc => by have := HLO.out; simp at hc; right; rcases hc with rfl | rfl <;> omega))
            clear H2 h9 t9
            go_wp2_with fail
            go_ret
            exact ⟨rfl, T9.out⟩

set_option maxRecDepth 100000 in
theorem dequeFree_lifted (os : Os) (started : os.Started) (H : Type) (enc : TypeId × Value → H) :
    ReturnsInHanded {} Try.checked os 7 .any (Rows.dequeFreeSpec.pre6 enc Try.prog Try.f7 Rows.dequeFreeRow.domain false) (Rows.dequeFreeSpec.post enc Try.prog Try.f7 false true false false) := by
  refine returnsInHanded_of_change (C := Try.checked) own started (by kernel_rfl) Try.func7
    (ChangeSpec.witness6 (enc := enc) (C := Try.checked) false ⟨#[], #[.agg #[.int .i64 0, .int .i64 0], .slice none 0 0], []⟩ 8 (by kernel_rfl) (by kernel_rfl) (by kernel_rfl) (by kernel_rfl)) ?_
  intro W base args ds gs before hval0 hW hcnd _
  have hval : ∀ (j : Nat) t v, Try.f7.params[j]? = some t → args[j]? = some v → Value.okWide Try.prog W .any base t v := hval0
  have hW' := hW
  obtain ⟨p, q, hA0, hV, rfl, hfz, hnd⟩ := hW
  have hA : DataW.TrodAll enc Try.prog W 0 (fun _ => true) true Try.f7.params.toList args.toList ds p := hA0
  rw [Try.params7] at hA hval
  obtain ⟨v0, vs0, d0, ds0, p0, q0, hargs, rfl, rfl, h0, r0⟩ := trodAll_cons hA
  obtain ⟨v1, vs1, d1, ds1, p1, q1, rfl, rfl, rfl, h1, r1⟩ := trodAll_cons r0
  obtain ⟨rfl, rfl, rfl⟩ := trodAll_nil r1
  obtain rfl : args = #[v0, v1] := by cases args; simp_all
  obtain ⟨rfl, rfl⟩ := trodVars_none hV
  have k0 := h0
  have lt0 : ∀ x ∈ p0, x.block < W.heap.size := by obtain ⟨m, hm⟩ := k0; exact DataW.trod_lt m _ _ _ hm
  obtain ⟨a00, a01, rfl, w0⟩ := open_two (hval 0 66 v0 rfl rfl) h0
  obtain ⟨a1, len1, cap1, rfl⟩ := okWide_slice Try.underlying23 (hval 1 23 v1 rfl rfl)
  have k1 := h1
  have lt1 : ∀ x ∈ p1, x.block < W.heap.size := by obtain ⟨m, hm⟩ := k1; exact DataW.trod_lt m _ _ _ hm
  obtain ⟨z1, w1⟩ := open_ops h1
  clear hA0 hval0
  refine (dequeFree_walk a00 a01 a1 len1 cap1 z1 W w0 w1).mono fun e W' ⟨he, ht⟩ => ?_
  subst he
  have bel : Below W.heap.size W W' := ht.below0
  exact ⟨_, rfl, _, _, _, [], _, [], hW', trodAll_mk1 (shut_bool Try.underlying4 _), (trodAll_cons_mk (Below.trod laidOut (by kernel_rfl) (of_decide_eq_true (by kernel_rfl)) k0 bel lt0) (trodAll_cons_mk (Below.trod laidOut (by kernel_rfl) (of_decide_eq_true (by kernel_rfl)) k1 bel lt1) trodAll_mk0)), rfl, bel.frame _, fun h => by cases h⟩

theorem dequeFree_over : Rows.dequeFreeRow.holds Try.pinned (OpenSpec.ofChange Rows.dequeFreeSpec) :=
  OpenClaim.holds_of_wide 7 Try.f7 rfl rfl rfl rfl rfl rfl rfl ⟨rfl, rfl, rfl, rfl, rfl⟩ rfl rfl rfl rfl rfl (by kernel_rfl) Try.func7 (by kernel_rfl)
    (of_decide_eq_true (by kernel_rfl)) (by unfold Func.isWrapper; first | (rw [if_pos (by decide +kernel)]; kernel_rfl) | (rw [if_neg (by decide +kernel)]; exact ⟨rfl, rfl⟩))
    (fun os started H enc _ => dequeFree_lifted os started H enc)

theorem dequeFree_holds : Rows.DequeFreeSaid := dequeFree_over
end Go.Proofs.Ytdhfggdmlhgdoaa

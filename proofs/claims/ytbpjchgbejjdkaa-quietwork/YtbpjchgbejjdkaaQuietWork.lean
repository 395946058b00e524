/-
  QuietWork: as long as an item lies in the deque of a worker that doesn't offer, no offer of the others ends with End; each that goes round sees it: true for every number of workers and every picks.
-/
import Derived.Test.YtbpjchgbejjdkaaQuietAwake
import Derived.Test.YtbpjchgbejjdkaaQuietWorkP
import Derived.Deep.Cut
import Derived.Deep.CutBlock
import Derived.Deep.CutRange
import Derived.Deep.DeepCutAuto
namespace Go.Proofs.Ytbpjchgbejjdkaa
open Go.ChangeShapes Go.WideShapes Go.ChangeAt Go.RowKit
set_option linter.unusedVariables false

set_option maxHeartbeats 4000000 in
set_option maxRecDepth 100000 in
theorem quietWork_walk (x : Int) (ao : Option Addr) (len cap : Nat) (zs : List Int) (w : World) (hx : (Lit.int .i64 x).wf = true) (hz : IsRow .i64 w ao len cap zs) :
    Calls Try.prog 4 #[.int .i64 x, .slice ao len cap] w fun e w' => e = .returned (.bool true) ∧ Turned [] w w' := by
  obtain ⟨hrr, hl, -⟩ := rr_of hz
  have HR := hide hrr
  have HAw := hide (awake_any w)
  have HPk := hide (fun w' => lpick_any x 3 w' hx (by omega))
  have und : Try.prog.underlying 33 = some (.slice 36) := by kernel_rfl
  clear hrr hz hx
  go_enter Try.func4, Try.ntmps4
  go_wp2_with fail
  refine HAw.out.mono ?_
  rintro e w0 ⟨rfl, t0⟩
  have T0 := hide t0
  clear t0 HAw
  go_wp2_with fail
  refine (HPk.out _).mono ?_
  rintro e w1 ⟨⟨r, rfl, hr⟩, hw⟩
  rw [hw]
  clear hw w1 HPk
  have HNew := hide (new_any 100 w0)
  go_wp2_with fail
  refine HNew.out.mono ?_
  rintro e w1 ⟨rfl, h1, t1, -⟩
  obtain ⟨n, hn⟩ : ∃ n : Nat, (2 + (r : Int)) = (n : Int) := ⟨2 + r, by omega⟩
  rw [hn]
  have hn4 : 2 ≤ n ∧ n ≤ 4 := by omega
  clear hn hr
  obtain ⟨p, hp⟩ : ∃ p, p = w0.heap.size + 1 := ⟨_, rfl⟩
  obtain ⟨q, hq⟩ : ∃ q, q = w0.heap.size := ⟨_, rfl⟩
  rw [← hp, ← hq] at h1
  rw [← hp]
  have HPQ := hide (show w.heap.size ≤ p ∧ w.heap.size ≤ q by have := T0.out.size; omega)
  have T1 := hide (T0.out.trans t1)
  have HQ := hide (qnew_ok w1 p q (allL 0) 0 0 n (by simp [allL]) (by simp [allL]) (by omega) h1)
  clear h1 t1 hp hq HNew T0
  go_wp2_with fail
  refine HQ.out.mono ?_
  rintro e w2 ⟨rfl, h2, t2, -⟩
  have T2 := hide (T1.out.trans t2)
  have HA := hide (show w.heap.size ≤ w1.heap.size from T1.out.size)
  generalize w1.heap.size = a at *
  have H2 := hide h2
  clear h2 t2 HQ T1
  obtain ⟨i0, hi, hi0⟩ := Option.map_eq_some_iff.1 Try.infoDq
  simp only [Prod.mk.injEq] at hi0
  obtain ⟨hz0, hz1, hz2⟩ := hi0
  go_wp2_with fail
  go_loopg [10, 11] 5 (fun gg s10 s12 wr => ∃ (k : Nat) (ds : List Nat) (vl : Value), vl = s10 ∧ s12 = .int .i64 (k : Int) ∧ k ≤ n ∧ n - k ≤ gg ∧ Aside (ds.length = k) ∧ Aside (Turned [] w wr) ∧ Aside (Sh wr a p q ds ⟨0, n, csTo k⟩ (allL 0) 0) ∧ Aside (wr.ownsRow w2.heap.size 36 1 vl k (ds.map pd)) ∧ w2.heap.size ≤ wr.heap.size)
  case atStart => exact ⟨0, [], _, rfl, rfl, by omega, by omega, rfl, T2.out, H2.out, World.ownsRow_nil _ _ _ _, Nat.le_refl _⟩
  case round =>
    obtain ⟨k, ds, vl, rfl, rfl, hk, hgg, hdl, htu, hsh, hrow, hws⟩ := hrel
    by_cases hkn : k < n
    · have e1 : (k : Int) < (n : Int) := by omega
      have HD := hide (by have h := dnew_ok wr p q ⟨1 + 20 * k, 4, 4⟩ (allL 0) 0 (by simp) (by simp) (by simp [allL]; omega) (by simp [allL]) hsh.out.mem; exact h)
      rw [show (((⟨1 + 20 * k, 4, 4⟩ : Cfg).base : Nat) : Int) = 1 + 20 * (k : Int) by simp] at HD
      go_wp2_with fail
      refine HD.out.mono ?_
      rintro e w3 ⟨rfl, h3, t3, -⟩
      have H3 := hide (hsh.out.add h3 t3 (by have := hdl.out; omega))
      have T3 := hide (htu.out.trans t3)
      have HRow3 := hide (ownsRow_keep hrow.out (fun b hb => t3.block b (ownsRow_lt hrow.out b hb).2.1 (by simp)))
      have HW3 := hide (Nat.le_trans hws t3.size)
      have HLD := hide hdl.out
      generalize wr.heap.size = d at *
      clear h3 t3 HD hsh hrow htu hdl hws
      go_wp2_with (at_builtin; (refine wpList_append_own _ rfl _ _ 33 rfl w2.heap.size 36 i0 _ 1 8 und hi hz0 hz1 hz2 rfl (by decide) _ _ _ rfl (World.ownsRow.alloc HRow3.out _) ⟨w3.heap.size, 0, none⟩ 1 1 [pd d] rfl rfl (cell_one_new _ _ _) (by intro u hu; simp at hu; subst hu; rfl) (by unfold maxLen; omega) (by omega) (by have := HW3.out; simp; omega) ?_); intro v' w5 hown' hgrow5 hnil5)
      have tg := hide (turned_grown hgrow5)
      have HTY := hide (ownsRow_lt (World.ownsRow.alloc HRow3.out (.cells #[pd d] 36)))
      have HO5 := hide hown'
      clear hown' hgrow5 hnil5
      have ta : Turned [] w3 (w3.alloc (.cells #[pd d] 36)) := (Turned.refl _ _).alloc _
      have TA := hide ta
      clear ta
      go_roundg (n - (k + 1))
      case measure => omega
      case rel =>
        have hT : Turned [] w w5 := (T3.out.trans TA.out).trans_new tg.out (fun b hb => .inr (by
          simp only [Option.mem_toList] at hb
          have := (HTY.out b hb).1
          have := T2.out.size
          omega))
        have hS : Sh w5 a p q (ds ++ [d]) ⟨0, n, csTo (k + 1)⟩ (allL 0) 0 := by
          have h1 := H3.out.turned TA.out (by simp) (by simp) (by simp) (by simp)
          rw [csTo_succ]
          have key : ∀ b, b ∈ (Value.ownBlock _).toList → ∃ c, _ = some (Obj.cells c 36 (0, 0)) := fun b hb => (HTY.out b (by simpa using hb)).2.2
          refine h1.turned tg.out (fun hb => ?_) (fun hb => ?_) (fun hb => ?_) (fun d2 hd2 hb => ?_)
          · obtain ⟨c, hc⟩ := key _ hb
            exact ne_of_type h1.head hc (by decide) rfl
          · obtain ⟨c, hc⟩ := key _ hb
            exact ne_of_type h1.mem.head hc (by decide) rfl
          · obtain ⟨c, hc⟩ := key _ hb
            exact ne_of_type h1.mem.row hc (by decide) rfl
          · obtain ⟨c, hc⟩ := key _ hb
            obtain ⟨j, hj⟩ := List.getElem?_of_mem hd2
            exact ne_of_type (h1.dq j d2 hj).head hc (by decide) rfl
        refine ⟨k + 1, ds ++ [d], _, rfl, by go_num, by omega, Nat.le_refl _, by show (ds ++ [d]).length = k + 1; have := HLD.out; simp; omega, hT, hS, by rw [List.map_append]; exact HO5.out, Nat.le_trans (Nat.le_trans HW3.out TA.out.size) tg.out.size⟩
    · have hkn' : k = n := by omega
      subst hkn'
      have e1 : ¬ ((k : Int) < (k : Int)) := by omega
      obtain ⟨m, hkm⟩ : ∃ m, k = m + 1 := ⟨k - 1, by omega⟩
      have HLD := hide hdl.out
      have HS := hide hsh.out
      have HP := hide (PRow.of hrow.out (by omega))
      have T3 := hide htu.out
      obtain ⟨g, cg, hv, hty, hcc⟩ := HP.out
      rw [HLD.out] at hv
      subst hv
      obtain ⟨d, hd⟩ : ∃ d, ds[m]? = some d := ⟨ds[m]'(by have := HLD.out; omega), by simp⟩
      have hcell : wr.cell? ⟨g, m, none⟩ = some (.pointer (some ⟨d, 0, none⟩)) := hcc m d hd
      have HDq : Hid (Dq wr d p q ⟨1 + 20 * m, 4, 4⟩ (allL 0) 0) := by
        have h := HS.out.dq m d hd
        rwa [show cOf ⟨0, k, csTo k⟩ m = ⟨1 + 20 * m, 4, 4⟩ from cOf_all k m (by omega)] at h
      have HPu := hide (push_any wr.drew d p q ⟨1 + 20 * m, 4, 4⟩ (allL 0) 0 7 HDq.out.drew)
      have hsub : IntKind.i64.wrap ((k : Int) - 1) = (m : Int) := by rw [IntKind.wrap_i64]; omega
      have hsub2 : wrap64 ((k : Int) - 1) = (m : Int) := by rw [w64 _ (by omega)]; omega
      have hmk : (m : Int) < (k : Int) := by omega
      have hmk2 : m < k := by omega
      have hm3 : m ≤ 3 := by omega
      have hnew := World.new_ne wr ⟨g, m, none⟩ hcell
      have HKM := hide hkm
      have HDs := hide hd
      clear hdl hsh hrow htu hws hk hgg hkn hi hz0 hz1 hz2 und T2 H2 hty hcc hkm hd
      obtain ⟨wb, hwb⟩ : ∃ wb, wb = wr := ⟨_, rfl⟩
      subst hwb
      go_wp2_with fail
      go_region_held3 (fun w' => w'.cell? ⟨g, m, none⟩ = some (.pointer (some ⟨d, 0, none⟩))) (go_keep)
        (first
          | (go_at_call 14; refine HPu.out.mono ?_; rintro e w3 ⟨rfl, h1, h2, h3, h4⟩; have g1 : w3.cell? ⟨g, m, none⟩ = some (.pointer (some ⟨d, 0, none⟩)) := ((h3.cell (p := ⟨g, m, none⟩) (block_lt hcell) (by simp)).trans hcell); have g2 := World.new_ne w3 ⟨g, m, none⟩ g1; have HT3 := hide h3; have HRun := hide (run_work w3 a p q wb.drew.heap.size d m k ds HKM.out hn4 (HS.out.drew.turned h3 (by simp) (by simp) (by simp) (by simp)) HDs.out h2 ((HP.out.keep (Turned.refl [] wb).drew (by simp)).keep h3 (by simp))); clear h1 h2 h3 h4 HPu)
          | (go_at_call 13; refine HRun.out.mono ?_; rintro e w4 ⟨⟨nn, rfl⟩, h1, h2, h3⟩; have HS4 := hide h1; have HP4 := hide h2; have HT4 := hide h3; have g3 := HP4.out.cell HDs.out; clear HRun h1 h2 h3))
      have T5 := hide (((T3.out.drew.trans HT3.out).trans ((Turned.refl [] w3).alloc _)).trans_new HT4.out (fun y hy => by have := HPQ.out; have := T3.out.size; simp at hy; right; rcases hy with rfl | rfl | rfl <;> first | omega | exact this))
      have ha0 : Turned [] w4 (w4.alloc (.cells #[.pointer none, .pointer none, .pointer none, .pointer none] 50)) := (Turned.refl _ _).alloc _
      have HW6 : Hid (Wfs w.heap.size (w4.alloc (.cells #[.pointer none, .pointer none, .pointer none, .pointer none] 50)) w4.heap.size a ds (fun _ => none) (fun _ => ofNew)) :=
        ⟨heap_alloc_new _ _, fun i b _ hb => by simp at hb, fun i j b _ _ hb => by simp at hb, fun i b _ hb => by simp at hb, fun i _ _ => rfl, T5.out.size⟩
      have HS6 := hide (HS4.out.turned0 ha0)
      have HP6 := hide (HP4.out.keep ha0 (by simp))
      have T6 := hide (T5.out.trans ha0)
      clear T5 HS4 HP4 ha0 g1 g2 g3 HT3 HT4 T3 HP HS HDq hnew hcell e1
      go_wp2_with fail
      generalize hw6 : w4.alloc (.cells #[.pointer none, .pointer none, .pointer none, .pointer none] 50) = w6 at *
      clear hw6
      generalize w4.heap.size = go_ at *
      have HW7 := hide (show WSt w w6 go_ a p q g k cg ds (fun _ => none) (fun _ => ofNew) 0 from ⟨T6.out, HS6.out, HP6.out, HW6.out, winv_new k, HPQ.out⟩)
      clear T6 HS6 HP6 HW6
      go_loopg [15] 101 (fun gk s15 wr => ∃ (y : Nat) (c : Int) (xs : Nat → Option Nat) (A : Nat → OfS), s15 = .int .i64 (y : Int) ∧ y ≤ 100 ∧ y ≤ len ∧ 100 - y ≤ gk ∧ Aside (WSt w wr go_ a p q g k cg ds xs A c))
      case atStart => exact ⟨0, 0, _, _, rfl, by omega, by omega, by omega, HW7.out⟩
      case round =>
        obtain ⟨y, c, xs, A, rfl, hy, hyl, hgk, hst⟩ := hrel
        by_cases hgo : y < len ∧ y < 100
        · obtain ⟨hk1, hk2⟩ := hgo
          obtain ⟨g2, off, rfl, hc0, hwf⟩ := HR.out y hk1
          have hc : wr.cell? ⟨g2, off + y, none⟩ = some (.int .i64 (zs.getD y 0)) := by rw [hst.out.tu.cell (p := ⟨g2, off + y, none⟩) (block_lt hc0) (by simp)]; exact hc0
          have e3 : (y : Int) < (len : Int) := by omega
          have e4 : (y : Int) < 100 := by omega
          have HPk := hide (fun w' => lpick_any (zs.getD y 0) m w' hwf (by have := HKM.out; omega))
          clear hc0 hwf
          generalize zs.getD y 0 = zm at *
          go_wp2_with fail
          refine (HPk.out _).mono ?_
          rintro e w8 ⟨⟨r2, rfl, hr⟩, hw⟩
          rw [hw]
          clear hw w8 HPk
          have hr3 : r2 ≤ 3 := by omega
          have hcell := hst.out.wf.ar.at r2 hr3
          clear hc
          cases hx : xs r2 with
          | none =>
            rw [hx] at hcell
            simp only [pv] at hcell
            have HAct := hide (show act (A r2) = 0 by rw [hst.out.wf.no r2 hr3 hx]; exact act_new)
            have HOf := hide (hst.out.offer hn4.1 HLD.out (i := r2) hr3 HAct.out)
            go_wp2_with fail
            refine HOf.out.mono ?_
            rintro e w7 ⟨b, rfl, hc7, hf7, h7⟩
            rw [hx] at hc7
            simp only [pv] at hc7
            have H7 := hide h7
            clear h7 HOf
            go_wp2_with fail
            have HN := hide H7.out
            have HBX := hide (show updx xs r2 (some b) r2 = some b by simp [updx])
            clear H7
            generalize hw8 : w7.setCell ⟨go_, r2, none⟩ (.pointer (some ⟨b, 0, none⟩)) = w8 at *
            clear hw8 hc7 hf7
            obtain ⟨c', o', ⟨hs2, -⟩, hstep⟩ := HN.out.step hn4 (i := r2) (b := b) (by have := HKM.out; omega) HBX.out
            have hcell2 := HN.out.wf.ar.at r2 hr3
            rw [HBX.out] at hcell2
            simp only [pv] at hcell2
            have HSt := hide hstep
            generalize o'.state = sn at HSt hs2
            clear hstep
            go_wp2_with fail
            refine HSt.out.mono ?_
            rintro e w9 ⟨rfl, h9⟩
            have H9 := hide h9
            clear h9 HSt hcell2
            go_wp2_with fail
            go_roundg (100 - (y + 1))
            case measure => omega
            case rel => exact ⟨y + 1, c', _, _, by go_num, by omega, by omega, Nat.le_refl _, H9.out⟩
          | some b0 =>
            rw [hx] at hcell
            simp only [pv] at hcell
            have HV := hide (hst.out.state hr3 hx)
            rcases (hst.out.inv.ok r2 hr3).state with h0 | h1
            · rw [h0] at HV
              have HN := hide hst.out
              obtain ⟨b, hbb⟩ : ∃ b, b = b0 := ⟨_, rfl⟩
              subst hbb
              have HBX := hide hx
              clear hx h0
              go_wp2_with fail
              refine HV.out.mono ?_
              rintro e w7 ⟨rfl, hw7⟩
              rw [hw7]
              clear hw7 w7 HV
              obtain ⟨c', o', ⟨hs2, -⟩, hstep⟩ := HN.out.step hn4 (i := r2) (b := b) (by have := HKM.out; omega) HBX.out
              have hcell2 := HN.out.wf.ar.at r2 hr3
              rw [HBX.out] at hcell2
              simp only [pv] at hcell2
              have HSt := hide hstep
              generalize o'.state = sn at HSt hs2
              clear hstep
              go_wp2_with fail
              refine HSt.out.mono ?_
              rintro e w9 ⟨rfl, h9⟩
              have H9 := hide h9
              clear h9 HSt hcell2
              go_wp2_with fail
              go_roundg (100 - (y + 1))
              case measure => omega
              case rel => exact ⟨y + 1, c', _, _, by go_num, by omega, by omega, Nat.le_refl _, H9.out⟩
            · rw [h1] at HV
              have HAct := hide (show act (A r2) = 0 by simp [act, h1])
              clear h1
              go_wp2_with fail
              refine HV.out.mono ?_
              rintro e w7 ⟨rfl, hw7⟩
              rw [hw7]
              clear hw7 w7 HV
              have HOf := hide (hst.out.offer hn4.1 HLD.out (i := r2) hr3 HAct.out)
              go_wp2_with fail
              refine HOf.out.mono ?_
              rintro e w7 ⟨b, rfl, hc7, hf7, h7⟩
              rw [hx] at hc7
              simp only [pv] at hc7
              have H7 := hide h7
              clear h7 HOf
              go_wp2_with fail
              have HN := hide H7.out
              have HBX := hide (show updx xs r2 (some b) r2 = some b by simp [updx])
              clear H7
              generalize hw8 : w7.setCell ⟨go_, r2, none⟩ (.pointer (some ⟨b, 0, none⟩)) = w8 at *
              clear hw8 hc7 hf7
              obtain ⟨c', o', ⟨hs2, -⟩, hstep⟩ := HN.out.step hn4 (i := r2) (b := b) (by have := HKM.out; omega) HBX.out
              have hcell2 := HN.out.wf.ar.at r2 hr3
              rw [HBX.out] at hcell2
              simp only [pv] at hcell2
              have HSt := hide hstep
              generalize o'.state = sn at HSt hs2
              clear hstep
              go_wp2_with fail
              refine HSt.out.mono ?_
              rintro e w9 ⟨rfl, h9⟩
              have H9 := hide h9
              clear h9 HSt hcell2
              go_wp2_with fail
              go_roundg (100 - (y + 1))
              case measure => omega
              case rel => exact ⟨y + 1, c', _, _, by go_num, by omega, by omega, Nat.le_refl _, H9.out⟩
        · have ends : Aside (¬ (y < len ∧ y < 100)) := hgo
          clear hgo
          by_cases hkl2 : y < len
          · have e3 : (y : Int) < (len : Int) := by omega
            have e4 : ¬ (y : Int) < 100 := by have := ends.out; omega
            have hcell0 := hst.out.wf.ar.at 0 (by omega)
            cases hx : xs 0 with
            | none =>
              rw [hx] at hcell0
              simp only [pv] at hcell0
              have HAct := hide (show act (A 0) = 0 by rw [hst.out.wf.no 0 (by omega) hx]; exact act_new)
              have HOf := hide (hst.out.offer hn4.1 HLD.out (i := 0) (by omega) HAct.out)
              go_wp2_with fail
              refine HOf.out.mono ?_
              rintro e w7 ⟨b, rfl, hc7, hf7, h7⟩
              rw [hx] at hc7
              simp only [pv] at hc7
              have HN := hide h7
              have HBX := hide (show updx xs 0 (some b) 0 = some b by simp [updx])
              clear h7 HOf
              go_wp2_with fail
              obtain ⟨wc2, hwc2⟩ : ∃ wc2, wc2 = w7.setCell ⟨go_, 0, none⟩ (.pointer (some ⟨b, 0, none⟩)) := ⟨_, rfl⟩
              rw [← hwc2]
              rw [← hwc2] at HN
              clear hwc2
              go_loopg [17] 61 (fun gk s17 wr => ∃ (z : Nat) (c : Int) (A : Nat → OfS), s17 = .int .i64 (z : Int) ∧ z ≤ 14 ∧ 60 - z ≤ gk ∧ Aside (z + left k (A 0) ≤ 14) ∧ Aside (WSt w wr go_ a p q g k cg ds (updx xs 0 (some b)) A c))
              case atStart => exact ⟨0, c, _, rfl, by omega, by omega, by show 0 + left k _ ≤ 14; have := left_le k hn4.2 ((updo A 0 ofNew) 0); omega, HN.out⟩
              case round =>
                obtain ⟨z, c, A2, rfl, hz, hgk2, hlf, hw2⟩ := hrel
                have e5 : (z : Int) < 60 := by omega
                have hcell := hw2.out.wf.ar.at 0 (by omega)
                rw [HBX.out] at hcell
                simp only [pv] at hcell
                have HV := hide (hw2.out.state (by omega) HBX.out)
                rcases (hw2.out.inv.ok 0 (by omega)).state with h0 | h1
                · obtain ⟨c', o', ⟨hs2, hlf2⟩, hstep⟩ := hw2.out.step hn4 (i := 0) (b := b) (by omega) HBX.out
                  have hl3 := hlf2 h0
                  have HL3 := hide (show z + 1 + left k (updo A2 0 o' 0) ≤ 14 by have := hlf.out; simp [updo]; omega)
                  have hz3 : z + 1 ≤ 14 := by have := hlf.out; omega
                  rw [h0] at HV
                  have HSt := hide hstep
                  generalize o'.state = sn at HSt hs2
                  clear hstep hlf2 hl3 h0
                  go_wp2_with fail
                  refine HV.out.mono ?_
                  rintro e w8 ⟨rfl, hw8⟩
                  rw [hw8]
                  clear hw8 w8 HV
                  go_wp2_with fail
                  refine HSt.out.mono ?_
                  rintro e w9 ⟨rfl, h9⟩
                  have H9 := hide h9
                  clear h9 HSt hcell
                  go_wp2_with fail
                  go_roundg (60 - (z + 1))
                  case measure => omega
                  case rel => exact ⟨z + 1, c', _, by go_num, by omega, Nat.le_refl _, HL3.out, H9.out⟩
                · rw [h1] at HV
                  clear h1
                  have HIt : Hid (Calls Try.prog 18 #[.pointer (some ⟨d, 0, none⟩)] wr fun e w' => ∃ v cp, e = .returned (.slice v 1 cp) ∧ Turned [] wr w') := by
                    obtain ⟨s, hs⟩ := hw2.out.sx
                    have h2 := hs.dq m d HDs.out
                    have hmk3 : m < k := by have := HKM.out; omega
                    have r := rd_work k m c hn4 hmk3
                    have r0 := r.1
                    have r1 := r.2.1
                    rw [cOf_all k m hmk3] at h2 r0 r1
                    refine (items_any wr d p q ⟨1 + 20 * m, 4, 4⟩ (workL k c) s (by rw [r0]; omega) (by rw [r1]; split <;> omega) h2).mono ?_
                    rintro e w' ⟨vv, rfl, ⟨len', ho⟩, ht⟩
                    have hi := items_work k hn4 c
                    rw [show k - 1 = m by have := HKM.out; omega] at hi
                    have hlen : len' = 1 := by have := ho.1; rw [List.length_map, hi] at this; omega
                    subst hlen
                    obtain ⟨-, ao2, cap2, rfl, -⟩ := ownsRow_any ho
                    exact ⟨ao2, cap2, rfl, ht⟩
                  have hrow2 := hw2.out.pr.cell HDs.out
                  have HT9 := hide hw2.out.tu
                  go_wp2_with fail
                  refine HV.out.mono ?_
                  rintro e w8 ⟨rfl, hw8⟩
                  rw [hw8]
                  clear hw8 w8
                  go_wp2_with fail
                  refine HV.out.mono ?_
                  rintro e w8 ⟨rfl, hw8⟩
                  rw [hw8]
                  clear hw8 w8 HV
                  go_wp2_with fail
                  refine HIt.out.mono ?_
                  rintro e w8 ⟨v8, cp8, rfl, h8⟩
                  have H8 := hide h8
                  clear h8 HIt
                  go_wp2_with fail
                  go_ret
                  exact ⟨rfl, HT9.out.trans H8.out⟩
            | some b =>
              rw [hx] at hcell0
              simp only [pv] at hcell0
              have HN := hide hst.out
              have HBX := hide hx
              clear hx
              go_wp2_with fail
              obtain ⟨wc2, hwc2⟩ : ∃ wc2, wc2 = wr := ⟨_, rfl⟩
              rw [← hwc2]
              rw [← hwc2] at HN
              clear hwc2
              go_loopg [17] 61 (fun gk s17 wr => ∃ (z : Nat) (c : Int) (A : Nat → OfS), s17 = .int .i64 (z : Int) ∧ z ≤ 14 ∧ 60 - z ≤ gk ∧ Aside (z + left k (A 0) ≤ 14) ∧ Aside (WSt w wr go_ a p q g k cg ds xs A c))
              case atStart => exact ⟨0, c, _, rfl, by omega, by omega, by show 0 + left k _ ≤ 14; have := left_le k hn4.2 (A 0); omega, HN.out⟩
              case round =>
                obtain ⟨z, c, A2, rfl, hz, hgk2, hlf, hw2⟩ := hrel
                have e5 : (z : Int) < 60 := by omega
                have hcell := hw2.out.wf.ar.at 0 (by omega)
                rw [HBX.out] at hcell
                simp only [pv] at hcell
                have HV := hide (hw2.out.state (by omega) HBX.out)
                rcases (hw2.out.inv.ok 0 (by omega)).state with h0 | h1
                · obtain ⟨c', o', ⟨hs2, hlf2⟩, hstep⟩ := hw2.out.step hn4 (i := 0) (b := b) (by omega) HBX.out
                  have hl3 := hlf2 h0
                  have HL3 := hide (show z + 1 + left k (updo A2 0 o' 0) ≤ 14 by have := hlf.out; simp [updo]; omega)
                  have hz3 : z + 1 ≤ 14 := by have := hlf.out; omega
                  rw [h0] at HV
                  have HSt := hide hstep
                  generalize o'.state = sn at HSt hs2
                  clear hstep hlf2 hl3 h0
                  go_wp2_with fail
                  refine HV.out.mono ?_
                  rintro e w8 ⟨rfl, hw8⟩
                  rw [hw8]
                  clear hw8 w8 HV
                  go_wp2_with fail
                  refine HSt.out.mono ?_
                  rintro e w9 ⟨rfl, h9⟩
                  have H9 := hide h9
                  clear h9 HSt hcell
                  go_wp2_with fail
                  go_roundg (60 - (z + 1))
                  case measure => omega
                  case rel => exact ⟨z + 1, c', _, by go_num, by omega, Nat.le_refl _, HL3.out, H9.out⟩
                · rw [h1] at HV
                  clear h1
                  have HIt : Hid (Calls Try.prog 18 #[.pointer (some ⟨d, 0, none⟩)] wr fun e w' => ∃ v cp, e = .returned (.slice v 1 cp) ∧ Turned [] wr w') := by
                    obtain ⟨s, hs⟩ := hw2.out.sx
                    have h2 := hs.dq m d HDs.out
                    have hmk3 : m < k := by have := HKM.out; omega
                    have r := rd_work k m c hn4 hmk3
                    have r0 := r.1
                    have r1 := r.2.1
                    rw [cOf_all k m hmk3] at h2 r0 r1
                    refine (items_any wr d p q ⟨1 + 20 * m, 4, 4⟩ (workL k c) s (by rw [r0]; omega) (by rw [r1]; split <;> omega) h2).mono ?_
                    rintro e w' ⟨vv, rfl, ⟨len', ho⟩, ht⟩
                    have hi := items_work k hn4 c
                    rw [show k - 1 = m by have := HKM.out; omega] at hi
                    have hlen : len' = 1 := by have := ho.1; rw [List.length_map, hi] at this; omega
                    subst hlen
                    obtain ⟨-, ao2, cap2, rfl, -⟩ := ownsRow_any ho
                    exact ⟨ao2, cap2, rfl, ht⟩
                  have hrow2 := hw2.out.pr.cell HDs.out
                  have HT9 := hide hw2.out.tu
                  go_wp2_with fail
                  refine HV.out.mono ?_
                  rintro e w8 ⟨rfl, hw8⟩
                  rw [hw8]
                  clear hw8 w8
                  go_wp2_with fail
                  refine HV.out.mono ?_
                  rintro e w8 ⟨rfl, hw8⟩
                  rw [hw8]
                  clear hw8 w8 HV
                  go_wp2_with fail
                  refine HIt.out.mono ?_
                  rintro e w8 ⟨v8, cp8, rfl, h8⟩
                  have H8 := hide h8
                  clear h8 HIt
                  go_wp2_with fail
                  go_ret
                  exact ⟨rfl, HT9.out.trans H8.out⟩
          · have e3 : ¬ (y : Int) < (len : Int) := by omega
            have hcell0 := hst.out.wf.ar.at 0 (by omega)
            cases hx : xs 0 with
            | none =>
              rw [hx] at hcell0
              simp only [pv] at hcell0
              have HAct := hide (show act (A 0) = 0 by rw [hst.out.wf.no 0 (by omega) hx]; exact act_new)
              have HOf := hide (hst.out.offer hn4.1 HLD.out (i := 0) (by omega) HAct.out)
              go_wp2_with fail
              refine HOf.out.mono ?_
              rintro e w7 ⟨b, rfl, hc7, hf7, h7⟩
              rw [hx] at hc7
              simp only [pv] at hc7
              have HN := hide h7
              have HBX := hide (show updx xs 0 (some b) 0 = some b by simp [updx])
              clear h7 HOf
              go_wp2_with fail
              obtain ⟨wc2, hwc2⟩ : ∃ wc2, wc2 = w7.setCell ⟨go_, 0, none⟩ (.pointer (some ⟨b, 0, none⟩)) := ⟨_, rfl⟩
              rw [← hwc2]
              rw [← hwc2] at HN
              clear hwc2
              go_loopg [17] 61 (fun gk s17 wr => ∃ (z : Nat) (c : Int) (A : Nat → OfS), s17 = .int .i64 (z : Int) ∧ z ≤ 14 ∧ 60 - z ≤ gk ∧ Aside (z + left k (A 0) ≤ 14) ∧ Aside (WSt w wr go_ a p q g k cg ds (updx xs 0 (some b)) A c))
              case atStart => exact ⟨0, c, _, rfl, by omega, by omega, by show 0 + left k _ ≤ 14; have := left_le k hn4.2 ((updo A 0 ofNew) 0); omega, HN.out⟩
              case round =>
                obtain ⟨z, c, A2, rfl, hz, hgk2, hlf, hw2⟩ := hrel
                have e5 : (z : Int) < 60 := by omega
                have hcell := hw2.out.wf.ar.at 0 (by omega)
                rw [HBX.out] at hcell
                simp only [pv] at hcell
                have HV := hide (hw2.out.state (by omega) HBX.out)
                rcases (hw2.out.inv.ok 0 (by omega)).state with h0 | h1
                · obtain ⟨c', o', ⟨hs2, hlf2⟩, hstep⟩ := hw2.out.step hn4 (i := 0) (b := b) (by omega) HBX.out
                  have hl3 := hlf2 h0
                  have HL3 := hide (show z + 1 + left k (updo A2 0 o' 0) ≤ 14 by have := hlf.out; simp [updo]; omega)
                  have hz3 : z + 1 ≤ 14 := by have := hlf.out; omega
                  rw [h0] at HV
                  have HSt := hide hstep
                  generalize o'.state = sn at HSt hs2
                  clear hstep hlf2 hl3 h0
                  go_wp2_with fail
                  refine HV.out.mono ?_
                  rintro e w8 ⟨rfl, hw8⟩
                  rw [hw8]
                  clear hw8 w8 HV
                  go_wp2_with fail
                  refine HSt.out.mono ?_
                  rintro e w9 ⟨rfl, h9⟩
                  have H9 := hide h9
                  clear h9 HSt hcell
                  go_wp2_with fail
                  go_roundg (60 - (z + 1))
                  case measure => omega
                  case rel => exact ⟨z + 1, c', _, by go_num, by omega, Nat.le_refl _, HL3.out, H9.out⟩
                · rw [h1] at HV
                  clear h1
                  have HIt : Hid (Calls Try.prog 18 #[.pointer (some ⟨d, 0, none⟩)] wr fun e w' => ∃ v cp, e = .returned (.slice v 1 cp) ∧ Turned [] wr w') := by
                    obtain ⟨s, hs⟩ := hw2.out.sx
                    have h2 := hs.dq m d HDs.out
                    have hmk3 : m < k := by have := HKM.out; omega
                    have r := rd_work k m c hn4 hmk3
                    have r0 := r.1
                    have r1 := r.2.1
                    rw [cOf_all k m hmk3] at h2 r0 r1
                    refine (items_any wr d p q ⟨1 + 20 * m, 4, 4⟩ (workL k c) s (by rw [r0]; omega) (by rw [r1]; split <;> omega) h2).mono ?_
                    rintro e w' ⟨vv, rfl, ⟨len', ho⟩, ht⟩
                    have hi := items_work k hn4 c
                    rw [show k - 1 = m by have := HKM.out; omega] at hi
                    have hlen : len' = 1 := by have := ho.1; rw [List.length_map, hi] at this; omega
                    subst hlen
                    obtain ⟨-, ao2, cap2, rfl, -⟩ := ownsRow_any ho
                    exact ⟨ao2, cap2, rfl, ht⟩
                  have hrow2 := hw2.out.pr.cell HDs.out
                  have HT9 := hide hw2.out.tu
                  go_wp2_with fail
                  refine HV.out.mono ?_
                  rintro e w8 ⟨rfl, hw8⟩
                  rw [hw8]
                  clear hw8 w8
                  go_wp2_with fail
                  refine HV.out.mono ?_
                  rintro e w8 ⟨rfl, hw8⟩
                  rw [hw8]
                  clear hw8 w8 HV
                  go_wp2_with fail
                  refine HIt.out.mono ?_
                  rintro e w8 ⟨v8, cp8, rfl, h8⟩
                  have H8 := hide h8
                  clear h8 HIt
                  go_wp2_with fail
                  go_ret
                  exact ⟨rfl, HT9.out.trans H8.out⟩
            | some b =>
              rw [hx] at hcell0
              simp only [pv] at hcell0
              have HN := hide hst.out
              have HBX := hide hx
              clear hx
              go_wp2_with fail
              obtain ⟨wc2, hwc2⟩ : ∃ wc2, wc2 = wr := ⟨_, rfl⟩
              rw [← hwc2]
              rw [← hwc2] at HN
              clear hwc2
              go_loopg [17] 61 (fun gk s17 wr => ∃ (z : Nat) (c : Int) (A : Nat → OfS), s17 = .int .i64 (z : Int) ∧ z ≤ 14 ∧ 60 - z ≤ gk ∧ Aside (z + left k (A 0) ≤ 14) ∧ Aside (WSt w wr go_ a p q g k cg ds xs A c))
              case atStart => exact ⟨0, c, _, rfl, by omega, by omega, by show 0 + left k _ ≤ 14; have := left_le k hn4.2 (A 0); omega, HN.out⟩
              case round =>
                obtain ⟨z, c, A2, rfl, hz, hgk2, hlf, hw2⟩ := hrel
                have e5 : (z : Int) < 60 := by omega
                have hcell := hw2.out.wf.ar.at 0 (by omega)
                rw [HBX.out] at hcell
                simp only [pv] at hcell
                have HV := hide (hw2.out.state (by omega) HBX.out)
                rcases (hw2.out.inv.ok 0 (by omega)).state with h0 | h1
                · obtain ⟨c', o', ⟨hs2, hlf2⟩, hstep⟩ := hw2.out.step hn4 (i := 0) (b := b) (by omega) HBX.out
                  have hl3 := hlf2 h0
                  have HL3 := hide (show z + 1 + left k (updo A2 0 o' 0) ≤ 14 by have := hlf.out; simp [updo]; omega)
                  have hz3 : z + 1 ≤ 14 := by have := hlf.out; omega
                  rw [h0] at HV
                  have HSt := hide hstep
                  generalize o'.state = sn at HSt hs2
                  clear hstep hlf2 hl3 h0
                  go_wp2_with fail
                  refine HV.out.mono ?_
                  rintro e w8 ⟨rfl, hw8⟩
                  rw [hw8]
                  clear hw8 w8 HV
                  go_wp2_with fail
                  refine HSt.out.mono ?_
                  rintro e w9 ⟨rfl, h9⟩
                  have H9 := hide h9
                  clear h9 HSt hcell
                  go_wp2_with fail
                  go_roundg (60 - (z + 1))
                  case measure => omega
                  case rel => exact ⟨z + 1, c', _, by go_num, by omega, Nat.le_refl _, HL3.out, H9.out⟩
                · rw [h1] at HV
                  clear h1
                  have HIt : Hid (Calls Try.prog 18 #[.pointer (some ⟨d, 0, none⟩)] wr fun e w' => ∃ v cp, e = .returned (.slice v 1 cp) ∧ Turned [] wr w') := by
                    obtain ⟨s, hs⟩ := hw2.out.sx
                    have h2 := hs.dq m d HDs.out
                    have hmk3 : m < k := by have := HKM.out; omega
                    have r := rd_work k m c hn4 hmk3
                    have r0 := r.1
                    have r1 := r.2.1
                    rw [cOf_all k m hmk3] at h2 r0 r1
                    refine (items_any wr d p q ⟨1 + 20 * m, 4, 4⟩ (workL k c) s (by rw [r0]; omega) (by rw [r1]; split <;> omega) h2).mono ?_
                    rintro e w' ⟨vv, rfl, ⟨len', ho⟩, ht⟩
                    have hi := items_work k hn4 c
                    rw [show k - 1 = m by have := HKM.out; omega] at hi
                    have hlen : len' = 1 := by have := ho.1; rw [List.length_map, hi] at this; omega
                    subst hlen
                    obtain ⟨-, ao2, cap2, rfl, -⟩ := ownsRow_any ho
                    exact ⟨ao2, cap2, rfl, ht⟩
                  have hrow2 := hw2.out.pr.cell HDs.out
                  have HT9 := hide hw2.out.tu
                  go_wp2_with fail
                  refine HV.out.mono ?_
                  rintro e w8 ⟨rfl, hw8⟩
                  rw [hw8]
                  clear hw8 w8
                  go_wp2_with fail
                  refine HV.out.mono ?_
                  rintro e w8 ⟨rfl, hw8⟩
                  rw [hw8]
                  clear hw8 w8 HV
                  go_wp2_with fail
                  refine HIt.out.mono ?_
                  rintro e w8 ⟨v8, cp8, rfl, h8⟩
                  have H8 := hide h8
                  clear h8 HIt
                  go_wp2_with fail
                  go_ret
                  exact ⟨rfl, HT9.out.trans H8.out⟩

set_option maxRecDepth 100000 in
theorem quietWork_lifted (os : Os) (started : os.Started) (H : Type) (enc : TypeId × Value → H) :
    ReturnsInHanded {} Try.checked os 4 .any (Rows.quietWorkSpec.pre6 enc Try.prog Try.f4 Rows.quietWorkRow.domain false) (Rows.quietWorkSpec.post enc Try.prog Try.f4 false true false false) := by
  refine returnsInHanded_of_change (C := Try.checked) own started (by kernel_rfl) Try.func4
    (ChangeSpec.witness6 (enc := enc) (C := Try.checked) false ⟨#[], #[.int .i64 0, .slice none 0 0], []⟩ 8 (by kernel_rfl) (by kernel_rfl) (by kernel_rfl) (by kernel_rfl)) ?_
  intro W base args ds gs before hval0 hW hcnd _
  have hval : ∀ (j : Nat) t v, Try.f4.params[j]? = some t → args[j]? = some v → Value.okWide Try.prog W .any base t v := hval0
  have hW' := hW
  obtain ⟨p, q, hA0, hV, rfl, hfz, hnd⟩ := hW
  have hA : DataW.TrodAll enc Try.prog W 0 (fun _ => true) true Try.f4.params.toList args.toList ds p := hA0
  rw [Try.params4] at hA hval
  obtain ⟨v0, vs0, d0, ds0, p0, q0, hargs, rfl, rfl, h0, r0⟩ := trodAll_cons hA
  obtain ⟨v1, vs1, d1, ds1, p1, q1, rfl, rfl, rfl, h1, r1⟩ := trodAll_cons r0
  obtain ⟨rfl, rfl, rfl⟩ := trodAll_nil r1
  obtain rfl : args = #[v0, v1] := by cases args; simp_all
  obtain ⟨rfl, rfl⟩ := trodVars_none hV
  obtain ⟨a0, rfl, rfl, rfl, w0⟩ := open_int Try.underlying3 (hval 0 3 v0 rfl rfl) h0
  obtain ⟨a1, len1, cap1, rfl⟩ := okWide_slice Try.underlying22 (hval 1 22 v1 rfl rfl)
  have k1 := h1
  have lt1 : ∀ x ∈ p1, x.block < W.heap.size := by obtain ⟨m, hm⟩ := k1; exact DataW.trod_lt m _ _ _ hm
  obtain ⟨z1, w1⟩ : ∃ zs, IsRow .i64 W a1 len1 cap1 zs := by
    obtain ⟨fuel, hf⟩ := h1
    rcases open_ints Try.underlying22 Try.underlying3 (by kernel_rfl) hf with ⟨hcs, _⟩ | ⟨x, l, c, zs, hcs, _, hl, hm, hz, _, hcell, hwz⟩
    · simp [Value.cells] at hcs
      obtain ⟨rfl, rfl, rfl⟩ := hcs
      exact ⟨[], .inl ⟨rfl, rfl, rfl, rfl⟩⟩
    · simp [Value.cells] at hcs
      obtain ⟨rfl, rfl, rfl⟩ := hcs
      exact ⟨zs, .inr ⟨_, rfl, hl, hm, by simpa using hz, hcell, hwz⟩⟩
  clear hA0 hval0
  refine (quietWork_walk a0 a1 len1 cap1 z1 W w0 w1).mono fun e W' ⟨he, ht⟩ => ?_
  subst he
  have bel : Below W.heap.size W W' := ht.below0
  exact ⟨_, rfl, _, _, _, [], _, [], hW', trodAll_mk1 (shut_bool Try.underlying4 _), (trodAll_cons_mk (shut_int Try.underlying3 w0) (trodAll_cons_mk (Below.trod laidOut (by kernel_rfl) (of_decide_eq_true (by kernel_rfl)) k1 bel lt1) trodAll_mk0)), rfl, bel.frame _, fun h => by cases h⟩

theorem quietWork_over : Rows.quietWorkRow.holds Try.pinned (OpenSpec.ofChange Rows.quietWorkSpec) :=
  OpenClaim.holds_of_wide 4 Try.f4 rfl rfl rfl rfl rfl rfl rfl ⟨rfl, rfl, rfl, rfl, rfl⟩ rfl rfl rfl rfl rfl (by kernel_rfl) Try.func4 (by kernel_rfl)
    (of_decide_eq_true (by kernel_rfl)) (by unfold Func.isWrapper; first | (rw [if_pos (by decide +kernel)]; kernel_rfl) | (rw [if_neg (by decide +kernel)]; exact ⟨rfl, rfl⟩))
    (fun os started H enc _ => quietWork_lifted os started H enc)

theorem quietWork_holds : Rows.QuietWorkSaid := quietWork_over

end Go.Proofs.Ytbpjchgbejjdkaa

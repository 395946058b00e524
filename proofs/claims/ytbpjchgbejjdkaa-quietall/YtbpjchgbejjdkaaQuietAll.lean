/-
  QuietAll: if nothing lies anywhere, all workers' offers end, in whatever order they step; and the count is all of them: true for every number of workers and every picks.
-/
import Derived.Test.YtbpjchgbejjdkaaQuietAwake
import Derived.Test.YtbpjchgbejjdkaaQuietCrew
namespace Go.Proofs.Ytbpjchgbejjdkaa
open Go.ChangeShapes Go.WideShapes Go.ChangeAt Go.RowKit
set_option linter.unusedVariables false

theorem Try.infoOf : (Try.prog.info? 42).map (fun i => (i.zero, i.size, i.bytes)) = some (some (.pointer none), 1, 8) := by kernel_rfl

set_option maxHeartbeats 4000000 in
set_option maxRecDepth 100000 in
theorem quietAll_walk (x : Int) (ao : Option Addr) (len cap : Nat) (zs : List Int) (w : World) (hx : (Lit.int .i64 x).wf = true) (hz : IsRow .i64 w ao len cap zs) :
    Calls Try.prog 5 #[.int .i64 x, .slice ao len cap] w fun e w' => e = .returned (.bool true) ∧ Turned [] w w' := by
  obtain ⟨hrr, hl, -⟩ := rr_of hz
  have HR := hide hrr
  have HAw := hide (awake_any w)
  have HPk := hide (fun w' => lpick_any x 4 w' hx (by omega))
  have und : Try.prog.underlying 33 = some (.slice 36) := by kernel_rfl
  have undo : Try.prog.underlying 55 = some (.slice 42) := by kernel_rfl
  clear hrr hz hx
  go_enter Try.func5, Try.ntmps5
  go_wp2_with fail
  refine HAw.out.mono ?_
  rintro e w0 ⟨rfl, t0⟩
  have T0 := hide t0
  clear t0 HAw
  go_wp2_with fail
  refine (HPk.out _).mono ?_
  rintro e w1 ⟨⟨r, rfl, hr⟩, hw⟩
  rw [hw]
  clear hw w1 HPk
  have HNew := hide (new_any 100 w0)
  go_wp2_with fail
  refine HNew.out.mono ?_
  rintro e w1 ⟨rfl, h1, t1, -⟩
  obtain ⟨n, hn⟩ : ∃ n : Nat, (1 + (r : Int)) = (n : Int) := ⟨1 + r, by omega⟩
  rw [hn]
  have hn4 : 1 ≤ n ∧ n ≤ 4 := by omega
  clear hn hr
  obtain ⟨p, hp⟩ : ∃ p, p = w0.heap.size + 1 := ⟨_, rfl⟩
  obtain ⟨q, hq⟩ : ∃ q, q = w0.heap.size := ⟨_, rfl⟩
  rw [← hp, ← hq] at h1
  rw [← hp]
  have HPQ := hide (show w.heap.size ≤ p ∧ w.heap.size ≤ q by have := T0.out.size; omega)
  have T1 := hide (T0.out.trans t1)
  have HQ := hide (qnew_ok w1 p q (allL 0) 0 0 n (by simp [allL]) (by simp [allL]) (by omega) h1)
  clear h1 t1 hp hq HNew T0
  go_wp2_with fail
  refine HQ.out.mono ?_
  rintro e w2 ⟨rfl, h2, t2, -⟩
  have T2 := hide (T1.out.trans t2)
  have HA := hide (show w.heap.size ≤ w1.heap.size from T1.out.size)
  generalize w1.heap.size = a at *
  have H2 := hide h2
  clear h2 t2 HQ T1
  obtain ⟨i0, hi, hi0⟩ := Option.map_eq_some_iff.1 Try.infoDq
  simp only [Prod.mk.injEq] at hi0
  obtain ⟨hz0, hz1, hz2⟩ := hi0
  go_wp2_with fail
  go_loopg [10, 12] 5 (fun gg s10 s12 wr => ∃ (k : Nat) (ds : List Nat) (vl : Value), vl = s10 ∧ s12 = .int .i64 (k : Int) ∧ k ≤ n ∧ n - k ≤ gg ∧ Aside (ds.length = k) ∧ Aside (Turned [] w wr) ∧ Aside (Sh wr a p q ds ⟨0, n, csTo k⟩ (allL 0) 0) ∧ Aside (wr.ownsRow w2.heap.size 36 1 vl k (ds.map pd)) ∧ w2.heap.size ≤ wr.heap.size)
  case atStart => exact ⟨0, [], _, rfl, rfl, by omega, by omega, rfl, T2.out, H2.out, World.ownsRow_nil _ _ _ _, Nat.le_refl _⟩
  case round =>
    obtain ⟨k, ds, vl, rfl, rfl, hk, hgg, hdl, htu, hsh, hrow, hws⟩ := hrel
    by_cases hkn : k < n
    · have e1 : (k : Int) < (n : Int) := by omega
      have HD := hide (by have h := dnew_ok wr p q ⟨1 + 20 * k, 4, 4⟩ (allL 0) 0 (by simp) (by simp) (by simp [allL]; omega) (by simp [allL]) hsh.out.mem; exact h)
      rw [show (((⟨1 + 20 * k, 4, 4⟩ : Cfg).base : Nat) : Int) = 1 + 20 * (k : Int) by simp] at HD
      go_wp2_with fail
      refine HD.out.mono ?_
      rintro e w3 ⟨rfl, h3, t3, -⟩
      have H3 := hide (hsh.out.add h3 t3 (by have := hdl.out; omega))
      have T3 := hide (htu.out.trans t3)
      have HRow3 := hide (ownsRow_keep hrow.out (fun b hb => t3.block b (ownsRow_lt hrow.out b hb).2.1 (by simp)))
      have HW3 := hide (Nat.le_trans hws t3.size)
      have HLD := hide hdl.out
      generalize wr.heap.size = d at *
      clear h3 t3 HD hsh hrow htu hdl hws
      go_wp2_with (at_builtin; (refine wpList_append_own _ rfl _ _ 33 rfl w2.heap.size 36 i0 _ 1 8 und hi hz0 hz1 hz2 rfl (by decide) _ _ _ rfl (World.ownsRow.alloc HRow3.out _) ⟨w3.heap.size, 0, none⟩ 1 1 [pd d] rfl rfl (cell_one_new _ _ _) (by intro u hu; simp at hu; subst hu; rfl) (by unfold maxLen; omega) (by omega) (by have := HW3.out; simp; omega) ?_); intro v' w5 hown' hgrow5 hnil5)
      have tg := hide (turned_grown hgrow5)
      have HTY := hide (ownsRow_lt (World.ownsRow.alloc HRow3.out (.cells #[pd d] 36)))
      have HO5 := hide hown'
      clear hown' hgrow5 hnil5
      have ta : Turned [] w3 (w3.alloc (.cells #[pd d] 36)) := (Turned.refl _ _).alloc _
      have TA := hide ta
      clear ta
      go_roundg (n - (k + 1))
      case measure => omega
      case rel =>
        have hT : Turned [] w w5 := (T3.out.trans TA.out).trans_new tg.out (fun b hb => .inr (by
          simp only [Option.mem_toList] at hb
          have := (HTY.out b hb).1
          have := T2.out.size
          omega))
        have hS : Sh w5 a p q (ds ++ [d]) ⟨0, n, csTo (k + 1)⟩ (allL 0) 0 := by
          have h1 := H3.out.turned TA.out (by simp) (by simp) (by simp) (by simp)
          rw [csTo_succ]
          have key : ∀ b, b ∈ (Value.ownBlock _).toList → ∃ c, _ = some (Obj.cells c 36 (0, 0)) := fun b hb => (HTY.out b (by simpa using hb)).2.2
          refine h1.turned tg.out (fun hb => ?_) (fun hb => ?_) (fun hb => ?_) (fun d2 hd2 hb => ?_)
          · obtain ⟨c, hc⟩ := key _ hb
            exact ne_of_type h1.head hc (by decide) rfl
          · obtain ⟨c, hc⟩ := key _ hb
            exact ne_of_type h1.mem.head hc (by decide) rfl
          · obtain ⟨c, hc⟩ := key _ hb
            exact ne_of_type h1.mem.row hc (by decide) rfl
          · obtain ⟨c, hc⟩ := key _ hb
            obtain ⟨j, hj⟩ := List.getElem?_of_mem hd2
            exact ne_of_type (h1.dq j d2 hj).head hc (by decide) rfl
        refine ⟨k + 1, ds ++ [d], _, rfl, by go_num, by omega, Nat.le_refl _, by show (ds ++ [d]).length = k + 1; have := HLD.out; simp; omega, hT, hS, by rw [List.map_append]; exact HO5.out, Nat.le_trans (Nat.le_trans HW3.out TA.out.size) tg.out.size⟩
    · have hkn' : k = n := by omega
      subst hkn'
      have e1 : ¬ ((k : Int) < (k : Int)) := by omega
      have HLD := hide hdl.out
      have HS := hide (show Sx wr a p q ds (allQ k) (allL 0) from ⟨0, hsh.out⟩)
      have HP := hide (PRow.of hrow.out (by omega))
      have T3 := hide htu.out
      clear hdl hsh hrow htu hws hk hgg hkn
      obtain ⟨i1, hi1, hj0⟩ := Option.map_eq_some_iff.1 Try.infoOf
      simp only [Prod.mk.injEq] at hj0
      obtain ⟨hy0, hy1, hy2⟩ := hj0
      clear hi hz0 hz1 hz2 und T2 H2
      obtain ⟨wb, hwb⟩ : ∃ wb, wb = wr := ⟨_, rfl⟩
      subst hwb
      go_wp2_with fail
      go_loopg [11, 15] 5 (fun gg s11 s15 wr => ∃ (j : Nat) (xs : List Nat) (vo : Value), vo = s11 ∧ s15 = .int .i64 (j : Int) ∧ j ≤ k ∧ k - j ≤ gg ∧ Aside (xs.length = j) ∧ Aside (Turned [] w wr) ∧ Aside (Sx wr a p q ds (allQ k) (allL 0)) ∧ Aside (PRow 36 wr vl ds) ∧ Aside (Ofs w.heap.size wr a ds xs (fun _ => ofNew)) ∧ Aside (wr.ownsRow wb.heap.size 42 1 vo j (xs.map pd)) ∧ wb.heap.size ≤ wr.heap.size)
      case atStart => exact ⟨0, [], _, rfl, rfl, by omega, by omega, rfl, T3.out, HS.out, HP.out, ⟨fun i b hb => by simp at hb, fun i j b hb => by simp at hb, fun b hb => by simp at hb⟩, World.ownsRow_nil _ _ _ _, Nat.le_refl _⟩
      case round =>
        obtain ⟨j, xs, vo, rfl, rfl, hj, hgg, hxl, htu, hsx, hpr, hof, hrow, hws⟩ := hrel
        by_cases hjk : j < k
        · have e2 : (j : Int) < (k : Int) := by omega
          obtain ⟨g, cg, hv, hty, hcc⟩ := hpr.out
          have HOf := hide (by obtain ⟨s, h⟩ := hsx.out; exact offer_any wr a p q ds (allQ k) (allL 0) s g 0 cg (by have := HLD.out; omega) (fun i x hx => by rw [Nat.zero_add]; exact hcc i x hx) h)
          subst hv
          clear hty hcc
          go_wp2_with fail
          refine HOf.out.mono ?_
          rintro e w3 ⟨b, rfl, hb, hob, t3⟩
          have hsz : wb.heap.size ≤ w3.heap.size := Nat.le_trans hws t3.size
          have S3 := hide (hsx.out.turned0 t3)
          have P3 := hide (hpr.out.keep t3 (by simp))
          have O3 := hide (show Ofs w.heap.size w3 a ds (xs ++ [b]) (fun _ => ofNew) from by
            have h := hof.out.push t3 hob hb htu.out.size
            have e : updo (fun _ => ofNew) xs.length ofNew = fun _ => ofNew := by funext y; unfold updo; split <;> rfl
            rwa [e] at h)
          have T4 := hide (htu.out.trans t3)
          have HRow3 := hide (ownsRow_keep hrow.out (fun b hb => t3.block b (ownsRow_lt hrow.out b hb).2.1 (by simp)))
          have HXL := hide hxl.out
          have HW3 := hide hsz
          clear hb hob t3 HOf hsx hpr hof htu hrow hxl hws hsz
          go_wp2_with (at_builtin; (refine wpList_append_own _ rfl _ _ 55 rfl wb.heap.size 42 i1 _ 1 8 undo hi1 hy0 hy1 hy2 rfl (by decide) _ _ _ rfl (World.ownsRow.alloc HRow3.out _) ⟨w3.heap.size, 0, none⟩ 1 1 [pd b] rfl rfl (cell_one_new _ _ _) (by intro u hu; simp at hu; subst hu; rfl) (by unfold maxLen; omega) (by omega) (by have := HW3.out; simp; omega) ?_); intro v' w5 hown' hgrow5 hnil5)
          have tg := hide (turned_grown hgrow5)
          have HTY := hide (ownsRow_lt (World.ownsRow.alloc HRow3.out (.cells #[pd b] 42)))
          have HO5 := hide hown'
          clear hown' hgrow5 hnil5
          have ta : Turned [] w3 (w3.alloc (.cells #[pd b] 42)) := (Turned.refl _ _).alloc _
          have TA := hide ta
          clear ta
          go_roundg (k - (j + 1))
          case measure => omega
          case rel =>
            have key : ∀ y, y ∈ (Value.ownBlock _).toList → ∃ c e fr, _ = some (Obj.cells c e fr) ∧ e = 42 := fun y hy => by
              obtain ⟨c, hc⟩ := (HTY.out y (by simpa using hy)).2.2
              exact ⟨c, _, _, hc, rfl⟩
            have hT : Turned [] w w5 := (T4.out.trans TA.out).trans_new tg.out (fun y hy => .inr (by
              simp only [Option.mem_toList] at hy
              have := (HTY.out y hy).1
              have := T3.out.size
              omega))
            have hS : Sx w5 a p q ds (allQ k) (allL 0) := by
              have h0 := S3.out.turned0 TA.out
              obtain ⟨s, h1⟩ := h0
              refine ⟨s, h1.turned tg.out (fun hb => ?_) (fun hb => ?_) (fun hb => ?_) (fun d2 hd2 hb => ?_)⟩
              · obtain ⟨c, e, fr, hc, rfl⟩ := key _ hb
                exact ne_of_type h1.head hc (by decide) rfl
              · obtain ⟨c, e, fr, hc, rfl⟩ := key _ hb
                exact ne_of_type h1.mem.head hc (by decide) rfl
              · obtain ⟨c, e, fr, hc, rfl⟩ := key _ hb
                exact ne_of_type h1.mem.row hc (by decide) rfl
              · obtain ⟨c, e, fr, hc, rfl⟩ := key _ hb
                obtain ⟨j, hj⟩ := List.getElem?_of_mem hd2
                exact ne_of_type (h1.dq j d2 hj).head hc (by decide) rfl
            refine ⟨j + 1, xs ++ [b], _, rfl, by go_num, by omega, Nat.le_refl _, by show (xs ++ [b]).length = j + 1; have := HXL.out; simp; omega, hT, hS, (P3.out.keep TA.out (by simp)).keep tg.out (fun y hy => ?_), (O3.out.keep0 TA.out).keep tg.out (fun y hy => ?_), by rw [List.map_append]; exact HO5.out, Nat.le_trans (Nat.le_trans HW3.out TA.out.size) tg.out.size⟩
            · obtain ⟨c, e, fr, hc, rfl⟩ := key y hy
              exact ⟨c, _, fr, hc, by decide⟩
            · obtain ⟨c, e, fr, hc, rfl⟩ := key y hy
              exact ⟨c, _, fr, hc, by decide, by decide⟩
        · have hjk' : j = k := by omega
          subst hjk'
          have e2 : ¬ ((j : Int) < (j : Int)) := by omega
          have HXL := hide hxl.out
          have HS4 := hide hsx.out
          have HO4 := hide hof.out
          have HP4 := hide (PRow.of hrow.out (by omega))
          have T4 := hide htu.out
          clear hxl hsx hof hrow htu hpr hws hj hgg hjk HS HP T3 hi1 hy0 hy1 hy2 undo e1
          generalize hA0 : (fun _ => ofNew : Nat → OfS) = A0 at HO4
          have HI4 := hide (show AInv j 0 A0 by rw [← hA0]; exact ainv_new j)
          clear hA0
          obtain ⟨wd, hwd⟩ : ∃ wd, wd = wr := ⟨_, rfl⟩
          subst hwd
          obtain ⟨go_, cg, rfl, hty, hcc⟩ := HP4.out
          rw [HXL.out] at HP4
          rw [HXL.out]
          clear hty hcc
          go_wp2_with fail
          go_loopg [16] 101 (fun gg s16 wr => ∃ (m : Nat) (c : Int) (A : Nat → OfS), s16 = .int .i64 (m : Int) ∧ m ≤ 100 ∧ m ≤ len ∧ 100 - m ≤ gg ∧ Aside (Turned [] w wr) ∧ Aside (Sx wr a p q ds (allQ j) (allL c)) ∧ Aside (Ofs w.heap.size wr a ds xs A) ∧ Aside (PRow 42 wr (.slice (some ⟨go_, 0, none⟩) j cg) xs) ∧ Aside (AInv j c A))
          case atStart => exact ⟨0, 0, A0, rfl, by omega, by omega, by omega, T4.out, HS4.out, HO4.out, HP4.out, HI4.out⟩
          case round =>
            clear HI4 HO4 HP4 HS4
            clear A0
            obtain ⟨m, c, A, rfl, hm, hml, hgg, htu, hsx, hof, hpr, hai⟩ := hrel
            by_cases hgo : m < len ∧ m < 100
            · obtain ⟨hk1, hk2⟩ := hgo
              obtain ⟨g2, off, rfl, hc0, hwf⟩ := HR.out m hk1
              have hc : wr.cell? ⟨g2, off + m, none⟩ = some (.int .i64 (zs.getD m 0)) := by rw [htu.out.cell (p := ⟨g2, off + m, none⟩) (block_lt hc0) (by simp)]; exact hc0
              have e3 : (m : Int) < (len : Int) := by omega
              have e4 : (m : Int) < 100 := by omega
              have HPk := hide (fun w' => lpick_any (zs.getD m 0) j w' hwf (by omega))
              clear hc0 hwf
              generalize zs.getD m 0 = zm at *
              go_wp2_with fail
              refine (HPk.out _).mono ?_
              rintro e w4 ⟨⟨r, rfl, hr⟩, hw⟩
              rw [hw]
              clear hw w4 HPk
              obtain ⟨b, hb⟩ : ∃ b, xs[r]? = some b := ⟨xs[r]'(by have := HXL.out; omega), by simp⟩
              obtain ⟨c', o', hs1, hs2, hs3, -⟩ := hai.out.step hn4 r hr
              have hcell := PRow.cell hpr.out hb
              have hbc := hai.out.all hn4.2
              have HS := hide (hsx.out.step (hof.out.of_ r b hb) (by rw [cnt_all]; omega) (hai.out.ok r hr).ok hs1)
              have HB := hide hb
              have HI := hide hs2
              generalize o'.state = st at HS hs3
              clear hs1 hs2 hbc hb hc
              go_wp2_with fail
              refine HS.out.mono ?_
              rintro e w5 ⟨rfl, h1, h2, h3⟩
              have H1 := hide h1
              have H2 := hide h2
              have H3 := hide h3
              clear h1 h2 h3 HS hcell
              go_wp2_with fail
              go_roundg (100 - (m + 1))
              case measure => omega
              case rel =>
                have hty := hsx.out.types (hof.out.of_ r b HB.out)
                exact ⟨m + 1, c', updo A r o', by go_num, by omega, by omega, Nat.le_refl _, htu.out.trans_new H3.out (fun y hy => by have := HPQ.out; have := hof.out.lo b (List.mem_of_getElem? HB.out); simp at hy; right; rcases hy with rfl | rfl | rfl <;> omega), H1.out, hof.out.step hsx.out HB.out H2.out H3.out, hpr.out.keep H3.out (fun y hy => by
                  obtain ⟨cc, e, fr, hc, he⟩ := hty y hy
                  exact ⟨cc, e, fr, hc, by rcases he with rfl | rfl | rfl <;> decide⟩), HI.out⟩
            · have ends : Aside (¬ (m < len ∧ m < 100)) := hgo
              clear hgo
              by_cases hkl2 : m < len
              · have e3 : (m : Int) < (len : Int) := by omega
                have e4 : ¬ (m : Int) < 100 := by have := ends.out; omega
                go_wp2_with fail
                go_loopg [17] 201 (fun gg s17 wr => ∃ (m : Nat) (c : Int) (A : Nat → OfS), s17 = .int .i64 (m : Int) ∧ m ≤ 200 ∧ 200 - m ≤ gg ∧ Aside (Turned [] w wr) ∧ Aside (Sx wr a p q ds (allQ j) (allL c)) ∧ Aside (Ofs w.heap.size wr a ds xs A) ∧ Aside (PRow 42 wr (.slice (some ⟨go_, 0, none⟩) j cg) xs) ∧ Aside (AInv j c A) ∧ Aside (Turns j A m))
                case atStart => exact ⟨0, c, A, rfl, by omega, by omega, htu.out, hsx.out, hof.out, hpr.out, hai.out, Turns.zero hn4⟩
                case round =>
                  clear htu hsx hof hpr hai
                  clear A c
                  obtain ⟨m, c, A, rfl, hm, hgg, htu, hsx, hof, hpr, hai, htr⟩ := hrel
                  by_cases hm2 : m < 200
                  · have e5 : (m : Int) < 200 := by omega
                    have hlt : m % j < j := Nat.mod_lt _ (by omega)
                    obtain ⟨b, hb⟩ : ∃ b, xs[m % j]? = some b := ⟨xs[m % j]'(by have := HXL.out; omega), by simp⟩
                    obtain ⟨c', o', hs1, hs2, hs3⟩ := htr.out.step hai.out hn4
                    have hcell := PRow.cell hpr.out hb
                    have hbc := hai.out.all hn4.2
                    have HS := hide (hsx.out.step (hof.out.of_ _ b hb) (by rw [cnt_all]; omega) (hai.out.ok _ hlt).ok hs1)
                    have HB := hide hb
                    have HI := hide hs2
                    have HT := hide hs3
                    have hz : ¬ ((j : Int) = 0) := by omega
                    have hz1 : ¬ ((j : Int) = -1) := by omega
                    have hmod : (m : Int).tmod (j : Int) = ((m % j : Nat) : Int) := by rw [Int.tmod_eq_emod_of_nonneg (by omega)]; simp
                    clear hs1 hs2 hs3 hbc hb
                    generalize m % j = r at *
                    go_wp2_with fail
                    refine HS.out.mono ?_
                    rintro e w5 ⟨rfl, h1, h2, h3⟩
                    have H1 := hide h1
                    have H2 := hide h2
                    have H3 := hide h3
                    have HMod := hide hmod
                    clear h1 h2 h3 HS hcell hmod
                    go_wp2_with fail
                    go_roundg (200 - (m + 1))
                    case measure => omega
                    case rel =>
                      have hty := hsx.out.types (hof.out.of_ r b HB.out)
                      exact ⟨m + 1, c', updo A r o', by go_num, by omega, Nat.le_refl _, htu.out.trans_new H3.out (fun y hy => by have := HPQ.out; have := hof.out.lo b (List.mem_of_getElem? HB.out); simp at hy; right; rcases hy with rfl | rfl | rfl <;> omega), H1.out, hof.out.step hsx.out HB.out H2.out H3.out, hpr.out.keep H3.out (fun y hy => by
                        obtain ⟨cc, e, fr, hc, he⟩ := hty y hy
                        exact ⟨cc, e, fr, hc, by rcases he with rfl | rfl | rfl <;> decide⟩), HI.out, HT.out⟩
                  · have hm3 : m = 200 := by omega
                    subst hm3
                    have hend := htr.out.ends hai.out hn4
                    have HE := hide hend.2
                    have hcn := hend.1
                    subst hcn
                    have T9 := hide htu.out
                    have S9 := hide hsx.out
                    have O9 := hide hof.out
                    have P9 := hide hpr.out
                    clear hend htu hsx hof hpr hai htr hgg hm hm2
                    obtain ⟨wf, hwf⟩ : ∃ wf, wf = wr := ⟨_, rfl⟩
                    subst hwf
                    go_wp2_with fail
                    go_loopg [18] 5 (fun gg s18 wr => ∃ (m : Nat), s18 = .int .i64 (m : Int) ∧ m ≤ j ∧ j - m ≤ gg ∧ Aside (wr = wf))
                    case atStart => exact ⟨0, rfl, by omega, by omega, rfl⟩
                    case round =>
                      obtain ⟨m, rfl, hm, hgg, hwr⟩ := hrel
                      obtain ⟨⟩ := hwr.out
                      by_cases hmj : m < j
                      · have e6 : (m : Int) < (j : Int) := by omega
                        obtain ⟨b, hb⟩ : ∃ b, xs[m]? = some b := ⟨xs[m]'(by have := HXL.out; omega), by simp⟩
                        have hcell := PRow.cell P9.out hb
                        have HV := hide (state_any wf a b ds _ (O9.out.of_ m b hb))
                        rw [HE.out m hmj] at HV
                        clear hb
                        go_wp2_with fail
                        refine HV.out.mono ?_
                        rintro e w6 ⟨rfl, hw⟩
                        rw [hw]
                        clear hw w6 HV hcell
                        go_wp2_with fail
                        go_roundg (j - (m + 1))
                        case measure => omega
                        case rel => exact ⟨m + 1, by go_num, by omega, Nat.le_refl _, rfl⟩
                      · have hmj' : m = j := by omega
                        subst hmj'
                        have e6 : ¬ ((m : Int) < (m : Int)) := by omega
                        have HId := hide (by obtain ⟨s, h⟩ := S9.out; exact idle_any wf a p q ds (allQ m) (allL m) s h)
                        rw [cnt_all] at HId
                        go_wp2_with fail
                        refine HId.out.mono ?_
                        rintro e w7 ⟨rfl, h7⟩
                        have H7 := hide h7
                        clear h7
                        go_wp2_with fail
                        go_ret
                        exact ⟨rfl, T9.out.trans H7.out⟩
              · have e3 : ¬ (m : Int) < (len : Int) := by omega
                go_wp2_with fail
                go_loopg [17] 201 (fun gg s17 wr => ∃ (m : Nat) (c : Int) (A : Nat → OfS), s17 = .int .i64 (m : Int) ∧ m ≤ 200 ∧ 200 - m ≤ gg ∧ Aside (Turned [] w wr) ∧ Aside (Sx wr a p q ds (allQ j) (allL c)) ∧ Aside (Ofs w.heap.size wr a ds xs A) ∧ Aside (PRow 42 wr (.slice (some ⟨go_, 0, none⟩) j cg) xs) ∧ Aside (AInv j c A) ∧ Aside (Turns j A m))
                case atStart => exact ⟨0, c, A, rfl, by omega, by omega, htu.out, hsx.out, hof.out, hpr.out, hai.out, Turns.zero hn4⟩
                case round =>
                  clear htu hsx hof hpr hai
                  clear A c
                  obtain ⟨m, c, A, rfl, hm, hgg, htu, hsx, hof, hpr, hai, htr⟩ := hrel
                  by_cases hm2 : m < 200
                  · have e5 : (m : Int) < 200 := by omega
                    have hlt : m % j < j := Nat.mod_lt _ (by omega)
                    obtain ⟨b, hb⟩ : ∃ b, xs[m % j]? = some b := ⟨xs[m % j]'(by have := HXL.out; omega), by simp⟩
                    obtain ⟨c', o', hs1, hs2, hs3⟩ := htr.out.step hai.out hn4
                    have hcell := PRow.cell hpr.out hb
                    have hbc := hai.out.all hn4.2
                    have HS := hide (hsx.out.step (hof.out.of_ _ b hb) (by rw [cnt_all]; omega) (hai.out.ok _ hlt).ok hs1)
                    have HB := hide hb
                    have HI := hide hs2
                    have HT := hide hs3
                    have hz : ¬ ((j : Int) = 0) := by omega
                    have hz1 : ¬ ((j : Int) = -1) := by omega
                    have hmod : (m : Int).tmod (j : Int) = ((m % j : Nat) : Int) := by rw [Int.tmod_eq_emod_of_nonneg (by omega)]; simp
                    clear hs1 hs2 hs3 hbc hb
                    generalize m % j = r at *
                    go_wp2_with fail
                    refine HS.out.mono ?_
                    rintro e w5 ⟨rfl, h1, h2, h3⟩
                    have H1 := hide h1
                    have H2 := hide h2
                    have H3 := hide h3
                    have HMod := hide hmod
                    clear h1 h2 h3 HS hcell hmod
                    go_wp2_with fail
                    go_roundg (200 - (m + 1))
                    case measure => omega
                    case rel =>
                      have hty := hsx.out.types (hof.out.of_ r b HB.out)
                      exact ⟨m + 1, c', updo A r o', by go_num, by omega, Nat.le_refl _, htu.out.trans_new H3.out (fun y hy => by have := HPQ.out; have := hof.out.lo b (List.mem_of_getElem? HB.out); simp at hy; right; rcases hy with rfl | rfl | rfl <;> omega), H1.out, hof.out.step hsx.out HB.out H2.out H3.out, hpr.out.keep H3.out (fun y hy => by
                        obtain ⟨cc, e, fr, hc, he⟩ := hty y hy
                        exact ⟨cc, e, fr, hc, by rcases he with rfl | rfl | rfl <;> decide⟩), HI.out, HT.out⟩
                  · have hm3 : m = 200 := by omega
                    subst hm3
                    have hend := htr.out.ends hai.out hn4
                    have HE := hide hend.2
                    have hcn := hend.1
                    subst hcn
                    have T9 := hide htu.out
                    have S9 := hide hsx.out
                    have O9 := hide hof.out
                    have P9 := hide hpr.out
                    clear hend htu hsx hof hpr hai htr hgg hm hm2
                    obtain ⟨wf, hwf⟩ : ∃ wf, wf = wr := ⟨_, rfl⟩
                    subst hwf
                    go_wp2_with fail
                    go_loopg [18] 5 (fun gg s18 wr => ∃ (m : Nat), s18 = .int .i64 (m : Int) ∧ m ≤ j ∧ j - m ≤ gg ∧ Aside (wr = wf))
                    case atStart => exact ⟨0, rfl, by omega, by omega, rfl⟩
                    case round =>
                      obtain ⟨m, rfl, hm, hgg, hwr⟩ := hrel
                      obtain ⟨⟩ := hwr.out
                      by_cases hmj : m < j
                      · have e6 : (m : Int) < (j : Int) := by omega
                        obtain ⟨b, hb⟩ : ∃ b, xs[m]? = some b := ⟨xs[m]'(by have := HXL.out; omega), by simp⟩
                        have hcell := PRow.cell P9.out hb
                        have HV := hide (state_any wf a b ds _ (O9.out.of_ m b hb))
                        rw [HE.out m hmj] at HV
                        clear hb
                        go_wp2_with fail
                        refine HV.out.mono ?_
                        rintro e w6 ⟨rfl, hw⟩
                        rw [hw]
                        clear hw w6 HV hcell
                        go_wp2_with fail
                        go_roundg (j - (m + 1))
                        case measure => omega
                        case rel => exact ⟨m + 1, by go_num, by omega, Nat.le_refl _, rfl⟩
                      · have hmj' : m = j := by omega
                        subst hmj'
                        have e6 : ¬ ((m : Int) < (m : Int)) := by omega
                        have HId := hide (by obtain ⟨s, h⟩ := S9.out; exact idle_any wf a p q ds (allQ m) (allL m) s h)
                        rw [cnt_all] at HId
                        go_wp2_with fail
                        refine HId.out.mono ?_
                        rintro e w7 ⟨rfl, h7⟩
                        have H7 := hide h7
                        clear h7
                        go_wp2_with fail
                        go_ret
                        exact ⟨rfl, T9.out.trans H7.out⟩

set_option maxRecDepth 100000 in
theorem quietAll_lifted (os : Os) (started : os.Started) (H : Type) (enc : TypeId × Value → H) :
    ReturnsInHanded {} Try.checked os 5 .any (Rows.quietAllSpec.pre6 enc Try.prog Try.f5 Rows.quietAllRow.domain false) (Rows.quietAllSpec.post enc Try.prog Try.f5 false true false false) := by
  refine returnsInHanded_of_change (C := Try.checked) own started (by kernel_rfl) Try.func5
    (ChangeSpec.witness6 (enc := enc) (C := Try.checked) false ⟨#[], #[.int .i64 0, .slice none 0 0], []⟩ 8 (by kernel_rfl) (by kernel_rfl) (by kernel_rfl) (by kernel_rfl)) ?_
  intro W base args ds gs before hval0 hW hcnd _
  have hval : ∀ (j : Nat) t v, Try.f5.params[j]? = some t → args[j]? = some v → Value.okWide Try.prog W .any base t v := hval0
  have hW' := hW
  obtain ⟨p, q, hA0, hV, rfl, hfz, hnd⟩ := hW
  have hA : DataW.TrodAll enc Try.prog W 0 (fun _ => true) true Try.f5.params.toList args.toList ds p := hA0
  rw [Try.params5] at hA hval
  obtain ⟨v0, vs0, d0, ds0, p0, q0, hargs, rfl, rfl, h0, r0⟩ := trodAll_cons hA
  obtain ⟨v1, vs1, d1, ds1, p1, q1, rfl, rfl, rfl, h1, r1⟩ := trodAll_cons r0
  obtain ⟨rfl, rfl, rfl⟩ := trodAll_nil r1
  obtain rfl : args = #[v0, v1] := by cases args; simp_all
  obtain ⟨rfl, rfl⟩ := trodVars_none hV
  obtain ⟨a0, rfl, rfl, rfl, w0⟩ := open_int Try.underlying3 (hval 0 3 v0 rfl rfl) h0
  obtain ⟨a1, len1, cap1, rfl⟩ := okWide_slice Try.underlying22 (hval 1 22 v1 rfl rfl)
  have k1 := h1
  have lt1 : ∀ x ∈ p1, x.block < W.heap.size := by obtain ⟨m, hm⟩ := k1; exact DataW.trod_lt m _ _ _ hm
  obtain ⟨z1, w1⟩ : ∃ zs, IsRow .i64 W a1 len1 cap1 zs := by
    obtain ⟨fuel, hf⟩ := h1
    rcases open_ints Try.underlying22 Try.underlying3 (by kernel_rfl) hf with ⟨hcs, _⟩ | ⟨x, l, c, zs, hcs, _, hl, hm, hz, _, hcell, hwz⟩
    · simp [Value.cells] at hcs
      obtain ⟨rfl, rfl, rfl⟩ := hcs
      exact ⟨[], .inl ⟨rfl, rfl, rfl, rfl⟩⟩
    · simp [Value.cells] at hcs
      obtain ⟨rfl, rfl, rfl⟩ := hcs
      exact ⟨zs, .inr ⟨_, rfl, hl, hm, by simpa using hz, hcell, hwz⟩⟩
  clear hA0 hval0
  refine (quietAll_walk a0 a1 len1 cap1 z1 W w0 w1).mono fun e W' ⟨he, ht⟩ => ?_
  subst he
  have bel : Below W.heap.size W W' := ht.below0
  exact ⟨_, rfl, _, _, _, [], _, [], hW', trodAll_mk1 (shut_bool Try.underlying4 _), (trodAll_cons_mk (shut_int Try.underlying3 w0) (trodAll_cons_mk (Below.trod laidOut (by kernel_rfl) (of_decide_eq_true (by kernel_rfl)) k1 bel lt1) trodAll_mk0)), rfl, bel.frame _, fun h => by cases h⟩

theorem quietAll_over : Rows.quietAllRow.holds Try.pinned (OpenSpec.ofChange Rows.quietAllSpec) :=
  OpenClaim.holds_of_wide 5 Try.f5 rfl rfl rfl rfl rfl rfl rfl ⟨rfl, rfl, rfl, rfl, rfl⟩ rfl rfl rfl rfl rfl (by kernel_rfl) Try.func5 (by kernel_rfl)
    (of_decide_eq_true (by kernel_rfl)) (by unfold Func.isWrapper; first | (rw [if_pos (by decide +kernel)]; kernel_rfl) | (rw [if_neg (by decide +kernel)]; exact ⟨rfl, rfl⟩))
    (fun os started H enc _ => quietAll_lifted os started H enc)

theorem quietAll_holds : Rows.QuietAllSaid := quietAll_over

end Go.Proofs.Ytbpjchgbejjdkaa

/-
  DequeOrder: alone, an owner finds what was pushed last first, thieves what was pushed first; what has no room lies in the stack: true for every cap, every list of items and every number of steals. (Text by DequeLists.gen.py.)
-/
import Derived.Test.YtdhfggdmlhgdoaaDequeKit
namespace Go.Proofs.Ytdhfggdmlhgdoaa
open Go.ChangeShapes Go.WideShapes Go.ChangeAt Go.RowKit
set_option linter.unusedVariables false

set_option maxHeartbeats 4000000 in
set_option maxRecDepth 100000 in
theorem dequeOrder_walk (x0 : Int) (a : Option Addr) (len cap : Nat) (zs : List Int) (x2 : Int) (w : World) (h0 : (Lit.int .i64 x0).wf = true) (hR : IsRow .i64 w a len cap zs) (h2 : (Lit.int .i64 x2).wf = true) :
    Calls Try.prog 4 #[.int .i64 x0, .slice a len cap, .int .i64 x2] w fun e w' => e = .returned (.bool true) ∧ Turned [] w w' := by
  have HAw := hide (awake_any w)
  obtain ⟨hrr, hlen, hlc⟩ := rr_of hR
  have HR := hide hrr
  generalize (fun i => zs.getD i 0) = xs at *
  clear hrr hR
  go_enter Try.func4, Try.ntmps4
  go_wp2_with fail
  refine HAw.out.mono ?_
  rintro e w0 ⟨rfl, t0⟩
  have T0 := hide t0
  clear t0 HAw
  have HNew := hide (new_any 100 w0)
  go_wp2_with fail
  refine HNew.out.mono ?_
  rintro e w1 ⟨rfl, h1, t1, -⟩
  have hw0 : w.heap.size ≤ w0.heap.size := T0.out.size
  obtain ⟨p, hp⟩ : ∃ p, p = w0.heap.size + 1 := ⟨_, rfl⟩
  obtain ⟨q, hq⟩ : ∃ q, q = w0.heap.size := ⟨_, rfl⟩
  rw [← hp, ← hq] at h1
  rw [← hp]
  have HPQ := hide (show w.heap.size ≤ p ∧ w.heap.size ≤ q by omega)
  have T1 := hide (T0.out.trans t1)
  have M1 := hide h1
  clear h1 t1 hp hq HNew T0 hw0
  have HP := hide (lpick_any x0 16 w1 h0 (by omega))
  clear h0
  go_wp2_with fail
  refine HP.out.mono ?_
  rintro e w11 ⟨⟨r, rfl, hr⟩, rfl⟩
  clear HP
  obtain ⟨n, hn⟩ : ∃ n : Nat, n = 1 + r := ⟨_, rfl⟩
  have hn1 : (1 : Int) + (r : Int) = (n : Int) := by omega
  have hnn : 1 ≤ n ∧ n ≤ 16 := by omega
  have HD := hide (dnew_ok w11 p q ⟨0, n, 40⟩ (List.replicate 100 0) 0 (show 1 ≤ n ∧ n ≤ 64 by omega) (show (40 : Nat) ≤ 4096 by omega) (show 0 + (4 + n + 40) ≤ (List.replicate 100 (0 : Int)).length by rw [List.length_replicate]; omega) (by simp) M1.out)
  clear hn hr
  go_wp2_with fail
  try rw [hn1]
  clear hn1
  refine HD.out.mono ?_
  rintro e w2 ⟨rfl, h2', t2, -⟩
  have D2 := hide (show Dn w2 w11.heap.size p q ⟨0, n, 40⟩ (List.replicate 100 0) from ⟨0, h2'⟩)
  have L2 := hide (lies_zero n 100 hnn.1 (by omega) xs)
  have T2 := hide (T1.out.trans t2)
  have HDD := hide (show w.heap.size ≤ w11.heap.size from T1.out.size)
  generalize w11.heap.size = d at *
  clear h2' t2 HD T1 M1
  generalize List.replicate 100 (0 : Int) = l0 at *
  go_upto_if 49 with fail
  go_cut [1] (fun s1 wc => ∃ L cp : Nat, s1 = .slice a L cp ∧ L ≤ 40 ∧ L ≤ len ∧ Aside (wc = w2))
  case first =>
    by_cases hL : 40 < len
    · have e1 : (40 : Int) < (len : Int) := by omega
      obtain ⟨b0, off0, rfl, -⟩ := HR.out 0 (by omega)
      go_wp2_with fail
      go_meet
      case rel => exact ⟨40, _, rfl, by omega, by omega, rfl⟩
    · have e1 : ¬ (40 : Int) < (len : Int) := by omega
      go_wp2_with fail
      go_meet
      case rel => exact ⟨len, cap, rfl, by omega, by omega, rfl⟩
  case rest =>
    obtain ⟨L, cp, rfl, hL, hLl, hwc⟩ := hcut
    have hwc' := hwc.out
    subst hwc'
    clear hwc
    go_wp2_with fail
    go_loopg [12, 13, 14] 41 (fun gg s _ _ wr => ∃ j : Nat, s = .int .i64 (j : Int) ∧ j ≤ L ∧ L - j ≤ gg ∧ Aside (Turned [] w wr) ∧ Aside (∃ l, Dn wr d p q ⟨0, n, 40⟩ l ∧ Lies ⟨0, n, 40⟩ l xs 0 (min j n) (max j n)))
    case atStart => exact ⟨0, rfl, by omega, by omega, T2.out, ⟨l0, D2.out, by rw [Nat.zero_min, Nat.zero_max]; exact L2.out⟩⟩
    case round =>
      obtain ⟨j, rfl, hj, hgg, htu, hst⟩ := hrel
      obtain ⟨l, hdn, hli⟩ := hst.out
      by_cases hlt : j < L
      · have e1 : (j : Int) < (L : Int) := by omega
        obtain ⟨b0, off0, ha, hc0⟩ := HR.out j (by omega)
        subst ha
        have hc : wr.cell? ⟨b0, off0 + j, none⟩ = some (.int .i64 (xs j)) := by rw [htu.out.cell (p := ⟨b0, off0 + j, none⟩) (block_lt hc0) (by simp)]; exact hc0
        obtain ⟨l', hdid, hli'⟩ : ∃ l', Did ⟨0, n, 40⟩ .pushReadBottom (xs j) l l' (xs j, 0) ∧ Lies ⟨0, n, 40⟩ l' xs 0 (min (j + 1) n) (max (j + 1) n) := by
          by_cases hjn : j < n
          · rw [show min j n = j by omega, show max j n = n by omega] at hli
            obtain ⟨l', h1, h2⟩ := hli.push_slot (show j < n from hjn) (Nat.le_refl _)
            exact ⟨l', h1, by rw [show min (j + 1) n = j + 1 by omega, show max (j + 1) n = n by omega]; exact h2⟩
          · rw [show min j n = n by omega, show max j n = j by omega] at hli
            obtain ⟨l', h1, h2⟩ := hli.push_stack (show n ≤ j by omega) (show j < n + 40 by omega)
            exact ⟨l', h1, by rw [show min (j + 1) n = n by omega, show max (j + 1) n = j + 1 by omega]; exact h2⟩
        have HDid := hide hdid
        have HLi := hide hli
        have HLi' := hide hli'
        have HPush := hide (hdn.push (xs j))
        clear hdid hli hli' hdn hst hc0
        go_wp2_with fail
        refine HPush.out.mono ?_
        rintro e wa ⟨rfl, h3, h4, h5, h6⟩
        have ta := htu.out.trans h5
        have hb : w.heap.size ≤ wr.heap.size := htu.out.size
        generalize wr.heap.size = b at *
        have HDo := hide (h3.alone h4 h6 (.inl rfl) HLi.out (show n ≤ 64 by omega) HDid.out)
        have TA := hide ta
        clear h3 h4 h5 h6 ta HPush
        go_wp2_with fail
        refine HDo.out.mono ?_
        rintro e w5 ⟨rfl, h7, h8⟩
        have T5 := hide (TA.out.trans_new h8 (fun i hi => by have := HPQ.out; simp at hi; right; rcases hi with rfl | rfl | rfl <;> omega))
        have D5 := hide h7
        clear h7 h8 HDo TA hc
        go_wp2_with fail
        go_roundg (L - (j + 1))
        case measure => omega
        case rel => exact ⟨j + 1, by go_num, by omega, Nat.le_refl _, T5.out, ⟨l', D5.out, HLi'.out⟩⟩
      · have e1 : ¬ (j : Int) < (L : Int) := by omega
        have ej : j = L := by omega
        subst ej
        have DA := hide hdn
        have LA := hide hli
        have TA := hide htu.out
        clear hdn hli hst htu
        obtain ⟨m, hm⟩ : ∃ m, m = min j n := ⟨_, rfl⟩
        obtain ⟨M, hM⟩ : ∃ M, M = max j n := ⟨_, rfl⟩
        rw [← hm, ← hM] at LA
        have hmm : m ≤ 16 ∧ m ≤ j ∧ m ≤ n ∧ (m = j ∨ m = n) ∧ M = max j n := by omega
        have HMM := hide hmm
        have hm16 : m ≤ 16 := hmm.1
        clear hmm hM hm
        go_upto_if 75 with fail
        go_cut [15] (fun s15 wc => s15 = .int .i64 (m : Int) ∧ Aside (wc = wr))
        case first =>
          by_cases hnj : n < j
          · have e5 : (n : Int) < (j : Int) := by omega
            have em : n = m := by have := HMM.out; omega
            clear HMM
            subst em
            go_wp2_with fail
            go_meet
            case rel => exact ⟨rfl, rfl⟩
          · have e5 : ¬ (n : Int) < (j : Int) := by omega
            have em := hide (show j = m by have := HMM.out; omega)
            go_wp2_with fail
            go_meet
            case rel => exact ⟨by rw [em.out], rfl⟩
        case rest =>
          obtain ⟨rfl, hwc⟩ := hcut
          obtain ⟨wv, hwv⟩ : ∃ wv, wv = wc := ⟨_, rfl⟩
          have DB := hide (show Dn wv d p q ⟨0, n, 40⟩ l by rw [hwv, hwc.out]; exact DA.out)
          have TB := hide (show Turned [] w wv by rw [hwv, hwc.out]; exact TA.out)
          rw [← hwv]
          clear hwc hwv DA TA
          have HP := hide (lpick_any x2 (m + 1) wv h2 (by omega))
          have em1 : ((m : Int) + 1) = ((m + 1 : Nat) : Int) := by omega
          have EM := hide em1
          clear em1
          rw [← EM.out] at HP
          go_wp2_with fail
          refine HP.out.mono ?_
          rintro e wu ⟨⟨k, rfl, hk⟩, rfl⟩
          clear HP EM
          have hkm : k ≤ m := by omega
          clear hk
          go_wp2_with fail
          go_loopg [17, 18, 19] 41 (fun gg s _ _ wr => ∃ i : Nat, s = .int .i64 (i : Int) ∧ i ≤ k ∧ k - i ≤ gg ∧ Aside (Turned [] w wr) ∧ Aside (∃ l, Dn wr d p q ⟨0, n, 40⟩ l ∧ Lies ⟨0, n, 40⟩ l xs i m M))
          case atStart => exact ⟨0, rfl, by omega, by omega, TB.out, ⟨l, DB.out, LA.out⟩⟩
          case round =>
            obtain ⟨i, rfl, hi, hgg2, htu, hst⟩ := hrel
            obtain ⟨l3, hdn, hli⟩ := hst.out
            have htu' := htu.out
            clear htu DB LA TB
            by_cases hlt2 : i < k
            · have e2 : (i : Int) < (k : Int) := by omega
              obtain ⟨b0, off0, ha, hc0⟩ := HR.out i (by have := HMM.out; omega)
              subst ha
              obtain ⟨l', hdid, hli'⟩ := hli.steal_slot (by omega)
              have HDid := hide hdid
              have HLi := hide hli
              have HLi' := hide hli'
              have HDn := hide hdn
              have HTu := hide htu'
              have HC0 := hide hc0
              have hij : (i : Int) < (j : Int) := by have := HMM.out; omega
              clear hdid hli hli' hdn hst htu' hc0
              have HOp := hide HDn.out.steal
              go_wp2_with fail
              refine HOp.out.mono ?_
              rintro e wa ⟨rfl, h3, h4, h5, h6⟩
              have ta := HTu.out.trans h5
              have hb : w.heap.size ≤ wr.heap.size := HTu.out.size
              generalize wr.heap.size = b at *
              have HDo := hide (h3.alone h4 h6 (.inr (.inr rfl)) HLi.out (show n ≤ 64 by omega) HDid.out)
              have TTA := hide ta
              clear h3 h4 h5 h6 ta HOp
              go_wp2_with fail
              refine HDo.out.mono ?_
              rintro e w6 ⟨rfl, h7, h8⟩
              have T6 := hide (TTA.out.trans_new h8 (fun i hi => by have := HPQ.out; simp at hi; right; rcases hi with rfl | rfl | rfl <;> omega))
              have D6 := hide h7
              clear h7 h8 HDo TTA hb
              have hc : w6.cell? ⟨b0, off0 + i, none⟩ = some (.int .i64 (xs i)) := by rw [T6.out.cell (p := ⟨b0, off0 + i, none⟩) (block_lt HC0.out) (by simp)]; exact HC0.out
              go_wp2_with fail
              go_roundg (k - (i + 1))
              case measure => omega
              case rel => exact ⟨i + 1, by go_num, by omega, Nat.le_refl _, T6.out, ⟨l', D6.out, HLi'.out⟩⟩
            · have e2 : ¬ (i : Int) < (k : Int) := by omega
              have ei : i = k := by omega
              subst ei
              have DC := hide hdn
              have LC := hide hli
              have TC := hide htu'
              clear hdn hli hst htu'
              go_wp2_with fail
              go_loopg [20, 21, 22] 41 (fun gg s _ _ wr => ∃ (x : Int) (c : Nat), s = .int .i64 x ∧ Aside (x = (c : Int) - 1) ∧ i ≤ c ∧ c ≤ m ∧ c - i ≤ gg ∧ Aside (Turned [] w wr) ∧ Aside (∃ l, Dn wr d p q ⟨0, n, 40⟩ l ∧ ((i < c ∧ Lies ⟨0, n, 40⟩ l xs i c M) ∨ (c = i ∧ ∃ t, Lies ⟨0, n, 40⟩ l xs t t M))))
              case atStart =>
                refine ⟨_, m, rfl, rfl, by omega, by omega, by omega, TC.out, ⟨l3, DC.out, ?_⟩⟩
                by_cases him : i < m
                · exact .inl ⟨him, LC.out⟩
                · have em : i = m := by omega
                  exact .inr ⟨em.symm, i, by have := LC.out; rwa [← em] at this⟩
              case round =>
                obtain ⟨x, c, rfl, hx, hci, hcm, hgg3, htu, hst⟩ := hrel
                obtain ⟨l4, hdn, hor⟩ := hst.out
                have htu' := htu.out
                clear htu DC LC TC
                by_cases hlt3 : i < c
                · obtain ⟨c', rfl⟩ : ∃ c', c = c' + 1 := ⟨c - 1, by omega⟩
                  have hx' : x = (c' : Int) := by have := hx.out; omega
                  subst hx'
                  have hli : Lies ⟨0, n, 40⟩ l4 xs i (c' + 1) M := by
                    rcases hor with ⟨_, h⟩ | ⟨h, _⟩
                    · exact h
                    · omega
                  have e3 : (i : Int) ≤ (c' : Int) := by omega
                  obtain ⟨b0, off0, ha, hc0⟩ := HR.out c' (by have := HMM.out; omega)
                  subst ha
                  obtain ⟨l', hdid, hli'⟩ : ∃ l', Did ⟨0, n, 40⟩ .popReadBottom 0 l4 l' (xs c', 0) ∧ ((i < c' ∧ Lies ⟨0, n, 40⟩ l' xs i c' M) ∨ (c' = i ∧ ∃ t, Lies ⟨0, n, 40⟩ l' xs t t M)) := by
                    by_cases hic : i < c'
                    · obtain ⟨l', h1, h2⟩ := hli.pop_slot hic
                      exact ⟨l', h1, .inl ⟨hic, h2⟩⟩
                    · have e : i = c' := by omega
                      subst e
                      obtain ⟨l', h1, h2⟩ := hli.pop_last
                      exact ⟨l', h1, .inr ⟨rfl, _, h2⟩⟩
                  have HDid := hide hdid
                  have HLi := hide hli
                  have HLi' := hide hli'
                  have HDn := hide hdn
                  have HTu := hide htu'
                  have HC0 := hide hc0
                  have hij : (c' : Int) < (j : Int) := by have := HMM.out; omega
                  clear hdid hli hli' hdn hst htu' hc0 hx hor
                  have HOp := hide HDn.out.pop
                  go_wp2_with fail
                  refine HOp.out.mono ?_
                  rintro e wa ⟨rfl, h3, h4, h5, h6⟩
                  have ta := HTu.out.trans h5
                  have hb : w.heap.size ≤ wr.heap.size := HTu.out.size
                  generalize wr.heap.size = b at *
                  have HDo := hide (h3.alone h4 h6 (.inr (.inl rfl)) HLi.out (show n ≤ 64 by omega) HDid.out)
                  have TTA := hide ta
                  clear h3 h4 h5 h6 ta HOp
                  go_wp2_with fail
                  refine HDo.out.mono ?_
                  rintro e w6 ⟨rfl, h7, h8⟩
                  have T6 := hide (TTA.out.trans_new h8 (fun i hi => by have := HPQ.out; simp at hi; right; rcases hi with rfl | rfl | rfl <;> omega))
                  have D6 := hide h7
                  clear h7 h8 HDo TTA hb
                  have hc : w6.cell? ⟨b0, off0 + c', none⟩ = some (.int .i64 (xs c')) := by rw [T6.out.cell (p := ⟨b0, off0 + c', none⟩) (block_lt HC0.out) (by simp)]; exact HC0.out
                  go_wp2_with fail
                  go_roundg (c' - i)
                  case measure => omega
                  case rel => exact ⟨_, c', rfl, rfl, by omega, by omega, by omega, T6.out, ⟨l', D6.out, HLi'.out⟩⟩
                · have e3 : ¬ (i : Int) ≤ x := by have := hx.out; omega
                  obtain ⟨t, hli⟩ : ∃ t, Lies ⟨0, n, 40⟩ l4 xs t t M := by
                    rcases hor with ⟨h, _⟩ | ⟨_, h⟩
                    · omega
                    · exact h
                  have DC := hide hdn
                  have LC := hide hli
                  have TC := hide htu'
                  have e33 : x < (i : Int) := by have := hx.out; omega
                  clear hdn hli hst htu' hor hx
                  go_wp2_with fail
                  go_loopg [23, 24, 25] 41 (fun gg s _ _ wr => ∃ (x : Int) (c : Nat), s = .int .i64 x ∧ Aside (x = (c : Int) - 1) ∧ m ≤ c ∧ c ≤ j ∧ c - m ≤ gg ∧ Aside (Turned [] w wr) ∧ Aside (∃ l, Dn wr d p q ⟨0, n, 40⟩ l ∧ Lies ⟨0, n, 40⟩ l xs t t (max c n)))
                  case atStart =>
                    exact ⟨_, j, rfl, rfl, by have := HMM.out; omega, by omega, by omega, TC.out, ⟨l4, DC.out, by rw [← HMM.out.2.2.2.2]; exact LC.out⟩⟩
                  case round =>
                    obtain ⟨x4, c4, rfl, hx4, hci4, hcm4, hgg4, htu, hst⟩ := hrel
                    obtain ⟨l5, hdn, hli⟩ := hst.out
                    have htu' := htu.out
                    clear htu DC LC TC
                    by_cases hlt4 : m < c4
                    · obtain ⟨c', rfl⟩ : ∃ c', c4 = c' + 1 := ⟨c4 - 1, by omega⟩
                      have hx' : x4 = (c' : Int) := by have := hx4.out; omega
                      subst hx'
                      have e4 : (m : Int) ≤ (c' : Int) := by omega
                      obtain ⟨b0, off0, ha, hc0⟩ := HR.out c' (by omega)
                      subst ha
                      have hnc : n ≤ c' := by have := HMM.out; omega
                      rw [show max (c' + 1) n = c' + 1 by omega] at hli
                      obtain ⟨l', hdid, hli'⟩ := (hli.take .popReadBottom (.inl rfl)).1 (show n < c' + 1 by omega)
                      rw [show c' + 1 - 1 = c' by omega] at hdid hli'
                      have HDid := hide hdid
                      have HLi := hide hli
                      have HLi' := hide hli'
                      have HDn := hide hdn
                      have HTu := hide htu'
                      have HC0 := hide hc0
                      have hij : (c' : Int) < (j : Int) := by omega
                      clear hdid hli hli' hdn hst htu' hc0 hx4
                      have HOp := hide HDn.out.pop
                      go_wp2_with fail
                      refine HOp.out.mono ?_
                      rintro e wa ⟨rfl, h3, h4, h5, h6⟩
                      have ta := HTu.out.trans h5
                      have hb : w.heap.size ≤ wr.heap.size := HTu.out.size
                      generalize wr.heap.size = b at *
                      have HDo := hide (h3.alone h4 h6 (.inr (.inl rfl)) HLi.out (show n ≤ 64 by omega) HDid.out)
                      have TTA := hide ta
                      clear h3 h4 h5 h6 ta HOp
                      go_wp2_with fail
                      refine HDo.out.mono ?_
                      rintro e w6 ⟨rfl, h7, h8⟩
                      have T6 := hide (TTA.out.trans_new h8 (fun i hi => by have := HPQ.out; simp at hi; right; rcases hi with rfl | rfl | rfl <;> omega))
                      have D6 := hide h7
                      clear h7 h8 HDo TTA hb
                      have hc : w6.cell? ⟨b0, off0 + c', none⟩ = some (.int .i64 (xs c')) := by rw [T6.out.cell (p := ⟨b0, off0 + c', none⟩) (block_lt HC0.out) (by simp)]; exact HC0.out
                      go_wp2_with fail
                      go_roundg (c' - m)
                      case measure => omega
                      case rel => exact ⟨_, c', rfl, rfl, by omega, by omega, by omega, T6.out, ⟨l', D6.out, by rw [show max c' n = c' by omega]; exact HLi'.out⟩⟩
                    · have e4 : ¬ (m : Int) ≤ x4 := by have := hx4.out; omega
                      have e44 : x4 < (m : Int) := by have := hx4.out; omega
                      rw [show max c4 n = n by have := HMM.out; omega] at hli
                      obtain ⟨l', hdid, hli'⟩ := (hli.take .popReadBottom (.inl rfl)).2 (Nat.le_refl _)
                      obtain ⟨l'', hdid2, hli''⟩ := (hli'.take .stealReadTop (.inr rfl)).2 (Nat.le_refl _)
                      have HDid := hide hdid
                      have HLi := hide hli
                      have HLi' := hide hli'
                      have HDid2 := hide hdid2
                      have HLi'' := hide hli''
                      have HDn := hide hdn
                      have HTu := hide htu'
                      clear hdid hdid2 hli'' hli hli' hdn hst htu' hx4
                      have HOp := hide HDn.out.pop
                      go_wp2_with fail
                      refine HOp.out.mono ?_
                      rintro e wa ⟨rfl, h3, h4, h5, h6⟩
                      have ta := HTu.out.trans h5
                      have hb : w.heap.size ≤ wr.heap.size := HTu.out.size
                      generalize wr.heap.size = b at *
                      have HDo := hide (h3.alone h4 h6 (.inr (.inl rfl)) HLi.out (show n ≤ 64 by omega) HDid.out)
                      have TTA := hide ta
                      clear h3 h4 h5 h6 ta HOp
                      go_wp2_with fail
                      refine HDo.out.mono ?_
                      rintro e w6 ⟨rfl, h7, h8⟩
                      have T6 := hide (TTA.out.trans_new h8 (fun i hi => by have := HPQ.out; simp at hi; right; rcases hi with rfl | rfl | rfl <;> omega))
                      have D6 := hide h7
                      clear h7 h8 HDo TTA hb
                      have HOp := hide D6.out.steal
                      go_wp2_with fail
                      refine HOp.out.mono ?_
                      rintro e wa ⟨rfl, h3, h4, h5, h6⟩
                      have ta := T6.out.trans h5
                      have hb : w.heap.size ≤ w6.heap.size := T6.out.size
                      generalize w6.heap.size = b at *
                      have HDo := hide (h3.alone h4 h6 (.inr (.inr rfl)) HLi'.out (show n ≤ 64 by omega) HDid2.out)
                      have TTA := hide ta
                      clear h3 h4 h5 h6 ta HOp
                      go_wp2_with fail
                      refine HDo.out.mono ?_
                      rintro e w7 ⟨rfl, h7, h8⟩
                      have T7 := hide (TTA.out.trans_new h8 (fun i hi => by have := HPQ.out; simp at hi; right; rcases hi with rfl | rfl | rfl <;> omega))
                      have D7 := hide h7
                      clear h7 h8 HDo TTA hb
                      have HI : Hid (Calls Try.prog 28 #[.pointer (some ⟨d, 0, none⟩)] w7 fun e w' => ∃ v cp, e = .returned (.slice v 0 cp) ∧ Turned [] w7 w') := by
                        obtain ⟨s, h1⟩ := D7.out
                        have hlow := HLi''.out.low (show n ≤ 64 by omega)
                        refine (items_any w7 d p q ⟨0, n, 40⟩ l'' s (by omega) (by omega) h1).mono ?_
                        rintro e w' ⟨vv, rfl, ⟨len', ho⟩, ht⟩
                        have hlen : len' = 0 := by
                          have := ho.1
                          rw [List.length_map, HLi''.out.none (Nat.le_refl _)] at this
                          simp at this
                          omega
                        subst hlen
                        obtain ⟨-, ao, cap, rfl, -⟩ := ownsRow_any ho
                        exact ⟨ao, cap, rfl, ht⟩
                      go_wp2_with (go_at_call 28; refine HI.out.mono ?_; rintro e we ⟨vv, cp, rfl, ht⟩; have HTT := hide ht; clear ht)
                      go_ret
                      exact ⟨rfl, T7.out.trans HTT.out⟩

set_option maxRecDepth 100000 in
theorem dequeOrder_lifted (os : Os) (started : os.Started) (H : Type) (enc : TypeId × Value → H) :
    ReturnsInHanded {} Try.checked os 4 .any (Rows.dequeOrderSpec.pre6 enc Try.prog Try.f4 Rows.dequeOrderRow.domain false) (Rows.dequeOrderSpec.post enc Try.prog Try.f4 false true false false) := by
  refine returnsInHanded_of_change (C := Try.checked) own started (by kernel_rfl) Try.func4
    (ChangeSpec.witness6 (enc := enc) (C := Try.checked) false ⟨#[], #[.int .i64 0, .slice none 0 0, .int .i64 0], []⟩ 8 (by kernel_rfl) (by kernel_rfl) (by kernel_rfl) (by kernel_rfl)) ?_
  intro W base args ds gs before hval0 hW hcnd _
  have hval : ∀ (j : Nat) t v, Try.f4.params[j]? = some t → args[j]? = some v → Value.okWide Try.prog W .any base t v := hval0
  have hW' := hW
  obtain ⟨p, q, hA0, hV, rfl, hfz, hnd⟩ := hW
  have hA : DataW.TrodAll enc Try.prog W 0 (fun _ => true) true Try.f4.params.toList args.toList ds p := hA0
  rw [Try.params4] at hA hval
  obtain ⟨v0, vs0, d0, ds0, p0, q0, hargs, rfl, rfl, h0, r0⟩ := trodAll_cons hA
  obtain ⟨v1, vs1, d1, ds1, p1, q1, rfl, rfl, rfl, h1, r1⟩ := trodAll_cons r0
  obtain ⟨v2, vs2, d2, ds2, p2, q2, rfl, rfl, rfl, h2, r2⟩ := trodAll_cons r1
  obtain ⟨rfl, rfl, rfl⟩ := trodAll_nil r2
  obtain rfl : args = #[v0, v1, v2] := by cases args; simp_all
  obtain ⟨rfl, rfl⟩ := trodVars_none hV
  obtain ⟨a0, rfl, rfl, rfl, w0⟩ := open_int Try.underlying3 (hval 0 3 v0 rfl rfl) h0
  obtain ⟨a1, len1, cap1, rfl⟩ := okWide_slice Try.underlying51 (hval 1 51 v1 rfl rfl)
  have k1 := h1
  have lt1 : ∀ x ∈ p1, x.block < W.heap.size := by obtain ⟨m, hm⟩ := k1; exact DataW.trod_lt m _ _ _ hm
  obtain ⟨z1, w1⟩ : ∃ zs, IsRow .i64 W a1 len1 cap1 zs := by
    obtain ⟨fuel, hf⟩ := h1
    rcases open_ints Try.underlying51 Try.underlying2 (by kernel_rfl) hf with ⟨hcs, _⟩ | ⟨x, l, c, zs, hcs, _, hl, hm, hz, _, hcell, hwz⟩
    · simp [Value.cells] at hcs
      obtain ⟨rfl, rfl, rfl⟩ := hcs
      exact ⟨[], .inl ⟨rfl, rfl, rfl, rfl⟩⟩
    · simp [Value.cells] at hcs
      obtain ⟨rfl, rfl, rfl⟩ := hcs
      exact ⟨zs, .inr ⟨_, rfl, hl, hm, by simpa using hz, hcell, hwz⟩⟩
  obtain ⟨a2, rfl, rfl, rfl, w2⟩ := open_int Try.underlying3 (hval 2 3 v2 rfl rfl) h2
  clear hA0 hval0
  refine (dequeOrder_walk a0 a1 len1 cap1 z1 a2 W w0 w1 w2).mono fun e W' ⟨he, ht⟩ => ?_
  subst he
  have bel : Below W.heap.size W W' := ht.below0
  exact ⟨_, rfl, _, _, _, [], _, [], hW', trodAll_mk1 (shut_bool Try.underlying4 _), (trodAll_cons_mk (shut_int Try.underlying3 w0) (trodAll_cons_mk (Below.trod laidOut (by kernel_rfl) (of_decide_eq_true (by kernel_rfl)) k1 bel lt1) (trodAll_cons_mk (shut_int Try.underlying3 w2) trodAll_mk0))), rfl, bel.frame _, fun h => by cases h⟩

theorem dequeOrder_over : Rows.dequeOrderRow.holds Try.pinned (OpenSpec.ofChange Rows.dequeOrderSpec) :=
  OpenClaim.holds_of_wide 4 Try.f4 rfl rfl rfl rfl rfl rfl rfl ⟨rfl, rfl, rfl, rfl, rfl⟩ rfl rfl rfl rfl rfl (by kernel_rfl) Try.func4 (by kernel_rfl)
    (of_decide_eq_true (by kernel_rfl)) (by unfold Func.isWrapper; first | (rw [if_pos (by decide +kernel)]; kernel_rfl) | (rw [if_neg (by decide +kernel)]; exact ⟨rfl, rfl⟩))
    (fun os started H enc _ => dequeOrder_lifted os started H enc)

theorem dequeOrder_holds : Rows.DequeOrderSaid := dequeOrder_over
end Go.Proofs.Ytdhfggdmlhgdoaa

/-
  SumsOrders: whatever the order of steps, however many workers and blocks there are, the sums ahead of all are those that adding up one behind the other has; nothing is told ahead of the end; who has ended stays so; each step has one access at most; by turns all end. Any values (of which the first 120 count), any two numbers that pick workers and blocks, any steps (of which the first 400 count).
-/
import Derived.Test.YtdjeilombaclmaaSumsBox
import Derived.Deep.Cut
import Derived.Deep.CutBlock
import Derived.Deep.CutRange
import Derived.Deep.DeepCutAuto
import Derived.Deep.LoopGhost
namespace Go.Proofs.Ytdjeilombaclmaa
open Go.ChangeShapes Go.WideShapes Go.ChangeAt Go.RowKit
set_option linter.unusedVariables false

/-- A row that may be written. -/
def OwnR (w : World) (ao : Option Addr) (m : Nat) : Prop := m = 0 ∨ ∃ g cur, ao = some ⟨g, 0, none⟩ ∧ w.heap[g]? = some (.cells cur 2) ∧ m ≤ cur.size
theorem OwnR.of {w : World} {B : Nat} {v : Value} {l : List Int} (h : Rw w B v l) {ao : Option Addr} {c m : Nat} (hv : v = .slice ao m c) (hm : l.length = m) : OwnR w ao m ∧ ∀ g, ao = some ⟨g, 0, none⟩ → B ≤ g ∧ g < w.heap.size := by
  rcases h.2 with ⟨e, h0⟩ | ⟨g, cap, cur, e, hg, hh, hc, h4, h5, ht⟩
  · rw [hv] at e
    cases e
    exact ⟨.inl rfl, fun g h => by cases h⟩
  · rw [hv] at e
    cases e
    refine ⟨.inr ⟨g, cur, rfl, hh, ?_⟩, fun g' h => by cases h; exact ⟨hg, lt_of_heap hh⟩⟩
    have := congrArg List.length ht
    simp at this
    omega

theorem OwnR.keep {w w' : World} {ao : Option Addr} {m : Nat} (h : OwnR w ao m) (t : Turned [] w w') : OwnR w' ao m := by
  rcases h with h | ⟨g, cur, h1, h2, h3⟩
  · exact .inl h
  · exact .inr ⟨g, cur, h1, (t.block g (lt_of_heap h2) (by simp)).trans h2, h3⟩

/-- Eight marks. -/
def Mks (w : World) (E : Nat) (bs : List Bool) : Prop := w.heap[E]? = some (.cells (bs.map Value.bool).toArray 38) ∧ bs.length = 8
section
variable {w w' : World} {E : Nat} {bs : List Bool}
theorem Mks.c (h : Mks w E bs) {i : Nat} {b : Bool} (hb : bs[i]? = some b) : w.cell? ⟨E, i, none⟩ = some (.bool b) := by rw [cell_of_heap h.1]; simp [hb]
theorem Mks.f (h : Mks w E bs) (i : Nat) : w.frozen? ⟨E, i, none⟩ = false := by have := h.1; simp [World.frozen?, this]
theorem Mks.lt (h : Mks w E bs) : E < w.heap.size := lt_of_heap h.1
theorem Mks.turned (h : Mks w E bs) {S : List Nat} (t : Turned S w w') (hE : E ∉ S) : Mks w' E bs := ⟨(t.block E h.lt hE).trans h.1, h.2⟩
theorem Mks.put (h : Mks w E bs) (i : Nat) (b : Bool) : Mks (w.setCell ⟨E, i, none⟩ (.bool b)) E (bs.set i b) := ⟨by rw [heap_setCell_at _ _ _ _ _ _ h.1, List.map_set]; simp, by simpa using h.2⟩
end

/-- What is known of sums' parameters. -/
structure Four (P : SP) (vals : List Int) (m n : Nat) : Prop where
  n : P.n = n
  l : P.len = m
  v : P.vals = vals
  bound : ∀ S : SS, S.left P ≤ (SS.fresh P).left P → S.left P * P.n + P.n ≤ 8 * (5 * m + 25)
theorem by4 (vals : List Int) (m : Nat) (hv : vals.length = m) (hm : m ≤ 120) (n : Nat) (hn : 0 < n ∧ n ≤ 8) (r : Nat) : Four ⟨vals, szOf m (1 + (r : Int)), n⟩ vals m n := by
  have hs : 0 < (⟨vals, szOf m (1 + (r : Int)), n⟩ : SP).size := szOf_pos m (by omega)
  refine ⟨rfl, hv, rfl, fun S hS => ?_⟩
  have h1 := turn_bound hs hn (by show vals.length ≤ 120; omega) (Nat.le_trans hS (left_fresh hs hn.1))
  rw [show (⟨vals, szOf m (1 + (r : Int)), n⟩ : SP).len = m from hv] at h1
  exact h1

theorem sl_steps {w0 w : World} {I : SIds} {P : SP} {S : SS} {A : Nat} (h : Sl w0 w I P S A) : Calls Try.prog 16 #[.pointer (some ⟨I.sp, 0, none⟩)] w fun e w' => e = .returned (.int .i64 (S.acc : Int)) ∧ w' = w := steps_mem I.sp I.sq _ _ w h.sm.share.mem

theorem snew12b (w0 w : World) (hT : Turned [] w0 w) (a : Option Addr) (m cap : Nat) (vals : List Int) (V : IRd w a m vals) (hm : m ≤ 300) (hcn : a = none → cap = 0) (n : Nat) (hn : 0 < n ∧ n ≤ 8) (w' : World) (cp cq : Nat) (s : Stg w w' cp cq) (r : Nat) (hr : r < 20) :
    Calls Try.prog 13 #[.pointer (some ⟨cp, 0, none⟩), .slice a m cap, .int .i64 (n : Int), .int .i64 (1 + (r : Int))] w' fun e w'' => ∃ I, e = .returned (.tuple #[.pointer (some ⟨I.s, 0, none⟩), .int .i64 0]) ∧ Nwd w0 w w'' I ⟨vals, szOf m (1 + (r : Int)), n⟩ ∧ I.sp = cp := by
  obtain ⟨hM, t, rfl, rfl⟩ := s
  have hz := t.size
  refine (sl_new (w0 := w0) (w := w) hT w' hM t a m cap vals (V.turned0 t) (old_ne (w1 := w') V) (by omega) hcn n (1 + (r : Int)) (by omega) (by omega) (by omega) (by omega)).mono ?_
  rintro e w'' ⟨I, rfl, h1, h2, -, -, h5, h6⟩
  exact ⟨I, rfl, ⟨h1, t.trans_new h5 (fun i hi => by simp at hi; right; omega), fun i hi => by have := h6 i hi; omega⟩, h2⟩
theorem none8 (k : Nat) : ¬ (List.replicate 8 false)[k]? = some true := by
  rw [List.getElem?_replicate]
  split <;> simp

set_option maxRecDepth 100000 in
set_option maxHeartbeats 16000000 in
theorem sumsOrders_walk (a : Option Addr) (len cap : Nat) (zs : List Int) (s0 s1 : Int) (pa : Option Addr) (plen pcap : Nat) (ps : List Int) (w : World) (h : IsRow .i64 w a len cap zs) (hs : In64 s0 ∧ In64 s1) (hp : IsRow .i64 w pa plen pcap ps) :
    Calls Try.prog 4 #[.slice a len cap, .agg #[.int .i64 s0, .int .i64 s1], .slice pa plen pcap] w fun e w' => e = .returned (.bool true) ∧ Turned [] w w' := by
  obtain ⟨hr, hlen, hlc, hcc, hcn0⟩ := isRow_rd h
  obtain ⟨hpr, hplen, -, -, -⟩ := isRow_rd hp
  have hpin : ∀ i, i < plen → -9223372036854775808 ≤ (ps.take plen).getD i 0 ∧ (ps.take plen).getD i 0 ≤ 9223372036854775807 := by
    intro i hi
    rcases hp with ⟨rfl, rfl, rfl, rfl⟩ | ⟨x, rfl, hl, hm, hz, hc, hwf⟩
    · omega
    · have h1 : (ps.take plen)[i]? = some ((ps.take plen).getD i 0) := getD_some (by simp; omega)
      exact wf_range (hwf _ (List.mem_of_mem_take (List.mem_of_getElem? h1)))
  have PV := hide hpr
  have PI := hide hpin
  have hcn := hide hcn0
  have HV := hide hr
  generalize ps.take plen = pvs at *
  generalize zs.take len = zvs at *
  clear h hp hcn0 hr hpr hpin
  have hBA : Bx (w.alloc (.cells #[.int .i64 s0, .int .i64 s1] 35)) w.heap.size s0 s1 := heap_alloc_new _ _
  have BA := hide hBA
  have TB := hide ((Turned.refl [] w).alloc (.cells #[.int .i64 s0, .int .i64 s1] 35))
  have HA := hide (awake12 (w.alloc (.cells #[.int .i64 s0, .int .i64 s1] 35)))
  unfold In64 at hs
  clear hBA
  go_enter Try.func4, Try.ntmps4
  go_wp2_with fail
  generalize w.alloc (.cells #[.int .i64 s0, .int .i64 s1] 35) = wB at *
  obtain ⟨O, hO⟩ : ∃ O, O = w.heap.size := ⟨_, rfl⟩
  rw [← hO] at BA ⊢
  have HO := hide hO
  clear hO
  refine HA.out.mono ?_
  rintro e w1 ⟨rfl, t1⟩
  have B1 := hide (BA.out.next t1)
  have T1 := hide (TB.out.trans t1)
  clear t1 HA BA TB
  go_upto_if 33 with fail
  go_cut [0, 34, 35] (fun s0' s34 s35 wc => ∃ m : Nat, s0' = .slice a m cap ∧ Aside (m ≤ 120 ∧ ∃ vals, IRd w a m vals) ∧ Aside (wc = w1))
  case first =>
    by_cases hl : 120 < len
    · have hsl := cut_first a len cap 120 hl hlc hcc
      have hlz : (120 : Int) < (len : Int) := by omega
      rw [show ((120 : Nat) : Int) = 120 from rfl] at hsl
      have V := hide (HV.out.first (m := 120) (by omega))
      go_wp2_with fail
      go_meet
      case rel => exact ⟨120, rfl, ⟨by omega, _, V.out⟩, rfl⟩
    · have hlz : ¬ (120 : Int) < (len : Int) := by omega
      go_wp2_with fail
      go_meet
      case rel => exact ⟨len, rfl, ⟨by omega, _, HV.out⟩, rfl⟩
  case rest =>
    obtain ⟨m, rfl, hm0, hwc⟩ := hcut
    have hwc' := hwc.out
    subst hwc'
    obtain ⟨w1, hw1⟩ : ∃ w1, w1 = wc := ⟨_, rfl⟩
    subst hw1
    obtain ⟨hm, vals, hv⟩ := hm0.out
    have V := hide hv
    have HVS := hide hv.size
    clear hwc hm0 hv HV hlen hlc hcc zvs len
    have HPK := hide (pick12 s0 8 w1 hs.1 (by omega))
    rw [show ((8 : Nat) : Int) = 8 from rfl] at HPK
    have c0 := B1.out.c0
    go_wp2_with fail
    refine HPK.out.mono ?_
    rintro e w2 ⟨⟨r1, rfl, hr1⟩, rfl⟩
    clear HPK c0
    obtain ⟨n, hn⟩ : ∃ n : Nat, (1 + (r1 : Int)) = (n : Int) := ⟨1 + r1, by omega⟩
    have hn1 : 0 < n ∧ n ≤ 8 := by omega
    have HNN := hide hn
    clear hn
    have hz0 := T1.out.size
    have HRW := hide (show Rw w2 w2.heap.size (.slice none 0 0) [] from World.ownsRow_nil _ _ _ _)
    have HVA := hide (V.out.turned0 T1.out)
    go_wp2_with (at_builtin; refine wpList_append64 rfl _ _ rfl w2.heap.size (.slice none 0 0) [] rfl HRW.out a m cap vals rfl HVA.out hcn.out (by show 0 + m ≤ 17592186044416; omega) (Nat.le_refl _) ?_; intro v' w3 hown hgr)
    rw [HNN.out]
    clear hr1
    have t23 : Turned [] w2 w3 := (Turned.refl [] w2).grown hgr (fun q hq => by simp [Value.ownBlock] at hq)
    have T3 := hide (T1.out.trans t23)
    have B3 := hide (B1.out.next t23)
    obtain ⟨ao, oc, rfl, ro, no, hoc⟩ := hown.rd
    rw [List.nil_append] at ro hown
    simp only [List.nil_append] at *
    rw [HVS.out] at ro ⊢
    have ow0 := OwnR.of hown rfl rfl
    rw [HVS.out] at ow0
    have OW := hide ow0.1
    have ON := hide ow0.2
    have RO := hide ro
    have HOC := hide hoc
    have hz23 := t23.size
    clear ow0 hown hgr ro no hoc t23 HRW HVA HNN B1 T1 hcn
    have HC := hide (cnew12 w3)
    go_wp2_with fail
    refine HC.out.mono ?_
    rintro e w4 ⟨cp, cq, rfl, s4⟩
    have S4 := hide s4
    have B4 := hide (B3.out.next s4.turn)
    have c1 := B4.out.c1
    clear s4 HC B3
    have HPK := hide (pick12 s1 20 w4 hs.2 (by omega))
    rw [show ((20 : Nat) : Int) = 20 from rfl] at HPK
    go_wp2_with fail
    refine HPK.out.mono ?_
    rintro e w5 ⟨⟨r2, rfl, hr2⟩, rfl⟩
    clear HPK c1 B4
    have HN := hide (snew12b w w3 T3.out ao m oc vals RO.out (by omega) HOC.out n hn1 w5 cp cq S4.out r2 hr2)
    go_wp2_with fail
    refine HN.out.mono ?_
    rintro e w6 ⟨I, rfl, h6, hsp⟩
    subst hsp
    have SA := hide h6.sl
    have OW6 := hide (show OwnR w6 ao m from OW.out.keep h6.turn)
    have HGN := hide (show ∀ g, ao = some ⟨g, 0, none⟩ → g ∉ I.all ∧ w.heap.size ≤ g from fun g hg => by
      have h1 := ON.out g hg
      refine ⟨fun hm => ?_, by omega⟩
      have := h6.all g hm
      omega)
    have HP4 := hide (by4 vals m HVS.out hm n hn1 r2)
    have HBD := hide HP4.out.bound
    clear h6 HN OW ON S4 RO HOC T3 hr2
    generalize (⟨vals, szOf m (1 + (r2 : Int)), n⟩ : SP) = P at *
    obtain ⟨S0, hS0⟩ : ∃ S0, S0 = SS.fresh P := ⟨_, rfl⟩
    rw [← hS0] at SA HBD
    clear hS0
    go_wp2_with fail
    go_loopw [13] (fun i wr => ∃ (j : Nat), i = .int .i64 j ∧ j ≤ m ∧ Hid (Sl w wr I P S0 0) ∧ Hid (OwnR wr ao m)) (fun i _ => m - (intOf i).toNat)
    case atStart => exact ⟨0, rfl, Nat.zero_le _, SA, OW6⟩
    case round =>
      obtain ⟨j, rfl, hj, H7, O7⟩ := hrel
      clear SA OW6
      by_cases hlt : j < m
      · have hjz : (j : Int) < (m : Int) := by omega
        obtain ⟨g, cur, rfl, hh, hc⟩ := O7.out.resolve_left (by omega)
        obtain ⟨cv, cg⟩ : ∃ cv, wr.cell? ⟨g, j, none⟩ = some cv := ⟨cur[j]'(by omega), by rw [cell_of_heap hh]; exact Array.getElem?_eq_getElem (by omega)⟩
        have fg : wr.frozen? ⟨g, j, none⟩ = false := by simp [World.frozen?, hh]
        have hgn := HGN.out g rfl
        have H8 := hide (H7.out.far ((Turned.refl [g] wr).setCell (p := ⟨g, j, none⟩) (.inl (by simp)) (.int .i64 (-7))) (fun i hi => by simp at hi; subst hi; exact hgn.1) (fun i hi => by simp at hi; subst hi; exact hgn.2))
        have O8 := hide (show OwnR (wr.setCell ⟨g, j, none⟩ (.int .i64 (-7))) (some ⟨g, 0, none⟩) m from .inr ⟨g, _, rfl, heap_setCell_at _ _ _ _ _ _ hh _, by simpa using hc⟩)
        clear hh hc hgn H7 O7
        go_wp2_with fail
        go_roundw
        case rel => exact ⟨j + 1, by go_num, by omega, H8, O8⟩
        case measure => simp [intOf]; omega
      · have hjz : ¬ (j : Int) < (m : Int) := by omega
        have MK := hide (show Mks (wr.alloc (.cells #[.bool false, .bool false, .bool false, .bool false, .bool false, .bool false, .bool false, .bool false] 38)) wr.heap.size (List.replicate 8 false) from ⟨heap_alloc_new _ _, rfl⟩)
        have SA := hide (H7.out.next ((Turned.refl [] wr).alloc (.cells #[.bool false, .bool false, .bool false, .bool false, .bool false, .bool false, .bool false, .bool false] 38)))
        have HEN := hide (show wr.heap.size ∉ I.all from fun hm => by have := H7.out.lt _ hm; omega)
        have hEz : w.heap.size ≤ wr.heap.size := H7.out.turn.size
        clear H7 O7 HGN hj
        go_wp2_with fail
        generalize wr.alloc (.cells #[.bool false, .bool false, .bool false, .bool false, .bool false, .bool false, .bool false, .bool false] 38) = w7 at *
        generalize wr.heap.size = E at *
        go_loopg [15] 400 (fun gg s15 wr => ∃ (j : Nat) (S : SS) (bs : List Bool), s15 = .int .i64 (j : Int) ∧ j ≤ 400 ∧ 400 - j ≤ gg ∧ Aside (Sl w wr I P S j) ∧ Aside (Mks wr E bs) ∧ Aside (∀ k : Nat, bs[k]? = some true → S.ended P (k : Int) = true) ∧ Aside (S.left P ≤ S0.left P))
        case atStart => exact ⟨0, S0, List.replicate 8 false, rfl, by omega, by omega, SA.out, MK.out, (fun k hk => absurd hk (none8 k)), Nat.le_refl _⟩
        case round =>
          obtain ⟨j, S, bs, rfl, hj, hgg, h8, m8, e8, l8⟩ := hrel
          have H8 := hide h8.out
          have M8 := hide m8.out
          have E8 := hide e8.out
          have L8 := hide l8.out
          clear SA MK h8 m8 e8 l8
          go_upto_region 17 with fail
          go_cut [77] (fun s77 wc => ∃ bb : Bool, s77 = .bool bb ∧ Aside (bb = decide (j < plen ∧ j < 400)) ∧ Aside (wc = wr))
          case first =>
            by_cases h1 : j < plen
            · have z1 : (j : Int) < (plen : Int) := by omega
              by_cases h2 : j < 400
              · have z2 : (j : Int) < 400 := by omega
                go_wp2_with fail
                go_meet
                case rel => exact ⟨true, by go_num, by show true = _; rw [decide_eq_true ⟨h1, h2⟩], rfl⟩
              · have z2 : ¬ (j : Int) < 400 := by omega
                go_wp2_with fail
                go_meet
                case rel => exact ⟨false, by go_num, by show false = _; rw [decide_eq_false (fun h => h2 h.2)], rfl⟩
            · have z1 : ¬ (j : Int) < (plen : Int) := by omega
              go_wp2_with fail
              go_meet
              case rel => exact ⟨false, by go_num, by show false = _; rw [decide_eq_false (fun h => h1 h.1)], rfl⟩
          case rest =>
            obtain ⟨bb, rfl, hbb, hwc⟩ := hcut
            have hwc' := hwc.out
            subst hwc'
            have HBB := hide hbb.out
            clear hwc hbb
            obtain ⟨w8, hw8⟩ : ∃ w8, w8 = wc := ⟨_, rfl⟩
            subst hw8
            cases bb with
            | true =>
              have hjp : j < plen ∧ j < 400 := by simpa using HBB.out.symm
              have hjpz : (j : Int) < (plen : Int) := by omega
              have cx0 := (PV.out.turned0 H8.out.turn).cell j _ (getD_some (show j < pvs.length by rw [PV.out.size]; exact hjp.1))
              have hxr := PI.out j hjp.1
              generalize pvs.getD j 0 = x at *
              obtain ⟨pg, po, rfl, cx⟩ := cx0
              have HPK := hide (pick12 x n w8 hxr (by omega))
              clear HBB
              go_wp2_with fail
              refine HPK.out.mono ?_
              rintro e w9 ⟨⟨r, rfl, hr⟩, rfl⟩
              clear HPK cx hxr
              have HSS := hide (sl_steps H8.out)
              go_wp2_with fail
              refine HSS.out.mono ?_
              rintro e w10 ⟨rfl, rfl⟩
              clear HSS
              have hr8 : r < 8 := by omega
              obtain ⟨b, hb⟩ : ∃ b, bs[r]? = some b := ⟨_, List.getElem?_eq_getElem (by rw [M8.out.2]; exact hr8)⟩
              have HST := hide (sl_step H8.out (by omega) (r : Int) (by omega))
              have HEQ := hide (show b = true → (S.next P (r : Int)).ended P (r : Int) = true from fun e => ended_stays H8.out.inv (E8.out r (e ▸ hb)))
              have HALL := hide (show ∀ k : Nat, (bs.set r ((S.next P (r : Int)).ended P (r : Int)))[k]? = some true → (S.next P (r : Int)).ended P (k : Int) = true from fun k hk => by
                rcases get_set hk with ⟨rfl, h2⟩ | ⟨_, h2⟩
                · exact h2.symm
                · exact ended_stays H8.out.inv (E8.out k h2))
              have HLN := hide (show (S.next P (r : Int)).left P ≤ S0.left P from Nat.le_trans (H8.out.inv.left_next _) L8.out)
              have HAC := hide (H8.out.inv.next (r : Int)).2.2
              have hacc := H8.out.acc
              have HP3 := hide (show (S.next P (r : Int)).ph = 3 → (S.next P (r : Int)).ended P (r : Int) = true from fun h => ended_over h _)
              have HBS := hide hb
              clear hb H8 E8 L8
              generalize S.next P (r : Int) = S' at *
              generalize S'.ended P (r : Int) = en at *
              have hac2 : S'.acc ≤ S.acc + 1 := HAC.out
              generalize S.acc = ac at *
              go_wp2_with fail
              refine HST.out.mono ?_
              rintro e w11 ⟨rfl, h11, t11⟩
              have H11 := hide h11
              have M11 := hide (M8.out.turned t11 (fun hm => HEN.out (hot_all hm)))
              have cE := M11.out.c HBS.out
              have fE := M11.out.f r
              have HS2 := hide (sl_steps h11)
              have hac3 : ¬ ((ac : Int) + 1 < (S'.acc : Int)) := by omega
              have hac4 : S'.acc ≤ 500 := by omega
              clear h11 t11 HST M8 HAC
              generalize S'.acc = ac' at *
              cases b with
              | true =>
                obtain rfl : en = true := HEQ.out rfl
                by_cases h3 : S'.ph = 3
                · as_aux_lemma =>
                    go_wp2_with fail
                    refine HS2.out.mono ?_
                    rintro e w12 ⟨rfl, rfl⟩
                    clear HS2
                    have M12 := hide (M11.out.put r true)
                    have H12 := hide (H11.out.far ((Turned.refl [E] w12).setCell (p := ⟨E, r, none⟩) (.inl (by simp)) (.bool true)) (fun i hi => by simp at hi; subst hi; exact HEN.out) (fun i hi => by simp at hi; subst hi; exact hEz))
                    clear H11 M11
                    generalize hw12 : w12.setCell ⟨E, r, none⟩ (.bool true) = w13 at *
                    have HR := hide (sl_result H12.out h3)
                    go_wp2_with fail
                    clear hw12
                    refine HR.out.mono ?_
                    rintro e w14 ⟨ro, rc, rfl, -, -, h14, t14⟩
                    have M14 := hide (M12.out.turned t14 (by simp))
                    have HDn := hide (sl_done h14)
                    rw [decide_eq_true h3] at HDn
                    clear h14 t14 HR H12 M12
                    go_wp2_with fail
                    refine HDn.out.mono ?_
                    rintro e w15 ⟨rfl, h15, t15⟩
                    have M15 := hide (M14.out.turned t15 (by simp))
                    have H15 := hide h15
                    clear h15 t15 HDn M14
                    go_wp2_with fail
                    go_roundg (400 - (j + 1))
                    case measure => omega
                    case rel => exact ⟨j + 1, S', bs.set r true, by go_num, by omega, Nat.le_refl _, H15.out, M15.out, HALL.out, HLN.out⟩
                · as_aux_lemma =>
                    go_wp2_with fail
                    refine HS2.out.mono ?_
                    rintro e w12 ⟨rfl, rfl⟩
                    clear HS2
                    have M12 := hide (M11.out.put r true)
                    have H12 := hide (H11.out.far ((Turned.refl [E] w12).setCell (p := ⟨E, r, none⟩) (.inl (by simp)) (.bool true)) (fun i hi => by simp at hi; subst hi; exact HEN.out) (fun i hi => by simp at hi; subst hi; exact hEz))
                    clear H11 M11
                    generalize hw12 : w12.setCell ⟨E, r, none⟩ (.bool true) = w13 at *
                    have HR := hide (sl_not H12.out h3)
                    go_wp2_with fail
                    clear hw12
                    refine HR.out.mono ?_
                    rintro e w14 ⟨rfl, h14, t14⟩
                    have M14 := hide (M12.out.turned t14 (by simp))
                    have HDn := hide (sl_done h14)
                    rw [decide_eq_false h3] at HDn
                    clear h14 t14 HR H12 M12
                    go_wp2_with fail
                    refine HDn.out.mono ?_
                    rintro e w15 ⟨rfl, h15, t15⟩
                    have M15 := hide (M14.out.turned t15 (by simp))
                    have H15 := hide h15
                    clear h15 t15 HDn M14
                    go_wp2_with fail
                    go_roundg (400 - (j + 1))
                    case measure => omega
                    case rel => exact ⟨j + 1, S', bs.set r true, by go_num, by omega, Nat.le_refl _, H15.out, M15.out, HALL.out, HLN.out⟩
              | false =>
                cases en with
                | true =>
                  by_cases h3 : S'.ph = 3
                  · as_aux_lemma =>
                      go_wp2_with fail
                      refine HS2.out.mono ?_
                      rintro e w12 ⟨rfl, rfl⟩
                      clear HS2
                      have M12 := hide (M11.out.put r true)
                      have H12 := hide (H11.out.far ((Turned.refl [E] w12).setCell (p := ⟨E, r, none⟩) (.inl (by simp)) (.bool true)) (fun i hi => by simp at hi; subst hi; exact HEN.out) (fun i hi => by simp at hi; subst hi; exact hEz))
                      clear H11 M11
                      generalize hw12 : w12.setCell ⟨E, r, none⟩ (.bool true) = w13 at *
                      have HR := hide (sl_result H12.out h3)
                      go_wp2_with fail
                      clear hw12
                      refine HR.out.mono ?_
                      rintro e w14 ⟨ro, rc, rfl, -, -, h14, t14⟩
                      have M14 := hide (M12.out.turned t14 (by simp))
                      have HDn := hide (sl_done h14)
                      rw [decide_eq_true h3] at HDn
                      clear h14 t14 HR H12 M12
                      go_wp2_with fail
                      refine HDn.out.mono ?_
                      rintro e w15 ⟨rfl, h15, t15⟩
                      have M15 := hide (M14.out.turned t15 (by simp))
                      have H15 := hide h15
                      clear h15 t15 HDn M14
                      go_wp2_with fail
                      go_roundg (400 - (j + 1))
                      case measure => omega
                      case rel => exact ⟨j + 1, S', bs.set r true, by go_num, by omega, Nat.le_refl _, H15.out, M15.out, HALL.out, HLN.out⟩
                  · as_aux_lemma =>
                      go_wp2_with fail
                      refine HS2.out.mono ?_
                      rintro e w12 ⟨rfl, rfl⟩
                      clear HS2
                      have M12 := hide (M11.out.put r true)
                      have H12 := hide (H11.out.far ((Turned.refl [E] w12).setCell (p := ⟨E, r, none⟩) (.inl (by simp)) (.bool true)) (fun i hi => by simp at hi; subst hi; exact HEN.out) (fun i hi => by simp at hi; subst hi; exact hEz))
                      clear H11 M11
                      generalize hw12 : w12.setCell ⟨E, r, none⟩ (.bool true) = w13 at *
                      have HR := hide (sl_not H12.out h3)
                      go_wp2_with fail
                      clear hw12
                      refine HR.out.mono ?_
                      rintro e w14 ⟨rfl, h14, t14⟩
                      have M14 := hide (M12.out.turned t14 (by simp))
                      have HDn := hide (sl_done h14)
                      rw [decide_eq_false h3] at HDn
                      clear h14 t14 HR H12 M12
                      go_wp2_with fail
                      refine HDn.out.mono ?_
                      rintro e w15 ⟨rfl, h15, t15⟩
                      have M15 := hide (M14.out.turned t15 (by simp))
                      have H15 := hide h15
                      clear h15 t15 HDn M14
                      go_wp2_with fail
                      go_roundg (400 - (j + 1))
                      case measure => omega
                      case rel => exact ⟨j + 1, S', bs.set r true, by go_num, by omega, Nat.le_refl _, H15.out, M15.out, HALL.out, HLN.out⟩
                | false =>
                  have h3 : S'.ph ≠ 3 := fun e => by have := HP3.out e; cases this
                  as_aux_lemma =>
                    go_wp2_with fail
                    refine HS2.out.mono ?_
                    rintro e w12 ⟨rfl, rfl⟩
                    clear HS2
                    have M12 := hide (M11.out.put r false)
                    have H12 := hide (H11.out.far ((Turned.refl [E] w12).setCell (p := ⟨E, r, none⟩) (.inl (by simp)) (.bool false)) (fun i hi => by simp at hi; subst hi; exact HEN.out) (fun i hi => by simp at hi; subst hi; exact hEz))
                    clear H11 M11
                    generalize hw12 : w12.setCell ⟨E, r, none⟩ (.bool false) = w13 at *
                    have HR := hide (sl_not H12.out h3)
                    go_wp2_with fail
                    clear hw12
                    refine HR.out.mono ?_
                    rintro e w14 ⟨rfl, h14, t14⟩
                    have M14 := hide (M12.out.turned t14 (by simp))
                    have HDn := hide (sl_done h14)
                    rw [decide_eq_false h3] at HDn
                    clear h14 t14 HR H12 M12
                    go_wp2_with fail
                    refine HDn.out.mono ?_
                    rintro e w15 ⟨rfl, h15, t15⟩
                    have M15 := hide (M14.out.turned t15 (by simp))
                    have H15 := hide h15
                    clear h15 t15 HDn M14
                    go_wp2_with fail
                    go_roundg (400 - (j + 1))
                    case measure => omega
                    case rel => exact ⟨j + 1, S', bs.set r false, by go_num, by omega, Nat.le_refl _, H15.out, M15.out, HALL.out, HLN.out⟩
            | false =>
              have HTN := hide (Tn.start (P := P) (S := S) (f := fun j => j % n) (j := 0) (K := 8 * (5 * m + 25)) H8.out.inv (fun k hk => by
                rw [HP4.out.n] at hk ⊢
                exact turn_f n hn1.1 0 k hk) (by have := HBD.out S L8.out; omega))
              have H9 := hide (show Sl w w8 I P S (400 + 0) from ⟨H8.out.sm, H8.out.ok, H8.out.inv, by have := H8.out.acc; omega, H8.out.turn, H8.out.hot, H8.out.lt⟩)
              clear H8 M8 E8 L8 HBB HBD
              go_wp2_with fail
              go_loopw [22] (fun i wr => ∃ (t : Nat) (S : SS), i = .int .i64 t ∧ t ≤ 8 * (5 * m + 25) + 1 ∧ Hid (Sl w wr I P S (400 + t)) ∧ Hid (Tn P S (fun j => j % n) t (8 * (5 * m + 25)))) (fun i _ => 10000 - (intOf i).toNat)
              case atStart => exact ⟨0, S, rfl, by omega, H9, HTN⟩
              case round =>
                obtain ⟨t, S, rfl, ht, H5, TN⟩ := hrel
                clear H9 HTN
                have htz : (t : Int) < 8 * (5 * (m : Int) + 200) := by omega
                have ht2 : t ≤ 6000 := by omega
                have HD := hide (sl_done H5.out)
                by_cases h3 : S.ph = 3
                · rw [decide_eq_true h3] at HD
                  go_wp2_with fail
                  refine HD.out.mono ?_
                  rintro e w11 ⟨rfl, h11, t11⟩
                  have HR := hide (sl_result h11 h3)
                  rw [HP4.out.v, HP4.out.l] at HR
                  clear h11 t11 HD H5 TN
                  go_wp2_with fail
                  refine HR.out.mono ?_
                  rintro e w12 ⟨ro, rc, rfl, r12, -, h12, t12⟩
                  have HPl := hide (rplain_any w12 a m cap vals (V.out.turned0 h12.turn) (by omega))
                  have R12 := hide r12
                  have H12 := hide h12
                  clear r12 h12 t12 HR
                  generalize wrap64 (pre vals m) = tot at *
                  go_wp2_with fail
                  refine HPl.out.mono ?_
                  rintro e w13 ⟨bo, bc, rfl, r13, -, t13⟩
                  have HS := hide (same12 w13 ro bo rc bc (preL vals) m (by omega) (R12.out.turned0 t13) r13)
                  have H13 := hide (H12.out.next t13)
                  clear r13 t13 HPl R12 H12
                  go_wp2_with fail
                  refine HS.out.mono ?_
                  rintro e w14 ⟨rfl, t14⟩
                  have H14 := hide (show Sl w w14 I P S (400 + t + 0) from H13.out.next t14)
                  clear t14 HS H13
                  go_wp2_with fail
                  go_loopw [29] (fun i wr => ∃ (u : Nat), i = .int .i64 u ∧ u ≤ n ∧ Hid (Sl w wr I P S (400 + t + u))) (fun i _ => n - (intOf i).toNat)
                  case atStart => exact ⟨0, rfl, Nat.zero_le _, H14⟩
                  case round =>
                    obtain ⟨u, rfl, hu, H15⟩ := hrel
                    clear H14
                    by_cases hlt : u < n
                    · have huz : (u : Int) < (n : Int) := by omega
                      have HST := hide (sl_step H15.out (by omega) (u : Int) (by omega))
                      rw [next_stays (fun h => by omega), ended_over h3, if_pos rfl] at HST
                      go_wp2_with fail
                      refine HST.out.mono ?_
                      rintro e w16 ⟨rfl, h16, t16⟩
                      have H16 := hide (show Sl w w16 I P S (400 + t + (u + 1)) from h16)
                      clear h16 t16 HST H15
                      go_wp2_with fail
                      go_roundw
                      case rel => exact ⟨u + 1, by go_num, by omega, H16⟩
                      case measure => simp [intOf]; omega
                    · have huz : ¬ (u : Int) < (n : Int) := by omega
                      have HD := hide (sl_done H15.out)
                      rw [decide_eq_true h3] at HD
                      go_wp2_with fail
                      refine HD.out.mono ?_
                      rintro e w16 ⟨rfl, h16, t16⟩
                      have HST := hide (sl_step h16 (by omega) (-1) (by omega))
                      rw [next_stays (fun h => by omega), ended_over h3, if_pos rfl] at HST
                      clear h16 t16 HD H15
                      go_wp2_with fail
                      refine HST.out.mono ?_
                      rintro e w17 ⟨rfl, h17, t17⟩
                      have HST2 := hide (sl_step h17 (by omega) (n : Int) (by omega))
                      rw [next_stays (fun h => by omega), ended_over h3, if_pos rfl] at HST2
                      clear h17 t17 HST
                      go_wp2_with fail
                      refine HST2.out.mono ?_
                      rintro e w18 ⟨rfl, h18, t18⟩
                      have T18 := hide h18.turn
                      clear h18 t18 HST2
                      go_wp2_with fail
                      go_ret
                      exact ⟨by first | rfl | (congr 2; simp), T18.out⟩
                · rw [decide_eq_false h3] at HD
                  have ht4 := TN.out.le h3
                  go_wp2_with fail
                  refine HD.out.mono ?_
                  rintro e w11 ⟨rfl, h11, t11⟩
                  have hnz : ¬ (n : Int) = 0 := by omega
                  have hnm : ¬ (n : Int) = -1 := by omega
                  have HST := hide (sl_step h11 (by omega) ((t % n : Nat) : Int) (by have := Nat.mod_lt t hn1.1; omega))
                  have TN2 := hide (Tn.step (f := fun j => j % n) h11.inv h3 (by rw [HP4.out.n]; exact Nat.mod_lt _ hn1.1) (fun i hi => by
                    rw [HP4.out.n] at hi ⊢
                    exact turn_f n hn1.1 (t + 1) i hi) TN.out)
                  have HM := hide (show ((t : Int) % (n : Int)) = ((t % n : Nat) : Int) from rfl)
                  clear h11 t11 HD H5 TN
                  generalize ((t % n : Nat) : Int) = x at *
                  go_wp2_with fail
                  rw [HM.out]
                  refine HST.out.mono ?_
                  rintro e w12 ⟨rfl, h12, t12⟩
                  have H12 := hide (show Sl w w12 I P _ (400 + (t + 1)) from h12)
                  clear h12 t12 HST HM
                  go_wp2_with fail
                  go_roundw
                  case rel => exact ⟨t + 1, _, by go_num, by omega, H12, TN2⟩
                  case measure => simp [intOf]; omega

set_option maxRecDepth 100000 in
theorem sumsOrders_lifted (os : Os) (started : os.Started) (H : Type) (enc : TypeId × Value → H) :
    ReturnsInHanded {} Try.checked os 4 .any (Rows.sumsOrdersSpec.pre6 enc Try.prog Try.f4 Rows.sumsOrdersRow.domain false) (Rows.sumsOrdersSpec.post enc Try.prog Try.f4 false true false false) := by
  refine returnsInHanded_of_change (C := Try.checked) own started (by kernel_rfl) Try.func4
    (ChangeSpec.witness6 (enc := enc) (C := Try.checked) false ⟨#[], #[.slice none 0 0, .agg #[.int .i64 0, .int .i64 0], .slice none 0 0], []⟩ 8 (by kernel_rfl) (by kernel_rfl) (by kernel_rfl) (by kernel_rfl)) ?_
  intro W base args ds gs before hval0 hW hcnd _
  have hval : ∀ (j : Nat) t v, Try.f4.params[j]? = some t → args[j]? = some v → Value.okWide Try.prog W .any base t v := hval0
  have hW' := hW
  obtain ⟨p, q, hA0, hV, rfl, hfz, hnd⟩ := hW
  have hA : DataW.TrodAll enc Try.prog W 0 (fun _ => true) true Try.f4.params.toList args.toList ds p := hA0
  rw [Try.params4] at hA hval
  obtain ⟨v0, vs0, d0, ds0, p0, q0, hargs, rfl, rfl, h0, r0⟩ := trodAll_cons hA
  obtain ⟨v1, vs1, d1, ds1, p1, q1, rfl, rfl, rfl, h1, r1⟩ := trodAll_cons r0
  obtain ⟨v2, vs2, d2, ds2, p2, q2, rfl, rfl, rfl, h2, r2⟩ := trodAll_cons r1
  obtain ⟨rfl, rfl, rfl⟩ := trodAll_nil r2
  obtain rfl : args = #[v0, v1, v2] := by cases args; simp_all
  obtain ⟨rfl, rfl⟩ := trodVars_none hV
  obtain ⟨a0, len0, cap0, rfl⟩ := okWide_slice Try.underlying22 (hval 0 22 v0 rfl rfl)
  have k0 := h0
  have lt0 : ∀ x ∈ p0, x.block < W.heap.size := by obtain ⟨m, hm⟩ := k0; exact DataW.trod_lt m _ _ _ hm
  obtain ⟨z0, w0⟩ : ∃ zs, IsRow .i64 W a0 len0 cap0 zs := by
    obtain ⟨fuel, hf⟩ := h0
    rcases open_ints Try.underlying22 Try.underlying2 (by kernel_rfl) hf with ⟨hcs, _⟩ | ⟨x, l, c, zs, hcs, _, hl, hm, hz, _, hcell, hwz⟩
    · simp [Value.cells] at hcs
      obtain ⟨rfl, rfl, rfl⟩ := hcs
      exact ⟨[], .inl ⟨rfl, rfl, rfl, rfl⟩⟩
    · simp [Value.cells] at hcs
      obtain ⟨rfl, rfl, rfl⟩ := hcs
      exact ⟨zs, .inr ⟨_, rfl, hl, hm, by simpa using hz, hcell, hwz⟩⟩
  have k1 := h1
  have lt1 : ∀ x ∈ p1, x.block < W.heap.size := by obtain ⟨m, hm⟩ := k1; exact DataW.trod_lt m _ _ _ hm
  obtain ⟨a10, a11, rfl, w1⟩ := open_two (hval 1 35 v1 rfl rfl) h1
  obtain ⟨a2, len2, cap2, rfl⟩ := okWide_slice Try.underlying36 (hval 2 36 v2 rfl rfl)
  have k2 := h2
  have lt2 : ∀ x ∈ p2, x.block < W.heap.size := by obtain ⟨m, hm⟩ := k2; exact DataW.trod_lt m _ _ _ hm
  obtain ⟨z2, w2⟩ : ∃ zs, IsRow .i64 W a2 len2 cap2 zs := by
    obtain ⟨fuel, hf⟩ := h2
    rcases open_ints Try.underlying36 Try.underlying3 (by kernel_rfl) hf with ⟨hcs, _⟩ | ⟨x, l, c, zs, hcs, _, hl, hm, hz, _, hcell, hwz⟩
    · simp [Value.cells] at hcs
      obtain ⟨rfl, rfl, rfl⟩ := hcs
      exact ⟨[], .inl ⟨rfl, rfl, rfl, rfl⟩⟩
    · simp [Value.cells] at hcs
      obtain ⟨rfl, rfl, rfl⟩ := hcs
      exact ⟨zs, .inr ⟨_, rfl, hl, hm, by simpa using hz, hcell, hwz⟩⟩
  clear hA0 hval0
  refine (sumsOrders_walk a0 len0 cap0 z0 a10 a11 a2 len2 cap2 z2 W w0 w1 w2).mono fun e W' ⟨he, ht⟩ => ?_
  subst he
  have bel : Below W.heap.size W W' := ht.below0
  exact ⟨_, rfl, _, _, _, [], _, [], hW', trodAll_mk1 (shut_bool Try.underlying4 _), (trodAll_cons_mk (Below.trod laidOut (by kernel_rfl) (of_decide_eq_true (by kernel_rfl)) k0 bel lt0) (trodAll_cons_mk (Below.trod laidOut (by kernel_rfl) (of_decide_eq_true (by kernel_rfl)) k1 bel lt1) (trodAll_cons_mk (Below.trod laidOut (by kernel_rfl) (of_decide_eq_true (by kernel_rfl)) k2 bel lt2) trodAll_mk0))), rfl, bel.frame _, fun h => by cases h⟩

theorem sumsOrders_over : Rows.sumsOrdersRow.holds Try.pinned (OpenSpec.ofChange Rows.sumsOrdersSpec) :=
  OpenClaim.holds_of_wide 4 Try.f4 rfl rfl rfl rfl rfl rfl rfl ⟨rfl, rfl, rfl, rfl, rfl⟩ rfl rfl rfl rfl rfl (by kernel_rfl) Try.func4 (by kernel_rfl)
    (of_decide_eq_true (by kernel_rfl)) (by unfold Func.isWrapper; first | (rw [if_pos (by decide +kernel)]; kernel_rfl) | (rw [if_neg (by decide +kernel)]; exact ⟨rfl, rfl⟩))
    (fun os started H enc _ => sumsOrders_lifted os started H enc)

theorem sumsOrders_holds : Rows.SumsOrdersSaid := sumsOrders_over
end Go.Proofs.Ytdjeilombaclmaa

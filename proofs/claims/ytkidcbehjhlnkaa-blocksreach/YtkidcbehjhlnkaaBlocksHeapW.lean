/-
  The heap of the statements: things laid one behind the other.
-/
import Derived.Test.YtkidcbehjhlnkaaBlocksAwake
import Derived.Test.YtkidcbehjhlnkaaBlocksHeapP
import Derived.Test.YtkidcbehjhlnkaaBlocksThings
import Derived.Test.YtkidcbehjhlnkaaBlocksRefR
import Derived.Deep.DeepCutAuto
import Derived.Deep.CutBlock
import Derived.Deep.LoopGhost
namespace Go.Proofs.Ytkidcbehjhlnkaa
open Go.RowKit Go.Maps
set_option linter.unusedVariables false

/-- What the first loop leaves. -/
structure Lays (w wc : World) (p q : Nat) (v : Value) (top : Int) (L : List Int) (bs : List Blk) (len : Nat) : Prop where
  mem : Mem wc p q L 0
  chain : Chain L top bs
  row : wc.ownsRow w.heap.size 3 1 v bs.length (bs.map fun b => Value.int .i64 b.t)
  few : bs.length ≤ len
  t : Turned [] w wc

theorem size_three {K n : Int} (hK : 1 ≤ K ∧ K ≤ 3) (hn : 0 ≤ n ∧ n ≤ 7) (h1 : K = 1 → n = 0) : ∃ m : Int, sizeOf threeCs K n = (m, 0) ∧ 1 ≤ m ∧ m ≤ 8 := by
  obtain ⟨k, rfl⟩ := Int.eq_ofNat_of_zero_le (show 0 ≤ K by omega)
  obtain ⟨j, rfl⟩ := Int.eq_ofNat_of_zero_le hn.1
  have hj : j < 8 := by omega
  have hk : k = 1 ∨ k = 2 ∨ k = 3 := by omega
  rcases hk with rfl | rfl | rfl
  · have : j = 0 := by have := h1 rfl; omega
    subst this
    exact ⟨4, by decide, by omega, by omega⟩
  · refine ⟨1 + j, ?_, by omega, by omega⟩
    have : ∀ j : Fin 8, sizeOf threeCs 2 (j.val : Int) = (1 + (j.val : Int), 0) := by decide
    exact this ⟨j, hj⟩
  · refine ⟨1 + j, ?_, by omega, by omega⟩
    have : ∀ j : Fin 8, sizeOf threeCs 3 (j.val : Int) = (1 + (j.val : Int), 0) := by decide
    exact this ⟨j, hj⟩

theorem lay_yes {L : List Int} {cs : List Cls} {t k n m : Int} (hs : sizeOf cs k n = (m, 0)) (h : 0 ≤ t ∧ t + m ≤ L.length) : layE L cs t k n = 0 ∧ layS L cs t k n = m ∧ layL L cs t k n = putL L t (laid k n m.toNat) := by
  have h1 := sizeOf_ok (cs := cs) (k := k) (n := n) (by rw [hs])
  rw [hs] at h1
  simp only at h1
  have hl : (laid k n m.toNat).length = m.toNat := laid_length _ _ _ (by omega)
  refine ⟨?_, ?_, ?_⟩
  · unfold layE putE; rw [hs, if_pos rfl, if_pos (by simp only; omega)]
  · unfold layS; rw [hs, if_pos ⟨rfl, h⟩]
  · unfold layL; rw [hs, if_pos rfl]
theorem lay_no {L : List Int} {cs : List Cls} {t k n m : Int} (hs : sizeOf cs k n = (m, 0)) (h : ¬ (0 ≤ t ∧ t + m ≤ L.length)) : layE L cs t k n = 10 ∧ layS L cs t k n = 0 ∧ layL L cs t k n = L := by
  have h1 := sizeOf_ok (cs := cs) (k := k) (n := n) (by rw [hs])
  rw [hs] at h1
  simp only at h1
  have hl : (laid k n m.toNat).length = m.toNat := laid_length _ _ _ (by omega)
  refine ⟨?_, ?_, ?_⟩
  · unfold layE putE; rw [hs, if_pos rfl, if_neg (by simp only; omega)]
  · unfold layS; rw [hs, if_neg (fun h2 => h h2.2)]
  · unfold layL putL; rw [hs, if_pos rfl, if_neg (by simp only; omega)]
/-- A row of the call's own stays where a memory turns. -/
theorem row_mem {w w' : World} {B p q n : Nat} {v : Value} {xs : List Value} {L : List Int} {s : Int} (hv : w.ownsRow B 3 1 v n xs) (hM : Mem w p q L s) (ht : Turned [p, q] w w') : w'.ownsRow B 3 1 v n xs := by
  refine ownsRow_keep hv (fun i hi => ?_)
  obtain ⟨_, h2, c, hc⟩ := ownsRow_lt hv i hi
  refine ht.block i h2 ?_
  simp only [List.mem_cons, List.not_mem_nil, or_false, not_or]
  refine ⟨fun e => ?_, fun e => ?_⟩
  · subst e; rw [hM.head] at hc; simp at hc
  · subst e; rw [hM.row] at hc; simp at hc

theorem Lays.drewN {w wc : World} {p q : Nat} {v : Value} {top : Int} {L : List Int} {bs : List Blk} {len : Nat} (h : Lays w wc p q v top L bs len) (m : Nat) : Lays w (wc.drewN m) p q v top L bs len :=
  ⟨⟨h.mem.ne, h.mem.head, h.mem.row⟩, h.chain, h.row, h.few, h.t.drewN m⟩
theorem Lays.drew {w wc : World} {p q : Nat} {v : Value} {top : Int} {L : List Int} {bs : List Blk} {len : Nat} (h : Lays w wc p q v top L bs len) : Lays w wc.drew p q v top L bs len :=
  ⟨⟨h.mem.ne, h.mem.head, h.mem.row⟩, h.chain, h.row, h.few, h.t.drew⟩
theorem Lays.keep {w wc w' : World} {p q : Nat} {v : Value} {top : Int} {L : List Int} {bs : List Blk} {len : Nat} (h : Lays w wc p q v top L bs len) (ht : Turned [] wc w') : Lays w w' p q v top L bs len :=
  ⟨h.mem.turned ht (by simp) (by simp), h.chain, ownsRow_keep h.row (fun i hi => ht.block i (h.row.lt i hi).2 (by simp)), h.few, h.t.trans ht⟩
theorem Lays.at {w wc : World} {p q : Nat} {v : Value} {top : Int} {L : List Int} {bs : List Blk} {len : Nat} (h : Lays w wc p q v top L bs len) : ∃ ao cap, v = .slice ao bs.length cap ∧ ∀ (i : Nat) (b : Blk), bs[i]? = some b → ∃ g, ao = some ⟨g, 0, none⟩ ∧ wc.cell? ⟨g, i, none⟩ = some (.int .i64 b.t) := by
  obtain ⟨-, ao, cap, hv, hc⟩ := ownsRow_any h.row
  refine ⟨ao, cap, hv, fun i b hb => ?_⟩
  obtain ⟨g, h1, -, -, h2, -⟩ := hc i (.int .i64 b.t) (by rw [List.getElem?_map, hb]; rfl)
  exact ⟨g, h1, h2⟩

theorem four_set {w : World} {b : Nat} {e : TypeId} {a0 a1 a2 a3 : Value} (h : w.heap[b]? = some (.cells #[a0, a1, a2, a3] e)) (x0 x1 x2 x3 : Value) :
    ((((w.setCell ⟨b, 0, none⟩ x0).setCell ⟨b, 1, none⟩ x1).setCell ⟨b, 2, none⟩ x2).setCell ⟨b, 3, none⟩ x3).heap[b]? = some (.cells #[x0, x1, x2, x3] e) := by
  have h0 := heap_setCell_at _ _ 0 _ _ _ h x0
  have h1 := heap_setCell_at _ _ 1 _ _ _ h0 x1
  have h2 := heap_setCell_at _ _ 2 _ _ _ h1 x2
  have h3 := heap_setCell_at _ _ 3 _ _ _ h2 x3
  simpa using h3
theorem Turned.four {S : List Nat} {a w : World} (h : Turned S a w) {b : Nat} (hb : a.heap.size ≤ b) (x0 x1 x2 x3 : Value) : Turned S a ((((w.setCell ⟨b, 0, none⟩ x0).setCell ⟨b, 1, none⟩ x1).setCell ⟨b, 2, none⟩ x2).setCell ⟨b, 3, none⟩ x3) :=
  (((h.setCell (.inr hb) _).setCell (.inr hb) _).setCell (.inr hb) _).setCell (.inr hb) _
theorem words_500 (l : List Int) (h : l.length = 500) : ((l.take (min (max (500 : Int) 0) l.length).toNat).drop (min (max 0 0) (l.length : Int)).toNat) = l := by
  rw [show (min (max (500 : Int) 0) l.length).toNat = l.length by omega, show (min (max 0 0) (l.length : Int)).toNat = 0 by omega]
  simp
theorem ownsInts_ird {w : World} {B : Nat} {v : Value} {n : Nat} {l : List Int} (h : w.ownsRow B 2 1 v n (l.map (Value.int .i64))) (hn : n ≤ 65536) (hi : AllIn l) : ∃ ao cap, v = .slice ao n cap ∧ IRd w ao l.length l := by
  obtain ⟨hl, ao, cap, hv, hc⟩ := ownsInts_any h
  refine ⟨ao, cap, hv, rfl, by omega, fun i x hx => ?_, hi⟩
  obtain ⟨g, h1, -, -, h2, -⟩ := hc i x hx
  exact ⟨g, 0, h1, by rw [Nat.zero_add]; exact h2⟩

theorem and1 (n : Int) : bits .and .i64 n 1 = n % 2 := and_low n 1 (by omega)
theorem and7 (n : Int) : bits .and .i64 n 7 = n % 8 := and_low n 3 (by omega)
theorem class_three (c : Int) : 1 ≤ wrap64 (wrap64 (1 + bits .and .i64 c 1) + bits .and .i64 (c / 2) 1) ∧ wrap64 (wrap64 (1 + bits .and .i64 c 1) + bits .and .i64 (c / 2) 1) ≤ 3 := by
  rw [and1, and1]
  unfold wrap64
  omega
/-- One thing more was laid. -/
theorem Lays.next {w wc w4 w5 : World} {p q : Nat} {v v' : Value} {top K n m : Int} {L : List Int} {bs : List Blk} {len : Nat} (h : Lays w wc p q v top L bs len) (hs : sizeOf threeCs K n = (m, 0)) (hK : 1 ≤ K ∧ K ≤ 3) (hn : 0 ≤ n ∧ n ≤ 7) (hm : top + m ≤ 500) (hp : w.heap.size ≤ p) (hq : w.heap.size ≤ q) (hl : bs.length < len)
    (hM : Mem w4 p q (putL L top (laid K n m.toNat)) 0) (hT : Turned [] w w4) (o : Obj) (hown : w5.ownsRow w.heap.size 3 1 v' (bs.length + 1) ((bs.map fun b => Value.int .i64 b.t) ++ [.int .i64 top])) (hg : (w4.alloc o).grownBy w5 v.ownBlock) (hv : w4.ownsRow w.heap.size 3 1 v bs.length (bs.map fun b => Value.int .i64 b.t)) :
    Lays w w5 p q v' (top + m) (putL L top (laid K n m.toNat)) (bs ++ [⟨top, K, n, m⟩]) len := by
  have hne : ∀ {i : Nat} {c : Array Value} {e : TypeId}, w4.heap[i]? = some (.cells c e (0, 0)) → e ≠ 3 → w5.heap[i]? = w4.heap[i]? := fun {i c e} hi he => by
    rw [hg.block i (by have := lt_of_heap hi; simp; omega) (fun hh => by
      obtain ⟨_, _, c2, hc2⟩ := ownsRow_lt hv i hh.symm
      rw [hi] at hc2
      injection hc2 with hc2
      injection hc2 with _ h5
      exact he h5)]
    exact Below.heap_alloc _ _ _ (lt_of_heap hi)
  refine ⟨⟨hM.ne, ?_, ?_⟩, h.chain.lay hs hK (by omega) hm, ?_, by simp; omega, ?_⟩
  · rw [hne hM.head (by decide)]; exact hM.head
  · rw [hne hM.row (by decide)]; exact hM.row
  · simpa using hown
  · exact (hT.alloc o).grown hg (fun i hi => .inr (hv.lt i hi).1)

set_option maxRecDepth 100000 in
set_option maxHeartbeats 2000000 in
theorem heap_any (ao : Option Addr) (len cap : Nat) (w : World) (h : ThRd w ao len) :
    Calls Try.prog 22 #[.slice ao len cap, .int .i64 500] w fun e w' => ∃ p q v L top bs, e = .returned (.tuple #[.pointer (some ⟨p, 0, none⟩), v]) ∧ w.heap.size ≤ p ∧ w.heap.size ≤ q ∧ Mem w' p q L 0 ∧ w'.ownsRow w.heap.size 3 1 v bs.length (bs.map fun b => Value.int .i64 b.t) ∧ Heaped L top bs ∧ Turned [] w w' := by
  have hN := new_any 500
  rw [show (min (max 500 0) 65536 : Int).toNat = 500 from rfl] at hN
  have HN := hide hN
  have HTh := hide h
  have hroom := h.room
  have HC0 := hide chain_nil
  generalize List.replicate 500 (0 : Int) = L0 at *
  obtain ⟨i0, hi, hz0, hz1, hz2⟩ := info_parts Try.infoInt
  clear hN h
  go_enter Try.func22, Try.ntmps22
  go_wp2_with fail
  refine (HN.out w).mono ?_
  rintro e w1 ⟨rfl, hm1, ht1, -⟩
  have HL0 : Hid (Lays w w1 (w.heap.size + 1) w.heap.size (.slice none 0 0) 1 L0 [] len) := ⟨hm1, HC0.out, World.ownsRow_nil _ _ _ _, Nat.zero_le _, ht1⟩
  have hp : w.heap.size ≤ w.heap.size + 1 := by omega
  have hq : w.heap.size ≤ w.heap.size := by omega
  clear hm1 ht1 HN
  generalize w.heap.size + 1 = p at *
  generalize hqq : w.heap.size = q at HL0
  have hq : w.heap.size ≤ q := by omega
  clear hqq
  go_upto_block 0 with fail
  go_cut [7, 8, 9, 10, 11, 12, 13] (fun v t _ _ _ _ _ wc => ∃ (top : Int) (L : List Int) (bs : List Blk), t = .int .i64 top ∧ Aside (Lays w wc p q v top L bs len))
  case first =>
    go_wp2_with fail
    go_loopg [7, 8, 9] 60 (fun g v t i wr => ∃ (j : Nat) (top : Int) (L : List Int) (bs : List Blk), j ≤ len ∧ j ≤ 60 ∧ g = 60 - j ∧ i = .int .i64 j ∧ t = .int .i64 top ∧ Aside (Lays w wr p q v top L bs len) ∧ Aside (bs.length = j))
    case atStart => exact ⟨0, 1, L0, [], Nat.zero_le _, Nat.zero_le _, rfl, rfl, rfl, HL0.out, rfl⟩
    case round =>
      clear HL0 HC0
      obtain ⟨j, top, L, bs, hj, hj2, hg, rfl, rfl, HL, HB⟩ := hrel
      by_cases hlt : j < len
      · by_cases hlt2 : j < 60
        · obtain ⟨tb, toff, tc, tl, aR, lR, cR, zs, rfl, t0, t1, -, -, hc64, hn64⟩ := (HTh.out.turned HL.out.t).cell j hlt
          have hlti : (j : Int) < (len : Int) := by omega
          go_wp2_with fail
          go_quiet (fail)
          go_upto_if 47 with fail
          have hK := class_three tc
          generalize wrap64 (wrap64 (1 + bits .and .i64 tc 1) + bits .and .i64 (tc / 2) 1) = K at *
          have t1n : (wr.drewN nq).cell? ⟨tb, toff + j * 3 + 1, none⟩ = some (.int .i64 tl) := t1
          have HLn : Hid (Lays w (wr.drewN nq) p q u7 top L bs len) := ⟨⟨HL.out.mem.ne, HL.out.mem.head, HL.out.mem.row⟩, HL.out.chain, HL.out.row, HL.out.few, HL.out.t.drewN nq⟩
          clear t0 t1 HL
          generalize wr.drewN nq = wq at *
          go_cut [11] (fun nv wc => ∃ N : Int, nv = .int .i64 N ∧ 0 ≤ N ∧ N ≤ 7 ∧ (K = 1 → N = 0) ∧ wc = wq)
          case first =>
            by_cases hK1 : 1 < K
            · go_wp2_with fail
              go_meet
              case rel => exact ⟨_, by rw [and7], by omega, by omega, fun e => by omega, rfl⟩
            · go_wp2_with fail
              go_meet
              case rel => exact ⟨0, rfl, by omega, by omega, fun _ => rfl, rfl⟩
          case rest =>
            obtain ⟨N, rfl, hN0, hN7, hN1, rfl⟩ := hcut
            obtain ⟨m, hs, hm1, hm8⟩ := size_three hK ⟨hN0, hN7⟩ hN1
            go_wp2_with fail
            refine (three_any _).mono ?_
            rintro e w3 ⟨g3, rfl, hc3, ht3, -⟩
            have HC3 := hide hc3
            have HM3 := hide (HLn.out.mem.turned ht3 (by simp) (by simp))
            have HT3 := hide (HLn.out.t.trans ht3)
            have HR3 := hide (ownsRow_keep HLn.out.row (fun i hi => ht3.block i (HLn.out.row.lt i hi).2 (by simp)))
            clear hc3 ht3
            have HLy := hide (blay_mem p q L 0 _ 3 3 threeCs top K N w3 (by rw [HLn.out.chain.len]; omega) (in64_small (by omega)) HM3.out HC3.out)
            have htop := HLn.out.chain.top1
            have hlow := HLn.out.chain.low
            by_cases hfit : top + m ≤ 500
            · have hly := lay_yes hs (L := L) (t := top) (by rw [HLn.out.chain.len]; omega)
              rw [hly.1, hly.2.1, hly.2.2] at HLy
              have HS := hide hs
              have HJ := hide (show bs.length < len by rw [HB.out]; exact hlt)
              have hbl : bs.length = j := HB.out
              have hbl2 : bs.length ≤ 60 := by omega
              clear hly hs HC3 hbl t1n
              go_wp2_with fail
              refine HLy.out.mono ?_
              rintro e w4 ⟨rfl, hm4, ht4⟩
              have HM4 := hide hm4
              have HT4 := hide (HT3.out.trans_new ht4 (by simp; omega))
              have HR4 := hide (row_mem HR3.out HM3.out ht4)
              have hsz4 := HT4.out.size
              clear hm4 ht4 HLy HM3 HT3 HR3
              go_wp2_with (at_builtin; (refine wpList_append_own _ rfl _ _ 50 rfl w.heap.size 3 i0 _ 1 8 Try.underlying50 hi hz0 hz1 hz2 rfl (by decide) _ _ _ rfl (HR4.out.alloc _) ⟨w4.heap.size, 0, none⟩ 1 1 [.int .i64 top] rfl rfl (cells_new _ _ _ _ rfl) (ints_oneCell .i64 [top]) (by unfold maxLen; omega) (by omega) (by simp; omega) ?_); intro v' w5 hown' hgrow5 hnil5; have HO5 := hide hown'; have HG5 : Hid (World.grownBy _ w5 u7.ownBlock) := hide hgrow5; clear hown' hgrow5 hnil5)
              go_roundg (60 - (j + 1))
              case measure => omega
              case rel => exact ⟨j + 1, top + m, _, _, by omega, by omega, rfl, by go_num, by go_num, HLn.out.next HS.out hK ⟨hN0, hN7⟩ hfit hp hq HJ.out HM4.out HT4.out _ HO5.out HG5.out HR4.out, by show _ = _; rw [List.length_append, HB.out]; rfl⟩
            · have hly := lay_no hs (L := L) (t := top) (by rw [HLn.out.chain.len]; omega)
              rw [hly.1, hly.2.1, hly.2.2] at HLy
              clear hly hs HC3 t1n
              go_wp2_with fail
              refine HLy.out.mono ?_
              rintro e w4 ⟨rfl, hm4, ht4⟩
              have HM4 := hide hm4
              have HT4 := hide (HT3.out.trans_new ht4 (by simp; omega))
              have HR4 := hide (row_mem HR3.out HM3.out ht4)
              clear hm4 ht4 HLy HM3 HT3 HR3
              go_wp2_with fail
              go_meet
              case rel => exact ⟨top, L, bs, rfl, HM4.out, HLn.out.chain, HR4.out, HLn.out.few, HT4.out⟩
        · go_wp2_with fail
          go_meet
          case rel => exact ⟨top, L, bs, rfl, HL⟩
      · go_wp2_with fail
        go_meet
        case rel => exact ⟨top, L, bs, rfl, HL⟩
  case rest =>
    clear HL0 HC0
    obtain ⟨top, L, bs, rfl, HL⟩ := hcut
    obtain ⟨aa, ca, rfl, -⟩ := HL.out.at
    have hbl := HL.out.few
    go_wp2_with fail
    go_loopw [14] (fun i wr => ∃ (j : Nat) (L : List Int), j ≤ bs.length ∧ i = .int .i64 j ∧ Hid (Lays w wr p q (.slice aa bs.length ca) top L bs len)) (fun i _ => bs.length - (intOf i).toNat)
    case atStart => exact ⟨0, L, Nat.zero_le _, rfl, HL.out⟩
    case round =>
      clear HL
      obtain ⟨j, L, hj, rfl, HL⟩ := hrel
      by_cases hlt : j < bs.length
      · obtain ⟨b, hb⟩ : ∃ b, bs[j]? = some b := ⟨_, List.getElem?_eq_getElem hlt⟩
        obtain ⟨aa', ca', hv', hat⟩ := HL.out.at
        injection hv' with e1 e2 e3
        subst e1 e3
        obtain ⟨ga, rfl, ca0⟩ := hat j b hb
        have HAt := hide hat
        have hbm := List.mem_of_getElem? hb
        have HRd := hide (HL.out.chain.read b hbm).1
        have hbf := readOf_some (HL.out.chain.read b hbm).1
        have hb0 : 0 ≤ b.t ∧ b.t ≤ 500 ∧ 1 ≤ b.s ∧ b.t + b.s ≤ 500 := by have := HL.out.chain.len; omega
        have hbk := (HL.out.chain.read b hbm).2
        obtain ⟨bt, bk, bn, bz⟩ := b
        simp only at *
        obtain ⟨tn, rfl⟩ := Int.eq_ofNat_of_zero_le hb0.1
        have hlti : (j : Int) < (bs.length : Int) := by omega
        have hj0 : (0 : Int) ≤ (j : Int) := by omega
        have HBm := hide hbm
        have HBn : Hid (In64 bn) := by
          obtain ⟨x, _, _, _, hx⟩ := hbf.2.2.2.2.2.2.2
          show In64 bn
          rw [hx]
          exact part_in64 x
        have HNk : Hid (((refWords L threeCs ⟨tn, bk, bn, bz⟩).length : Int) < bz) := by
          have h1 := refWords_length L threeCs ⟨tn, bk, bn, bz⟩
          have h2 := refs_within hbf.2.2.2.2.2.1
          have h3 := hbf.2.2.2.2.2.2.1
          simp only at h1
          show _ < _
          omega
        clear hat hbf hbm hb
        have hgl : ga < wr.heap.size := block_lt ca0
        have hne0 : ¬ (ga = wr.heap.size) := by omega
        have hne1 : ¬ (wr.heap.size = ga) := by omega
        have HAw : Hid (∀ W, Turned [] wr W → Lays w W p q (.slice (some ⟨ga, 0, none⟩) bs.length ca) top L bs len ∧ W.cell? ⟨ga, j, none⟩ = some (.int .i64 tn)) := fun W ht => ⟨HL.out.keep ht, by rw [ht.cell hgl (by simp)]; exact ca0⟩
        go_upto_region 18 with fail
        go_cut [15, 16] (fun pb eb wc => ∃ bb : Nat, pb = .pointer (some ⟨bb, 0, none⟩) ∧ Aside (Turned [] wr wc ∧ wr.heap.size ≤ bb ∧ wc.heap[bb]? = some (.cells #[.int .i64 tn, .int .i64 bk, .int .i64 bn, .int .i64 bz] 38)))
        case first =>
          have HZ := hide (fun W => heap_alloc_new W (.cells #[.int .i64 0, .int .i64 0, .int .i64 0, .int .i64 0] 38))
          go_region_held3 (fun w' => w'.cell? ⟨ga, j, none⟩ = some (.int .i64 tn)) (go_keep)
            (first
              | (go_at_call 23; refine (three_any wr.drew).mono ?_; rintro e w3 ⟨g3, rfl, hc3, ht3, -⟩; have HC3 := hide hc3; have HT3 := hide ((Turned.refl [] wr).drew.trans ht3); have ca3 := (HAw.out _ HT3.out).2; have hsz3 := HT3.out.size; have hne3 : ¬ (ga = w3.heap.size) := (by omega); have hne4 : ¬ (w3.heap.size = ga) := (by omega); clear hc3 ht3)
              | (go_at_call 23; refine (three_any (wr.drew.alloc (.cells #[.int .i64 0, .int .i64 0, .int .i64 0, .int .i64 0] 38))).mono ?_; rintro e w5 ⟨g5, rfl, hc5, ht5, -⟩; have HC5 := hide hc5; have HT5 := hide (((Turned.refl [] wr).drew.alloc (.cells #[.int .i64 0, .int .i64 0, .int .i64 0, .int .i64 0] 38)).trans ht5); have ca5 := (HAw.out _ HT5.out).2; have HB5 : Hid (w5.heap[wr.heap.size]? = some (.cells #[.int .i64 0, .int .i64 0, .int .i64 0, .int .i64 0] 38)) := (by show _ = _; rw [ht5.block wr.heap.size (by simp) (by simp)]; exact HZ.out wr.drew); clear hc5 ht5)
              | (go_at_call 13; refine (read_some _ L _ 3 3 threeCs tn ⟨tn, bk, bn, bz⟩ w3 (by rw [HL.out.chain.len]; omega) (HAw.out _ HT3.out).1.mem.any HC3.out HRd.out).mono ?_; rintro e w4 ⟨rfl, ht4⟩; have HT4 := hide (HT3.out.trans ht4); have ca4 := (HAw.out _ HT4.out).2; have hsz4 := HT4.out.size; clear ht4)
              | (go_at_call 13; refine (read_some _ L _ 3 3 threeCs tn ⟨tn, bk, bn, bz⟩ (w3.alloc (.cells #[.int .i64 0, .int .i64 0, .int .i64 0, .int .i64 0] 38)) (by rw [HL.out.chain.len]; omega) (HAw.out _ (HT3.out.alloc _)).1.mem.any (HC3.out.turned ((Turned.refl [] w3).alloc _)) HRd.out).mono ?_; rintro e w6 ⟨rfl, ht6⟩; have HT6 := hide ((HT3.out.alloc (.cells #[.int .i64 0, .int .i64 0, .int .i64 0, .int .i64 0] 38)).trans ht6); have ca6 := (HAw.out _ HT6.out).2; have hb6 : w6.heap[w3.heap.size]? = some (.cells #[.int .i64 0, .int .i64 0, .int .i64 0, .int .i64 0] 38) := (by rw [ht6.block w3.heap.size (by simp) (by simp)]; exact HZ.out w3); have c60 := cell_of_heap hb6 0; have c61 := cell_of_heap hb6 1; have c62 := cell_of_heap hb6 2; have c63 := cell_of_heap hb6 3; have f60 : w6.frozen? ⟨w3.heap.size, 0, none⟩ = false := (by simp [World.frozen?, hb6]); have f61 : w6.frozen? ⟨w3.heap.size, 1, none⟩ = false := (by simp [World.frozen?, hb6]); have f62 : w6.frozen? ⟨w3.heap.size, 2, none⟩ = false := (by simp [World.frozen?, hb6]); have f63 : w6.frozen? ⟨w3.heap.size, 3, none⟩ = false := (by simp [World.frozen?, hb6]); have HB6 := hide hb6; clear ht6 hb6)
              | (go_at_call 13; refine (read_some _ L _ 3 3 threeCs tn ⟨tn, bk, bn, bz⟩ w5 (by rw [HL.out.chain.len]; omega) (HAw.out _ HT5.out).1.mem.any HC5.out HRd.out).mono ?_; rintro e w7 ⟨rfl, ht7⟩; have HT7 := hide (HT5.out.trans ht7); have ca7 := (HAw.out _ HT7.out).2; have hb7 : w7.heap[wr.heap.size]? = some (.cells #[.int .i64 0, .int .i64 0, .int .i64 0, .int .i64 0] 38) := (by rw [ht7.block wr.heap.size (lt_of_heap HB5.out) (by simp)]; exact HB5.out); have c70 := cell_of_heap hb7 0; have c71 := cell_of_heap hb7 1; have c72 := cell_of_heap hb7 2; have c73 := cell_of_heap hb7 3; have f70 : w7.frozen? ⟨wr.heap.size, 0, none⟩ = false := (by simp [World.frozen?, hb7]); have f71 : w7.frozen? ⟨wr.heap.size, 1, none⟩ = false := (by simp [World.frozen?, hb7]); have f72 : w7.frozen? ⟨wr.heap.size, 2, none⟩ = false := (by simp [World.frozen?, hb7]); have f73 : w7.frozen? ⟨wr.heap.size, 3, none⟩ = false := (by simp [World.frozen?, hb7]); have HB7 := hide hb7; clear ht7 hb7))
          · go_wp2_with fail
            go_meet
            case rel => exact ⟨w4.heap.size, rfl, HT4.out.alloc _, HT4.out.size, heap_alloc_new _ _⟩
          · go_wp2_with fail
            go_meet
            case rel => exact ⟨w3.heap.size, rfl, HT6.out.four hsz3 _ _ _ _, hsz3, four_set HB6.out _ _ _ _⟩
          · go_wp2_with fail
            go_meet
            case rel => exact ⟨wr.heap.size, rfl, HT7.out.four (Nat.le_refl _) _ _ _ _, Nat.le_refl _, four_set HB7.out _ _ _ _⟩
        case rest =>
          obtain ⟨bb, rfl, HA1⟩ := hcut
          obtain ⟨wb, hwb⟩ : ∃ wb, wb = wc := ⟨_, rfl⟩
          subst hwb
          have hb1 := HA1.out.2.2
          have x0 := cell_of_heap hb1 0
          have x1 := cell_of_heap hb1 1
          have x2 := cell_of_heap hb1 2
          have x3 := cell_of_heap hb1 3
          have HLc := hide (HAw.out _ HA1.out.1).1
          have hbbl := lt_of_heap hb1
          clear HAw ca0 hb1
          go_upto_region 19 with fail
          go_cut [17] (fun vk wd => ∃ (ak : Option Addr) (nk ck : Nat), vk = .slice ak nk ck ∧ (nk : Int) < bz ∧ Aside (Turned [] wb wd))
          case first =>
            go_region_held3 (fun w' => w'.cell? ⟨bb, 0, none⟩ = some (.int .i64 tn) ∧ w'.cell? ⟨bb, 1, none⟩ = some (.int .i64 bk) ∧ w'.cell? ⟨bb, 2, none⟩ = some (.int .i64 bn) ∧ w'.cell? ⟨bb, 3, none⟩ = some (.int .i64 bz)) (go_keep)
              (first
                | (go_at_call 12; refine (words_mem p q L 0 0 500 wb.drew (by rw [HLc.out.chain.len]; omega) HLc.out.drew.mem).mono ?_; rw [words_500 L HLc.out.chain.len]; rintro e w5 ⟨vw, rfl, hown5, ht5⟩; obtain ⟨aw, cw, rfl, hw5⟩ := ownsInts_ird hown5 (by rw [HLc.out.chain.len]; omega) HLc.out.chain.inn; have HW5 := hide hw5; have HT5 := hide ((Turned.refl [] wb).drew.trans ht5); have y0 : w5.cell? ⟨bb, 0, none⟩ = some (.int .i64 tn) := (by rw [ht5.cell hbbl (by simp)]; exact x0); have y1 : w5.cell? ⟨bb, 1, none⟩ = some (.int .i64 bk) := (by rw [ht5.cell hbbl (by simp)]; exact x1); have y2 : w5.cell? ⟨bb, 2, none⟩ = some (.int .i64 bn) := (by rw [ht5.cell hbbl (by simp)]; exact x2); have y3 : w5.cell? ⟨bb, 3, none⟩ = some (.int .i64 bz) := (by rw [ht5.cell hbbl (by simp)]; exact x3); clear hown5 ht5 hw5)
                | (go_at_call 23; refine (three_any w5).mono ?_; rintro e w6 ⟨g6, rfl, hc6, ht6, -⟩; have HC6 := hide hc6; have HW6 := hide (HW5.out.turned ht6); have HT6 := hide (HT5.out.trans ht6); have z0 : w6.cell? ⟨bb, 0, none⟩ = some (.int .i64 tn) := (by rw [ht6.cell (block_lt y0) (by simp)]; exact y0); have z1 : w6.cell? ⟨bb, 1, none⟩ = some (.int .i64 bk) := (by rw [ht6.cell (block_lt y1) (by simp)]; exact y1); have z2 : w6.cell? ⟨bb, 2, none⟩ = some (.int .i64 bn) := (by rw [ht6.cell (block_lt y2) (by simp)]; exact y2); have z3 : w6.cell? ⟨bb, 3, none⟩ = some (.int .i64 bz) := (by rw [ht6.cell (block_lt y3) (by simp)]; exact y3); clear hc6 ht6)
                | (go_at_call 16; refine (rrefs4_any aw cw L _ 3 3 threeCs tn bk bn bz w6 (by rw [HLc.out.chain.len]; omega) (by rw [HLc.out.chain.len]; omega) HBn.out HW6.out HC6.out).mono ?_; rintro e w7 ⟨vk, rfl, hown7, ht7⟩; obtain ⟨-, ak, ck, rfl, -⟩ := ownsInts_any hown7; have HT7 := hide (HT6.out.trans ht7); have u0 : w7.cell? ⟨bb, 0, none⟩ = some (.int .i64 tn) := (by rw [ht7.cell (block_lt z0) (by simp)]; exact z0); have u1 : w7.cell? ⟨bb, 1, none⟩ = some (.int .i64 bk) := (by rw [ht7.cell (block_lt z1) (by simp)]; exact z1); have u2 : w7.cell? ⟨bb, 2, none⟩ = some (.int .i64 bn) := (by rw [ht7.cell (block_lt z2) (by simp)]; exact z2); have u3 : w7.cell? ⟨bb, 3, none⟩ = some (.int .i64 bz) := (by rw [ht7.cell (block_lt z3) (by simp)]; exact z3); clear hown7 ht7))
            go_wp2_with fail
            go_meet
            case rel => exact ⟨ak, _, ck, rfl, HNk.out, HT7.out⟩
          case rest =>
            obtain ⟨ak, nk, ck, rfl, hnk, HA2⟩ := hcut
            have HLd := hide (HLc.out.keep HA2.out)
            have HBd : Hid (wc.heap[bb]? = some (.cells #[.int .i64 tn, .int .i64 bk, .int .i64 bn, .int .i64 bz] 38)) := by show _ = _; rw [HA2.out.block _ hbbl (by simp)]; exact HA1.out.2.2
            have hbw : w.heap.size ≤ bb := Nat.le_trans HL.out.t.size HA1.out.2.1
            clear HLc HA1 HA2 x0 x1 x2 x3 hbbl HNk HRd HL hgl hne0 hne1
            go_wp2_with fail
            go_loopw [18] (fun i wr => ∃ (jj : Nat) (L : List Int), jj ≤ nk ∧ i = .int .i64 jj ∧ Hid (Lays w wr p q (.slice (some ⟨ga, 0, none⟩) bs.length ca) top L bs len) ∧ Hid (wr.heap[bb]? = some (.cells #[.int .i64 tn, .int .i64 bk, .int .i64 bn, .int .i64 bz] 38))) (fun i _ => nk - (intOf i).toNat)
            case atStart => exact ⟨0, L, Nat.zero_le _, rfl, HLd, HBd⟩
            case round =>
              clear HLd HBd
              rename_i wr0 _ _ _ _
              obtain ⟨jj, L2, hjj, rfl, HL2, HB2⟩ := hrel
              by_cases hlt2 : jj < nk
              · have hltn : (jj : Int) < (nk : Int) := by omega
                obtain ⟨tb, toff, tc, tl, aR, lR, cR, zs, rfl, -, -, t2w, hRw, -, -⟩ := HTh.out.cell j (by omega)
                have htbw : tb < w.heap.size := block_lt t2w
                have t2 : wr.cell? ⟨tb, toff + j * 3 + 2, none⟩ = some (.slice aR lR cR) := by rw [HL2.out.t.cell htbw (by simp)]; exact t2w
                have hR := hRw.turned HL2.out.t
                clear t2w
                have hlenj : (j : Int) < (len : Int) := by omega
                have hRs := hR.size
                by_cases hlt3 : jj < lR
                · have hlt3i : (jj : Int) < (lR : Int) := by omega
                  obtain ⟨z, hz⟩ : ∃ z, zs[jj]? = some z := ⟨_, List.getElem?_eq_getElem (by omega)⟩
                  obtain ⟨rb, roff, rfl, rcw⟩ := hRw.cell jj z hz
                  have hrbw : rb < w.heap.size := block_lt rcw
                  have rc : wr.cell? ⟨rb, roff + jj, none⟩ = some (.int .i64 z) := by rw [HL2.out.t.cell hrbw (by simp)]; exact rcw
                  clear rcw hRw
                  have hz64 := hR.inn z (List.mem_of_getElem? hz)
                  clear hR hRs hz
                  by_cases hzp : 0 < z
                  · obtain ⟨zn, rfl⟩ := Int.eq_ofNat_of_zero_le (show 0 ≤ z by omega)
                    have hmod := Nat.mod_lt zn (show 0 < bs.length by omega)
                    obtain ⟨c, hc⟩ : ∃ c, bs[zn % bs.length]? = some c := ⟨_, List.getElem?_eq_getElem hmod⟩
                    obtain ⟨aa2, ca2, hv2, hat2⟩ := HL2.out.at
                    injection hv2 with e1 e2 e3
                    subst e1 e3
                    obtain ⟨ga2, hga2, ca2⟩ := hat2 _ c hc
                    injection hga2 with hga2
                    injection hga2 with hga2
                    subst hga2
                    have x0 : wr.cell? ⟨bb, 0, none⟩ = some (.int .i64 tn) := cell_of_heap HB2.out 0
                    have HCm := hide (List.mem_of_getElem? hc)
                    have HRem : Hid ((zn : Int).tmod (bs.length : Int) = ((zn % bs.length : Nat) : Int)) := by
                      show _ = _
                      rw [Int.tmod_eq_emod_of_nonneg (by omega), Int.natCast_emod]
                    have HL3 := hide (HL2.out.chain.put HBm.out HCm.out (x := (tn : Int) + 1 + (jj : Int)) (by simp only; omega))
                    have hct : In64 c.t := by
                      have := (conn_le _ _ _ HL2.out.chain.to).2 c HCm.out
                      have := HL2.out.chain.low
                      unfold In64
                      omega
                    have HPt := hide (put_any p q L2 0 ((tn : Int) + 1 + (jj : Int)) _ 1 1 [c.t] (wr.alloc (.cells #[.int .i64 c.t] 2)).drew (by rw [HL2.out.chain.len]; omega) (HL2.out.mem.alloc _).drew (show IsRow .i64 (wr.alloc (.cells #[.int .i64 c.t] 2)).drew (some ⟨wr.heap.size, 0, none⟩) 1 1 [c.t] from isRow_one wr c.t hct))
                    rw [show ([c.t] : List Int).take 1 = [c.t] from rfl] at HPt
                    have HNe : Hid ((bb ≠ p ∧ bb ≠ q) ∧ (tb ≠ p ∧ tb ≠ q) ∧ (rb ≠ p ∧ rb ≠ q) ∧ (ga ≠ p ∧ ga ≠ q)) := by
                      have h1 := HL2.out.mem.head
                      have h2 := HL2.out.mem.row
                      have h3 := HB2.out
                      obtain ⟨_, _, cg, h4⟩ := ownsRow_lt HL2.out.row ga rfl
                      refine ⟨⟨fun e => ?_, fun e => ?_⟩, ⟨by omega, by omega⟩, ⟨by omega, by omega⟩, ⟨fun e => ?_, fun e => ?_⟩⟩
                      · subst e; rw [h3] at h1; simp at h1
                      · subst e; rw [h3] at h2; simp at h2
                      · subst e; rw [h4] at h1; simp at h1
                      · subst e; rw [h4] at h2; simp at h2
                    have HSt : Hid (∀ w9, Turned [p, q] (wr.alloc (.cells #[.int .i64 c.t] 2)).drew w9 → ∀ (b i : Nat) (u : Value), b ≠ p → b ≠ q → wr.cell? ⟨b, i, none⟩ = some u → w9.cell? ⟨b, i, none⟩ = some u) := fun w9 ht9 b i u h1 h2 hu => by
                      have ht : Turned [p, q] wr w9 := ((Turned.refl [p, q] wr).alloc _).drew.trans ht9
                      rw [ht.cell (block_lt hu) (by simp; exact ⟨h1, h2⟩)]
                      exact hu
                    generalize putL L2 ((tn : Int) + 1 + (jj : Int)) [c.t] = L3 at *
                    generalize zn % bs.length = r at *
                    have hr1n : r < bs.length := hmod
                    clear hc hat2 e2
                    generalize c.t = ct at *
                    have hbnd : (tn : Int) + 1 + (jj : Int) ≤ 1000 := by omega
                    have hs2 : IntKind.i64.wrap ((tn : Int) + 1 + (jj : Int)) = (tn : Int) + 1 + (jj : Int) := by
                      clear HPt HL3 HRem
                      rw [IntKind.wrap_i64]
                      omega
                    have hs1 : IntKind.i64.wrap ((tn : Int) + 1) = (tn : Int) + 1 := by rw [IntKind.wrap_i64]; omega
                    have hn5 : ¬ (bs = []) := fun e => by rw [e] at hr1n; simp at hr1n
                    have hn3 : ¬ (bs.length = 0) := by omega
                    have hr0 : (0 : Int) ≤ (r : Int) := by omega
                    have hr1 : (r : Int) < (bs.length : Int) := by omega
                    have hn0 : ((bs.length : Int) == 0) = false := by simp; omega
                    have hn1 : ¬ ((bs.length : Int) = 0) := by omega
                    go_wp2_with fail
                    have hrem := HRem.out
                    go_region_held3 (fun w' => w'.cell? ⟨bb, 0, none⟩ = some (.int .i64 tn) ∧ w'.cell? ⟨tb, toff + j * 3 + 2, none⟩ = some (.slice (some ⟨rb, roff, none⟩) lR cR) ∧ w'.cell? ⟨rb, roff + jj, none⟩ = some (.int .i64 zn) ∧ w'.cell? ⟨ga, r, none⟩ = some (.int .i64 ct)) (go_keep)
                      (first
                        | (go_at_call 27; refine HPt.out.mono ?_; rintro e w9 ⟨rfl, hm9, ht9⟩; have k0 := HSt.out w9 ht9 bb 0 _ HNe.out.1.1 HNe.out.1.2 x0; have k1 := HSt.out w9 ht9 tb (toff + j * 3 + 2) _ HNe.out.2.1.1 HNe.out.2.1.2 t2; have k2 := HSt.out w9 ht9 rb (roff + jj) _ HNe.out.2.2.1.1 HNe.out.2.2.1.2 rc; have k3 := HSt.out w9 ht9 ga r _ HNe.out.2.2.2.1 HNe.out.2.2.2.2 ca2; have HM9 := hide hm9; have HT9 := hide ht9; clear hm9 ht9))
                    have HT10 : Hid (Turned [p, q] wr w9) := ((Turned.refl [p, q] wr).alloc _).drew.trans HT9.out
                    have HL9 : Hid (Lays w w9 p q (.slice (some ⟨ga, 0, none⟩) bs.length ca) top L3 bs len) := ⟨HM9.out, HL3.out, row_mem HL2.out.row HL2.out.mem HT10.out, HL2.out.few, HL2.out.t.trans_new HT10.out (by simp; omega)⟩
                    have HB9 : Hid (w9.heap[bb]? = some (.cells #[.int .i64 tn, .int .i64 bk, .int .i64 bn, .int .i64 bz] 38)) := by
                      show _ = _
                      rw [HT10.out.block bb (lt_of_heap HB2.out) (by simp; exact HNe.out.1)]
                      exact HB2.out
                    clear hrem k0 k1 k2 k3 x0 t2 rc ca2 HSt HNe HPt
                    go_wp2_with fail
                    go_roundw
                    case rel => exact ⟨jj + 1, L3, by omega, by go_num, HL9, HB9⟩
                    case measure => simp [intOf]; omega
                  · go_wp2_with fail
                    go_roundw
                    case rel => exact ⟨jj + 1, L2, by omega, by go_num, HL2, HB2⟩
                    case measure => simp [intOf]; omega
                · have hlt3i : ¬ ((jj : Int) < (lR : Int)) := by omega
                  clear hR hRs hRw
                  go_wp2_with fail
                  go_roundw
                  case rel => exact ⟨jj + 1, L2, by omega, by go_num, HL2, HB2⟩
                  case measure => simp [intOf]; omega
              · go_wp2_with fail
                go_roundw
                case rel => exact ⟨j + 1, L2, by omega, by go_num, HL2⟩
                case measure => simp [intOf]; omega
      · have hjb : j = bs.length := by omega
        subst hjb
        have HFi := hide (bfill_mem p q L 0 top 500 wr (by rw [HL.out.chain.len]; omega) HL.out.mem)
        go_wp2_with fail
        refine HFi.out.mono ?_
        rintro e w2 ⟨rfl, hm2, ht2⟩
        have HH := hide (HL.out.chain.fill)
        have HR2 := hide (row_mem HL.out.row HL.out.mem ht2)
        have HM2 := hide hm2
        have HT2 := hide (HL.out.t.trans_new ht2 (by simp; omega))
        clear hm2 ht2 HFi
        go_wp2_with fail
        go_ret2
        exact ⟨p, q, _, _, top, bs, rfl, hp, hq, HM2.out, HR2.out, HH.out, HT2.out⟩
end Go.Proofs.Ytkidcbehjhlnkaa

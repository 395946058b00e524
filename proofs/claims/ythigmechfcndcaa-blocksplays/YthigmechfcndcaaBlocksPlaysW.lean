/-
  The law of BlocksPlays, walked.
-/
import Derived.Test.YthigmechfcndcaaBlocksPlaysS
import Derived.Test.YthigmechfcndcaaBlocksAwake
import Derived.Deep.RegionWith
import Derived.Deep.RegionHeld3
import Derived.Deep.Cut
import Derived.Deep.CutBlock
import Derived.Deep.CutRange
import Derived.Deep.DeepCutAuto
import Derived.Deep.LoopGhost
namespace Go.Proofs.Ythigmechfcndcaa
open Go.RowKit
set_option linter.unusedVariables false

/-- The script that came in: at each place a call. -/
def IsPlays (w : World) (a : Option Addr) (len : Nat) : Prop :=
  len ≤ 9223372036854775807 ∧ ∀ i, i < len → ∃ b off k t c n x, a = some ⟨b, off, none⟩ ∧ w.cell? ⟨b, off + i * 5, none⟩ = some (.int .i64 k) ∧ w.cell? ⟨b, off + i * 5 + 1, none⟩ = some (.int .i64 t) ∧ w.cell? ⟨b, off + i * 5 + 2, none⟩ = some (.int .i64 c) ∧ w.cell? ⟨b, off + i * 5 + 3, none⟩ = some (.int .i64 n) ∧ w.cell? ⟨b, off + i * 5 + 4, none⟩ = some (.int .i64 x) ∧ In64 t ∧ In64 n ∧ In64 x

/-- What stands through the law. -/
structure PSt (w wr : World) (s p q d qb : Nat) (l : List Int) (ao : Option Addr) (len cap : Nat) (cs : List Cls) (f g : Int) (ro : Option Addr) (rn rcap : Nat) : Prop where
  both : Both wr s p q d l ao len cap cs
  ask : wr.heap[qb]? = some (.cells #[.int .i64 f, .int .i64 g, .slice ro rn rcap] 26)
  len : l.length = 300
  inn : AllIn l
  t : Turned [] w wr
  lo : w.heap.size ≤ p ∧ w.heap.size ≤ q ∧ w.heap.size ≤ d

section
variable {w wr wr' : World} {s p q d qb : Nat} {l l' : List Int} {ao : Option Addr} {len cap : Nat} {cs : List Cls} {f g : Int} {ro : Option Addr} {rn rcap : Nat}
theorem Both.turned0 (h : Both wr s p q d l ao len cap cs) (t : Turned [] wr wr') : Both wr' s p q d l ao len cap cs :=
  ⟨h.mem.turned t (by simp) (by simp), h.doc.turned t (by simp), by rw [t.block s (lt_of_heap h.box) (by simp)]; exact h.box, h.dp, h.dq, h.sp, h.sq, h.sd, h.cls.turned t, h.few, h.own⟩
theorem PSt.turned (h : PSt w wr s p q d qb l ao len cap cs f g ro rn rcap) (t : Turned [] wr wr') : PSt w wr' s p q d qb l ao len cap cs f g ro rn rcap :=
  ⟨h.both.turned0 t, by rw [t.block qb (lt_of_heap h.ask) (by simp)]; exact h.ask, h.len, h.inn, h.t.trans t, h.lo⟩
theorem PSt.does (h : PSt w wr s p q d qb l ao len cap cs f g ro rn rcap) (hb : Both wr' s p q d l' ao len cap cs) (hl : l'.length = l.length) (hi : AllIn l') (t : Turned [p, q, d] wr wr') : PSt w wr' s p q d qb l' ao len cap cs f g ro rn rcap := by
  have hne : qb ∉ [p, q, d] := by
    simp
    exact ⟨ne_of_type h.ask h.both.mem.head (by decide), ne_of_type h.ask h.both.mem.row (by decide), ne_of_type h.ask h.both.doc.row (by decide)⟩
  exact ⟨hb, by rw [t.block qb (lt_of_heap h.ask) hne]; exact h.ask, by rw [hl]; exact h.len, hi, h.t.trans_new t (fun k hk => by have := h.lo; simp at hk; right; rcases hk with rfl | rfl | rfl <;> omega), h.lo⟩
theorem PSt.any (h : PSt w wr s p q d qb l ao len cap cs f g ro rn rcap) : AnyMem wr (.pointer (some ⟨p, 0, none⟩)) l := .inr ⟨p, q, 0, rfl, h.both.mem⟩
theorem PSt.b0 (h : PSt w wr s p q d qb l ao len cap cs f g ro rn rcap) : wr.cell? ⟨s, 0, none⟩ = some (.pointer (some ⟨p, 0, none⟩)) := by rw [cell_of_heap h.both.box]; rfl
theorem PSt.b1 (h : PSt w wr s p q d qb l ao len cap cs f g ro rn rcap) : wr.cell? ⟨s, 1, none⟩ = some (.slice (some ⟨d, 0, none⟩) 300 300) := by rw [cell_of_heap h.both.box, h.len]; rfl
theorem PSt.q0 (h : PSt w wr s p q d qb l ao len cap cs f g ro rn rcap) : wr.cell? ⟨qb, 0, none⟩ = some (.int .i64 f) := by rw [cell_of_heap h.ask]; rfl
theorem PSt.q1 (h : PSt w wr s p q d qb l ao len cap cs f g ro rn rcap) : wr.cell? ⟨qb, 1, none⟩ = some (.int .i64 g) := by rw [cell_of_heap h.ask]; rfl
theorem PSt.q2 (h : PSt w wr s p q d qb l ao len cap cs f g ro rn rcap) : wr.cell? ⟨qb, 2, none⟩ = some (.slice ro rn rcap) := by rw [cell_of_heap h.ask]; rfl
end

theorem tdN (w : World) (n : Nat) : Turned [] w (w.drewN n) := ⟨rfl, rfl, rfl, Nat.le_refl _, fun _ _ _ => rfl⟩
theorem walkB_few (l : List Int) (cs : List Cls) (f g : Int) (hl : l.length ≤ 65536) : (walkB l cs f g).length ≤ 65536 := by
  unfold walkB
  split
  · rename_i hw
    cases hs : walkOf l cs g f with
    | none => simp
    | some bs =>
      have := (walkOf_facts hw.2.1 hs).few
      simp
      omega
  · simp

/-- As it begins. -/
theorem pst_new {w wa : World} {p q d qb : Nat} {ao : Option Addr} {len cap : Nat} {cs : List Cls} {f g : Int} {ro : Option Addr} {rn rcap : Nat} {l0 : List Int} (hl0 : l0.length = 300) (hin : AllIn l0) (hm : Mem wa p q l0 0) (hd : Doc wa d l0) (hne : d ≠ q) (ha : wa.heap[qb]? = some (.cells #[.int .i64 f, .int .i64 g, .slice ro rn rcap] 26)) (t : Turned [] w wa) (lo : w.heap.size ≤ p ∧ w.heap.size ≤ q ∧ w.heap.size ≤ d) (hc : CRd w ao len cs) :
    PSt w (wa.alloc (.cells #[.pointer (some ⟨p, 0, none⟩), .slice (some ⟨d, 0, none⟩) 300 300, .slice ao len cap] 32)) wa.heap.size p q d qb l0 ao len cap cs f g ro rn rcap := by
  have ta : Turned [] wa (wa.alloc (.cells #[.pointer (some ⟨p, 0, none⟩), .slice (some ⟨d, 0, none⟩) 300 300, .slice ao len cap] 32)) := (Turned.refl _ _).alloc _
  have h1 := hm.ltp
  have h2 := hm.ltq
  have h3 := lt_of_heap hd.row
  refine ⟨⟨hm.turned ta (by simp) (by simp), hd.turned ta (by simp), by rw [heap_alloc_new, hl0], ne_of_type hd.row hm.head (by decide), hne, by omega, by omega, by omega, (hc.turned t).turned ta, by omega, fun a ⟨e, hcs⟩ => ?_⟩, by rw [ta.block qb (lt_of_heap ha) (by simp)]; exact ha, hl0, hin, t.trans ta, lo⟩
  obtain ⟨c, hc0⟩ : ∃ c, cs[0]? = some c := ⟨_, List.getElem?_eq_getElem (List.length_pos_iff.2 hcs)⟩
  obtain ⟨b, off, h0, h4, _⟩ := hc.cell 0 c hc0
  rw [e] at h0
  cases h0
  have h5 : b < w.heap.size := block_lt h4
  show b ≠ p ∧ b ≠ q ∧ b ≠ d
  omega

set_option maxHeartbeats 8000000 in
set_option maxRecDepth 100000 in
theorem plays_walk (ao : Option Addr) (len cap : Nat) (cs : List Cls) (a1 : Option Addr) (len1 cap1 : Nat) (f g : Int) (ro : Option Addr) (rn rcap : Nat) (rs : List Int) (w : World) (hcs : CRd w ao len cs) (hops : IsPlays w a1 len1) (hr : IRd w ro rn rs) (hro : ro = none → rn = 0 ∧ rcap = 0) (hby : rs.length * 8 ≤ 140737488351232) :
    Calls Try.prog 3 #[.slice ao len cap, .slice a1 len1 cap1, .agg #[.int .i64 f, .int .i64 g, .slice ro rn rcap]] w fun e w' => e = .returned (.bool true) ∧ Turned [] w w' := by
  have HC := hide hcs
  have HO := hide hops
  have HR := hide hr
  have HBy := hide hby
  have HRo := hide hro
  have hl1 := hops.1
  clear hcs hops hr hby hro
  go_enter Try.func3, Try.ntmps3
  go_wp2_with fail
  generalize hwq : w.alloc (.cells #[.int .i64 f, .int .i64 g, .slice ro rn rcap] 26) = wq
  have tq : Turned [] w wq := by rw [← hwq]; exact (Turned.refl _ _).alloc _
  have HAsk : Hid (wq.heap[w.heap.size]? = some (.cells #[.int .i64 f, .int .i64 g, .slice ro rn rcap] 26)) := by rw [← hwq]; exact heap_alloc_new _ _
  have TQ := hide tq
  clear tq hwq
  obtain ⟨qb, hqb⟩ : ∃ qb, qb = w.heap.size := ⟨_, rfl⟩
  rw [← hqb] at HAsk
  rw [← hqb]
  have HQb := hide hqb
  clear hqb
  refine (awake_true _).mono ?_
  rintro e w1 ⟨rfl, ht1⟩
  have T1 := hide (TQ.out.trans ht1)
  have HAsk1 := hide (show w1.heap[qb]? = some (.cells #[.int .i64 f, .int .i64 g, .slice ro rn rcap] 26) by rw [ht1.block qb (lt_of_heap HAsk.out) (by simp)]; exact HAsk.out)
  clear ht1 TQ HAsk
  obtain ⟨mc, hmc⟩ : ∃ mc, mc = madeCells #[Value.int .i64 0] 300 := ⟨_, rfl⟩
  have hmk : ∀ w' : World, (Instr.makeSlice 24 (.int .i64 300) (.int .i64 300)).run Try.prog w' = .ok (.slice (some ⟨w'.heap.size, 0, none⟩) 300 300) (w'.alloc (.cells mc 2)) := fun w' => by
    rw [hmc]
    exact run_make_row' (P := Try.prog) 24 2 (.int .i64 0) 8 Try.underlying24 Try.info2 rfl .i64 .i64 300 (by omega) (by omega) w'
  obtain ⟨z, hz⟩ : ∃ z : List Int, z = List.replicate 300 0 := ⟨_, rfl⟩
  have HMc := hide (show mc = (z.map (Value.int .i64)).toArray by rw [hmc, madeCells_zeros, hz])
  have HZl := hide (show z.length = 300 by rw [hz, List.length_replicate])
  have HZi := hide (show AllIn z from fun x hx => by rw [hz] at hx; have := List.eq_of_mem_replicate hx; subst this; unfold In64; omega)
  have HZm := hide (show List.replicate (min (max (300 : Int) 0) 65536).toNat (0 : Int) = z by rw [hz]; rfl)
  clear hmc hz
  have HNew := hide (fun w' => new_any 300 w')
  go_upto_region 2 with fail
  go_cut [8] (fun s8 wc => ∃ s p q d, s8 = .pointer (some ⟨s, 0, none⟩) ∧ Aside (PSt w wc s p q d qb z ao len cap cs f g ro rn rcap))
  case first =>
    go_region_with ((go_at_call 5; refine (HNew.out _).mono ?_; rintro e w2 ⟨rfl, hm2, ht2, hs2⟩; have HM2 := hide hm2; have HT2 := hide ht2; have HS2 := hide hs2; clear hm2 ht2 hs2))
    · have hm2 := HM2.out
      rw [HZm.out] at hm2
      have ta : Turned [] w2 (w2.alloc (.cells mc 2)) := (Turned.refl _ _).alloc _
      have tw : Turned [] w w2 := T1.out.drew.trans HT2.out
      have hsz := T1.out.size
      have hsz2 := HS2.out
      have hd1 : w1.drew.heap.size = w1.heap.size := rfl
      have HP := hide (pst_new (w := w) (wa := w2.alloc (.cells mc 2)) (p := w1.drew.heap.size + 1) (q := w1.drew.heap.size) (d := w2.heap.size) (qb := qb) (cap := cap) (cs := cs) (f := f) (g := g) (ro := ro) (rn := rn) (rcap := rcap) HZl.out HZi.out (hm2.turned ta (by simp) (by simp)) ⟨by rw [heap_alloc_new, HMc.out]⟩ (by omega) (by rw [ta.block qb (Nat.lt_of_lt_of_le (lt_of_heap HAsk1.out) HT2.out.size) (by simp), HT2.out.block qb (lt_of_heap HAsk1.out) (by simp)]; exact HAsk1.out) (tw.trans ta) (by omega) HC.out)
      rw [show (w2.alloc (.cells mc 2)).heap.size = w2.heap.size + 1 by simp] at HP
      clear hm2 ta tw hsz hsz2 hd1
      go_wp2_with fail
      go_meet
      case rel => exact ⟨_, _, _, _, rfl, HP.out⟩
    · have hm2 := HM2.out
      rw [HZm.out] at hm2
      have ta : Turned [] w1 (w1.alloc (.cells mc 2)) := (Turned.refl _ _).alloc _
      have t2 : Turned [] (w1.alloc (.cells mc 2)) w2 := ((Turned.refl [] _).drew).trans HT2.out
      have tw : Turned [] w w2 := (T1.out.trans ta).trans t2
      have hsz := T1.out.size
      have hd1 : (w1.alloc (.cells mc 2)).drew.heap.size = w1.heap.size + 1 := by show (w1.alloc (.cells mc 2)).heap.size = _; simp
      have hd : Doc w2 w1.heap.size z := ⟨by rw [t2.block _ (by simp) (by simp), heap_alloc_new, HMc.out]⟩
      have HP := hide (pst_new (w := w) (wa := w2) (p := (w1.alloc (.cells mc 2)).drew.heap.size + 1) (q := (w1.alloc (.cells mc 2)).drew.heap.size) (d := w1.heap.size) (qb := qb) (cap := cap) (cs := cs) (f := f) (g := g) (ro := ro) (rn := rn) (rcap := rcap) HZl.out HZi.out hm2 hd (by omega) (by rw [t2.block qb (by have := lt_of_heap HAsk1.out; simp; omega) (by simp), ta.block qb (lt_of_heap HAsk1.out) (by simp)]; exact HAsk1.out) tw (by omega) HC.out)
      rw [hd1] at HP
      clear hm2 ta t2 tw hsz hd1 hd
      go_wp2_with fail
      go_meet
      case rel => exact ⟨_, _, _, _, rfl, HP.out⟩
  case rest =>
    obtain ⟨s, p, q, d, rfl, hst⟩ := hcut
    obtain ⟨w2, hw2⟩ : ∃ w2, w2 = wc := ⟨_, rfl⟩
    subst hw2
    clear HNew hmk HMc T1 HAsk1 HC HZl HZi HZm
    go_upto_block 0 with fail
    go_cut [9, 10] (fun _ _ wc => ∃ l, Aside (PSt w wc s p q d qb l ao len cap cs f g ro rn rcap))
    case first =>
      go_wp2_with fail
      go_loopg [9] 41 (fun gk s9 wr => ∃ (k : Nat) (l : List Int), s9 = .int .i64 (k : Int) ∧ k ≤ 40 ∧ k ≤ len1 ∧ 40 - k ≤ gk ∧ Aside (PSt w wr s p q d qb l ao len cap cs f g ro rn rcap))
      case atStart => exact ⟨0, _, rfl, by omega, by omega, by omega, hst.out⟩
      case round =>
        clear hst
        obtain ⟨k, l, rfl, hk, hkl, hgk, hst⟩ := hrel
        by_cases hgo : k < len1 ∧ k < 40
        · obtain ⟨hk1, hk2⟩ := hgo
          obtain ⟨b, off, kd, at_, c, n, x, rfl, g0, g1, g2, g3, g4, i1, i2, i3⟩ := HO.out.2 k hk1
          have c0 := (hst.out.t.cell (block_lt g0) (by simp)).trans g0
          have c1 := (hst.out.t.cell (block_lt g1) (by simp)).trans g1
          have c2 := (hst.out.t.cell (block_lt g2) (by simp)).trans g2
          have c3 := (hst.out.t.cell (block_lt g3) (by simp)).trans g3
          have c4 := (hst.out.t.cell (block_lt g4) (by simp)).trans g4
          have HD := hide (does_any s p q d l ao len cap cs kd at_ c n x wr hst.out.both hst.out.inn i1 i2 i3)
          have e1 : (k : Int) < (len1 : Int) := by omega
          have e2 : (k : Int) < 40 := by omega
          clear g0 g1 g2 g3 g4 i1 i2 i3
          go_wp2_with fail
          refine HD.out.mono ?_
          rintro e w3 ⟨l', rfl, hb, hll, hin, ht⟩
          have HP := hide (hst.out.does hb hll hin ht)
          clear hb hll hin ht HD c0 c1 c2 c3 c4
          go_wp2_with fail
          go_roundg (40 - (k + 1))
          case measure => omega
          case rel => exact ⟨k + 1, l', by go_num, by omega, by omega, Nat.le_refl _, HP.out⟩
        · have ends : Aside (¬ (k < len1 ∧ k < 40)) := hgo
          clear hgo
          by_cases hkl2 : k < len1
          · have e1 : (k : Int) < (len1 : Int) := by omega
            have e2 : ¬ (k : Int) < 40 := by have := ends.out; omega
            go_wp2_with fail
            go_meet
            case rel => exact ⟨l, hst.out⟩
          · have e1 : ¬ (k : Int) < (len1 : Int) := by omega
            go_wp2_with fail
            go_meet
            case rel => exact ⟨l, hst.out⟩
    case rest =>
      clear hst HO
      obtain ⟨l, hst⟩ := hcut
      obtain ⟨w3, hw3⟩ : ∃ w3, w3 = wc := ⟨_, rfl⟩
      subst hw3
      have b0 := hst.out.b0
      have b1 := hst.out.b1
      have HWd := hide (words_mem p q l 0 0 300 w3 hst.out.both.few hst.out.both.mem)
      have hlen := hst.out.len
      rw [show (min (max (300 : Int) 0) (l.length : Int)).toNat = 300 by omega, show (min (max (0 : Int) 0) (l.length : Int)).toNat = 0 by omega, List.drop_zero, List.take_of_length_le (by omega)] at HWd
      rw [hlen] at HWd
      clear hlen
      go_wp2_with fail
      refine HWd.out.mono ?_
      rintro e w4 ⟨v4, rfl, ho4, ht4⟩
      obtain ⟨gw, cw, rfl, _, _, _, hcw, _, cc4, hgw⟩ := ownsRow_open ho4 (by omega)
      have HP4 := hide (hst.out.turned ht4)
      have HW4 : Hid (∀ (i : Nat) x, l[i]? = some x → w4.cell? ⟨gw, i, none⟩ = some (.int .i64 x)) := fun i x hx => hcw i _ (by rw [List.getElem?_map, hx]; rfl)
      have HG4 := hide (lt_of_heap hgw)
      clear ho4 ht4 HWd hst b0 b1 hcw hgw
      go_wp2_with fail
      go_loopg [12] 301 (fun gk s12 wr => ∃ (k : Nat), s12 = .int .i64 (k : Int) ∧ k ≤ 300 ∧ 300 - k ≤ gk ∧ Aside (PSt w wr s p q d qb l ao len cap cs f g ro rn rcap) ∧ Aside (Turned [] w4 wr))
      case atStart => exact ⟨0, rfl, by omega, by omega, HP4.out, Turned.refl _ _⟩
      case round =>
        clear HP4
        obtain ⟨k, rfl, hk, hgk, hst, ht4⟩ := hrel
        by_cases hk3 : k < 300
        · have e1 : (k : Int) < 300 := by omega
          have b0 := hst.out.b0
          have HRd := hide (bread_all (.pointer (some ⟨p, 0, none⟩)) l ao len cap cs k wr hst.out.both.few hst.out.any hst.out.both.cls (by unfold In64; omega))
          have HBf := hide (readB_facts l cs k hst.out.both.few (by have := hst.out.len; omega))
          obtain ⟨en, hen⟩ : ∃ en, readN l cs k = en := ⟨_, rfl⟩
          obtain ⟨bb, hbb⟩ : ∃ bb, readB l cs k = bb := ⟨_, rfl⟩
          have HEn := hide (And.intro hbb hen)
          rw [hbb, hen] at HRd
          rw [hbb] at HBf
          clear hen hbb
          obtain ⟨bt, bk, bn, bz⟩ := bb
          simp only [Blk.agg] at HRd
          go_wp2_with fail
          refine HRd.out.mono ?_
          rintro e w5 ⟨rfl, ht5⟩
          have HP5 := hide (hst.out.turned ht5)
          have HT5 := hide (ht4.out.trans ht5)
          have ta5 : Turned [] w5 (w5.alloc (.cells #[.int .i64 bt, .int .i64 bk, .int .i64 bn, .int .i64 bz] 38)) := (Turned.refl _ _).alloc _
          have HA5 : Hid ((w5.alloc (.cells #[.int .i64 bt, .int .i64 bk, .int .i64 bn, .int .i64 bz] 38)).heap[w5.heap.size]? = some (.cells #[.int .i64 bt, .int .i64 bk, .int .i64 bn, .int .i64 bz] 38)) := heap_alloc_new _ _
          have HP5a := hide (HP5.out.turned ta5)
          have HT5a := hide (HT5.out.trans ta5)
          have c1 := HP5a.out.b1
          have HRr := hide (rread_all d l ao len cap cs k _ HP5a.out.both.few HP5a.out.both.doc HP5a.out.both.cls)
          rw [HP5a.out.len, HEn.out.1, HEn.out.2] at HRr
          simp only [Blk.agg] at HRr
          clear ht5 HRd b0 ta5 HP5 HT5
          go_wp2_with fail
          refine HRr.out.mono ?_
          rintro e w6 ⟨rfl, ht6⟩
          generalize hga : w5.heap.size = ga at *
          have ta6 : Turned [] w6 (w6.alloc (.cells #[.int .i64 bt, .int .i64 bk, .int .i64 bn, .int .i64 bz] 38)) := (Turned.refl _ _).alloc _
          have hA6 : (w6.alloc (.cells #[.int .i64 bt, .int .i64 bk, .int .i64 bn, .int .i64 bz] 38)).heap[w6.heap.size]? = some (.cells #[.int .i64 bt, .int .i64 bk, .int .i64 bn, .int .i64 bz] 38) := heap_alloc_new _ _
          have hB6 : (w6.alloc (.cells #[.int .i64 bt, .int .i64 bk, .int .i64 bn, .int .i64 bz] 38)).heap[ga]? = some (.cells #[.int .i64 bt, .int .i64 bk, .int .i64 bn, .int .i64 bz] 38) := by
            rw [(ht6.trans ta6).block ga (lt_of_heap HA5.out) (by simp)]; exact HA5.out
          have HP7 := hide (HP5a.out.turned (ht6.trans ta6))
          have HT7 := hide (HT5a.out.trans (ht6.trans ta6))
          clear ht6 ta6 HRr HP5a HT5a HA5 c1 hga
          go_upto_region 17 with fail
          generalize w6.alloc (.cells #[.int .i64 bt, .int .i64 bk, .int .i64 bn, .int .i64 bz] 38) = w7 at *
          generalize w6.heap.size = gb at *
          obtain ⟨x, hx⟩ : ∃ x, l[k]? = some x := ⟨_, List.getElem?_eq_getElem (by have := HP7.out.len; omega)⟩
          have f1 : w7.cell? ⟨gw, k, none⟩ = some (.int .i64 x) := by rw [HT7.out.cell (p := ⟨gw, k, none⟩) HG4.out (by simp)]; exact HW4.out k x hx
          have f2 := HP7.out.b1
          have f3 := HP7.out.both.doc.word hx
          have fa0 := cell_of_heap hB6 0
          have fa1 := cell_of_heap hB6 1
          have fa2 := cell_of_heap hB6 2
          have fa3 := cell_of_heap hB6 3
          have fb0 := cell_of_heap hA6 0
          have fb1 := cell_of_heap hA6 1
          have fb2 := cell_of_heap hA6 2
          have fb3 := cell_of_heap hA6 3
          simp only [List.getElem?_toArray, List.getElem?_cons_zero, List.getElem?_cons_succ] at fa0 fa1 fa2 fa3 fb0 fb1 fb2 fb3
          have HA7 := hide hA6
          clear hx hA6 hB6
          go_quiet (fail)
          go_wp2_with fail
          have HP8 := hide (HP7.out.turned (tdN w7 nq))
          have HT8 := hide (HT7.out.trans (tdN w7 nq))
          have hA8 : (w7.drewN nq).heap[gb]? = some (.cells #[.int .i64 bt, .int .i64 bk, .int .i64 bn, .int .i64 bz] 38) := HA7.out
          clear f1 f2 f3 fa0 fa1 fa2 fa3 fb0 fb1 fb2 fb3 HP7 HT7 HA7
          generalize w7.drewN nq = w8 at *
          have HP8d := hide (HP8.out.turned ((Turned.refl [] w8).drew))
          have HT8d := hide (HT8.out.trans ((Turned.refl [] w8).drew))
          have HA8 := hide hA8
          obtain ⟨X, hX⟩ : ∃ X, refWords l cs ⟨bt, bk, bn, bz⟩ = X := ⟨_, rfl⟩
          have HXl := hide (show X.length ≤ 65536 by
            rw [← hX]
            unfold refWords
            refine Nat.le_trans (List.length_filterMap_le _ _) ?_
            rw [rowTo_length]
            have := (refsOf_range cs bk bn).2
            show (refsOf cs bk bn).toNat ≤ 65536
            omega)
          have HRf := hide (brefs_all p q l ao len cap cs ⟨bt, bk, bn, bz⟩ w8.drew 0 HP8d.out.both.few HP8d.out.inn HBf.out.1 HBf.out.2 HP8d.out.both.mem HP8d.out.both.cls)
          have HRg := hide (fun w' (h' : PSt w w' s p q d qb l ao len cap cs f g ro rn rcap) => rrefs_all d l ao len cap cs ⟨bt, bk, bn, bz⟩ w' h'.both.few h'.inn HBf.out.1 HBf.out.2 h'.both.doc h'.both.cls)
          rw [HP8.out.len] at HRg
          rw [hX] at HRf HRg
          simp only [Blk.agg] at HRf HRg
          have g0 := HP8.out.b0
          have fb0 := cell_of_heap hA8 0
          have fb1 := cell_of_heap hA8 1
          have fb2 := cell_of_heap hA8 2
          have fb3 := cell_of_heap hA8 3
          simp only [List.getElem?_toArray, List.getElem?_cons_zero, List.getElem?_cons_succ] at fb0 fb1 fb2 fb3
          clear hA8 hX
          go_region_held3 (fun w' => w'.cell? ⟨s, 0, none⟩ = some (.pointer (some ⟨p, 0, none⟩)) ∧ w'.cell? ⟨gb, 0, none⟩ = some (.int .i64 bt) ∧ w'.cell? ⟨gb, 1, none⟩ = some (.int .i64 bk) ∧ w'.cell? ⟨gb, 2, none⟩ = some (.int .i64 bn) ∧ w'.cell? ⟨gb, 3, none⟩ = some (.int .i64 bz)) (go_keep)
            (first
              | (go_at_call 10; refine HRf.out.mono ?_; rintro e w9 ⟨v9, rfl, ho9, ht9⟩; have HP9 := hide (HP8d.out.turned ht9); have HT9 := hide (HT8d.out.trans ht9); have HO9 := hide ho9; have HA9 := hide ((ht9.block gb (lt_of_heap HA8.out) (by simp)).trans HA8.out); have k0 := HP9.out.b0; have k1 := (cell_of_heap HA9.out 0); have k2 := (cell_of_heap HA9.out 1); have k3 := (cell_of_heap HA9.out 2); have k4 := (cell_of_heap HA9.out 3); simp only [List.getElem?_toArray, List.getElem?_cons_zero, List.getElem?_cons_succ] at k1 k2 k3 k4; clear HRf ho9 ht9))
          clear g0 fb0 fb1 fb2 fb3 k0
          go_wp2_with fail
          have k0 := HP9.out.b1
          have HP9d := hide (HP9.out.turned ((Turned.refl [] w9).drew))
          have HT9d := hide (HT9.out.trans ((Turned.refl [] w9).drew))
          have HRh := hide (HRg.out w9.drew HP9d.out)
          clear HRg HP8 HP8d HT8 HT8d HA8
          go_region_held3 (fun w' => w'.cell? ⟨s, 1, none⟩ = some (.slice (some ⟨d, 0, none⟩) 300 300) ∧ w'.cell? ⟨gb, 0, none⟩ = some (.int .i64 bt) ∧ w'.cell? ⟨gb, 1, none⟩ = some (.int .i64 bk) ∧ w'.cell? ⟨gb, 2, none⟩ = some (.int .i64 bn) ∧ w'.cell? ⟨gb, 3, none⟩ = some (.int .i64 bz)) (go_keep)
            (first
              | (go_at_call 11; refine HRh.out.mono ?_; rintro e w10 ⟨v10, rfl, ho10, ht10⟩; have HP10 := hide (HP9d.out.turned ht10); have HT10 := hide (HT9d.out.trans ht10); have HO10 := hide ho10; have HTt := hide (((Turned.refl [] w9).drew).trans ht10); have HA10 := hide ((ht10.block gb (lt_of_heap HA9.out) (by simp)).trans HA9.out); have m0 := HP10.out.b1; have m1 := (cell_of_heap HA10.out 0); have m2 := (cell_of_heap HA10.out 1); have m3 := (cell_of_heap HA10.out 2); have m4 := (cell_of_heap HA10.out 3); simp only [List.getElem?_toArray, List.getElem?_cons_zero, List.getElem?_cons_succ] at m1 m2 m3 m4; clear HRh ho10 ht10))
          have hox := ownsRow_keep HO9.out (fun b hb => HTt.out.block b (ownsRow_lt HO9.out b hb).2.1 (by simp))
          obtain ⟨-, ax, cx, rfl, hrx⟩ := ownsRow_any hox
          obtain ⟨-, ay, cy, rfl, hry⟩ := ownsRow_any HO10.out
          have HX1 : Hid (∀ (i : Nat) y, X[i]? = some y → ∃ g1, ax = some ⟨g1, 0, none⟩ ∧ w10.cell? ⟨g1, i, none⟩ = some (.int .i64 y)) := fun i y hy => by
            obtain ⟨g1, e, _, _, hc, _⟩ := hrx i _ (by rw [List.getElem?_map, hy]; rfl)
            exact ⟨g1, e, hc⟩
          have HX2 : Hid (∀ (i : Nat) y, X[i]? = some y → ∃ g1, ay = some ⟨g1, 0, none⟩ ∧ w10.cell? ⟨g1, i, none⟩ = some (.int .i64 y)) := fun i y hy => by
            obtain ⟨g1, e, _, _, hc, _⟩ := hry i _ (by rw [List.getElem?_map, hy]; rfl)
            exact ⟨g1, e, hc⟩
          clear hox hrx hry HO9 HO10 HTt HP9 HP9d HT9 HT9d HA9 HA10 k0 k1 k2 k3 k4 m0 m1 m2 m3 m4
          obtain ⟨xn, hxn⟩ : ∃ xn, X.length = xn := ⟨_, rfl⟩
          have hxl := HXl.out
          rw [hxn] at hxl
          rw [hxn]
          have HXn := hide hxn
          clear hxn HXl
          go_wp2_with fail
          go_loopg [19] (xn + 1) (fun gk2 s19 wr => ∃ (j m : Nat), s19 = .int .i64 (j : Int) ∧ j ≤ xn ∧ xn - j ≤ gk2 ∧ Aside (wr = w10.drewN m))
          case atStart => exact ⟨0, 0, rfl, by omega, by omega, rfl⟩
          case round =>
            obtain ⟨j, m, rfl, hj, hgk2, hwr⟩ := hrel
            by_cases hjx : j < xn
            · obtain ⟨y, hy⟩ : ∃ y, X[j]? = some y := ⟨_, List.getElem?_eq_getElem (by rw [HXn.out]; exact hjx)⟩
              obtain ⟨g1, rfl, hc1⟩ := HX1.out j y hy
              obtain ⟨g2, rfl, hc2⟩ := HX2.out j y hy
              have e3 : (j : Int) < (xn : Int) := by omega
              have d1 : wr.cell? ⟨g1, j, none⟩ = some (.int .i64 y) := by rw [hwr.out]; exact hc1
              have d2 : wr.cell? ⟨g2, j, none⟩ = some (.int .i64 y) := by rw [hwr.out]; exact hc2
              clear hy hc1 hc2
              go_wp2_with fail
              go_quiet (fail)
              go_wp2_with fail
              go_roundg (xn - (j + 1))
              case measure => omega
              case rel => exact ⟨j + 1, m + nq, by go_num, by omega, Nat.le_refl _, by show _ = _; rw [hwr.out, World.drewN_drewN]⟩
            · have e3 : ¬ (j : Int) < (xn : Int) := by omega
              have HPn : Hid (PSt w wr s p q d qb l ao len cap cs f g ro rn rcap ∧ Turned [] w4 wr) := by
                rw [hwr.out]
                exact ⟨HP10.out.turned (tdN w10 m), HT10.out.trans (tdN w10 m)⟩
              clear hwr
              go_wp2_with fail
              go_roundg (300 - (k + 1))
              case measure => omega
              case rel => exact ⟨k + 1, by go_num, by omega, Nat.le_refl _, HPn.out.1, HPn.out.2⟩
        · have hk9 : k = 300 := by omega
          subst hk9
          have HP9 := hide hst.out
          clear hst ht4 HW4 HG4 hk hk3 hgk
          obtain ⟨w5, hw5⟩ : ∃ w5, w5 = wr := ⟨_, rfl⟩
          subst hw5
          go_wp2_with fail
          have hlen := HP9.out.len
          have HPd := hide (HP9.out.turned ((Turned.refl [] w5).drew))
          have HWk := hide (bwalk_all (.pointer (some ⟨p, 0, none⟩)) l ao len cap cs f g w5.drew HPd.out.both.few HPd.out.any HPd.out.both.cls)
          have HWr := hide (fun w' (h' : PSt w w' s p q d qb l ao len cap cs f g ro rn rcap) => rwalk_all d l ao len cap cs f g w' h'.both.few h'.both.doc h'.both.cls)
          have HRe := hide (fun w' (h' : PSt w w' s p q d qb l ao len cap cs f g ro rn rcap) => breach_all (.pointer (some ⟨p, 0, none⟩)) l ao len cap cs f g ro rn rcap rs w' h'.both.few h'.inn h'.any h'.both.cls (HR.out.turned h'.t))
          have HRd := hide (fun w' (h' : PSt w w' s p q d qb l ao len cap cs f g ro rn rcap) => rreach_all d l ao len cap cs f g ro rn rcap rs w' h'.both.few h'.inn h'.both.doc h'.both.cls (HR.out.turned h'.t) HRo.out (by have := HBy.out; omega))
          rw [hlen] at HWr HRd
          have HBl := hide (walkB_few l cs f g HP9.out.both.few)
          generalize walkE l cs f g = we at *
          generalize walkB l cs f g = wb at *
          have s0 := HP9.out.b0
          have q0 := HP9.out.q0
          have q1 := HP9.out.q1
          clear hlen
          go_region_held3 (fun w' => w'.cell? ⟨s, 0, none⟩ = some (.pointer (some ⟨p, 0, none⟩)) ∧ w'.cell? ⟨qb, 0, none⟩ = some (.int .i64 f) ∧ w'.cell? ⟨qb, 1, none⟩ = some (.int .i64 g)) (go_keep)
            (first
              | (go_at_call 12; refine HWk.out.mono ?_; rintro e w6 ⟨v6, rfl, ho6, ht6⟩; have HP6 := hide (HPd.out.turned ht6); have HO6 := hide ho6; have s1 := HP6.out.b0; have q2 := HP6.out.q0; have q3 := HP6.out.q1; clear HWk ho6 ht6))
          go_wp2_with fail
          clear s0 q0 q1 s1 q2 q3 HPd HP9
          have s0 := HP6.out.b1
          have q0 := HP6.out.q0
          have q1 := HP6.out.q1
          have HP6d := hide (HP6.out.turned ((Turned.refl [] w6).drew))
          have HWs := hide (HWr.out w6.drew HP6d.out)
          clear HWr
          go_region_held3 (fun w' => w'.cell? ⟨s, 1, none⟩ = some (.slice (some ⟨d, 0, none⟩) 300 300) ∧ w'.cell? ⟨qb, 0, none⟩ = some (.int .i64 f) ∧ w'.cell? ⟨qb, 1, none⟩ = some (.int .i64 g)) (go_keep)
            (first
              | (go_at_call 13; refine HWs.out.mono ?_; rintro e w7 ⟨v7, rfl, ho7, ht7⟩; have HP7 := hide (HP6d.out.turned ht7); have HT67 := hide (((Turned.refl [] w6).drew).trans ht7); have HO7 := hide ho7; have s1 := HP7.out.b1; have q2 := HP7.out.q0; have q3 := HP7.out.q1; clear HWs ho7 ht7))
          have ho6 := ownsRow_keep HO6.out (fun b hb => HT67.out.block b (ownsRow_lt HO6.out b hb).2.1 (by simp))
          obtain ⟨ao6, cap6, rfl, hb6⟩ := ownsRow_blks ho6
          obtain ⟨ao7, cap7, rfl, hb7⟩ := ownsRow_blks HO7.out
          have HSm := hide (same_blocks ao6 ao7 cap6 cap7 wb wb.length w7 HBl.out hb6 hb7)
          clear ho6 hb6 hb7 HO6 HO7 HT67 s0 q0 q1 s1 q2 q3 HP6 HP6d HBl
          go_wp2_with fail
          refine HSm.out.mono ?_
          rintro e w8 ⟨rfl, ht8⟩
          have HP8 := hide (HP7.out.turned ht8)
          clear ht8 HSm HP7
          go_wp2_with fail
          have s0 := HP8.out.b0
          have q0 := HP8.out.q0
          have q1 := HP8.out.q1
          have q2 := HP8.out.q2
          have HP8d := hide (HP8.out.turned ((Turned.refl [] w8).drew))
          have HRf := hide (HRe.out w8.drew HP8d.out)
          clear HRe
          go_region_held3 (fun w' => w'.cell? ⟨s, 0, none⟩ = some (.pointer (some ⟨p, 0, none⟩)) ∧ w'.cell? ⟨qb, 0, none⟩ = some (.int .i64 f) ∧ w'.cell? ⟨qb, 1, none⟩ = some (.int .i64 g) ∧ w'.cell? ⟨qb, 2, none⟩ = some (.slice ro rn rcap)) (go_keep)
            (first
              | (go_at_call 15; refine HRf.out.mono ?_; rintro e w9 ⟨v9, ts, n9, rfl, ho9, hr9, hl9, ht9⟩; have HP9 := hide (HP8d.out.turned ht9); have HO9 := hide ho9; have HR9 := hide hr9; have HL9 := hide hl9; have s1 := HP9.out.b0; have q3 := HP9.out.q0; have q4 := HP9.out.q1; have q5 := HP9.out.q2; clear HRf ho9 ht9 hr9 hl9))
          go_wp2_with fail
          clear s0 q0 q1 q2 s1 q3 q4 q5 HP8 HP8d
          have s0 := HP9.out.b1
          have q0 := HP9.out.q0
          have q1 := HP9.out.q1
          have q2 := HP9.out.q2
          have HP9d := hide (HP9.out.turned ((Turned.refl [] w9).drew))
          have HRg := hide (HRd.out w9.drew HP9d.out)
          clear HRd
          go_region_held3 (fun w' => w'.cell? ⟨s, 1, none⟩ = some (.slice (some ⟨d, 0, none⟩) 300 300) ∧ w'.cell? ⟨qb, 0, none⟩ = some (.int .i64 f) ∧ w'.cell? ⟨qb, 1, none⟩ = some (.int .i64 g) ∧ w'.cell? ⟨qb, 2, none⟩ = some (.slice ro rn rcap)) (go_keep)
            (first
              | (go_at_call 16; refine HRg.out.mono ?_; rintro e w10 ⟨v10, us, n10, rfl, ho10, hr10, hl10, ht10⟩; have HP10 := hide (HP9d.out.turned ht10); have HTt := hide (((Turned.refl [] w9).drew).trans ht10); have HO10 := hide ho10; have HR10 := hide hr10; have s1 := HP10.out.b1; have q3 := HP10.out.q0; have q4 := HP10.out.q1; have q5 := HP10.out.q2; clear HRg ho10 ht10 hr10 hl10))
          obtain ⟨htu, hnn⟩ := ReachT.one HR9.out HR10.out
          subst htu hnn
          have hox := ownsRow_keep HO9.out (fun b hb => HTt.out.block b (ownsRow_lt HO9.out b hb).2.1 (by simp))
          obtain ⟨-, ax, cx, rfl, hrx⟩ := ownsRow_any hox
          obtain ⟨-, ay, cy, rfl, hry⟩ := ownsRow_any HO10.out
          have HX1 : Hid (∀ (i : Nat) y, ts[i]? = some y → ∃ g1, ax = some ⟨g1, 0, none⟩ ∧ w10.cell? ⟨g1, i, none⟩ = some (.int .i64 y)) := fun i y hy => by
            obtain ⟨g1, e, _, _, hc, _⟩ := hrx i _ (by rw [List.getElem?_map, hy]; rfl)
            exact ⟨g1, e, hc⟩
          have HX2 : Hid (∀ (i : Nat) y, ts[i]? = some y → ∃ g1, ay = some ⟨g1, 0, none⟩ ∧ w10.cell? ⟨g1, i, none⟩ = some (.int .i64 y)) := fun i y hy => by
            obtain ⟨g1, e, _, _, hc, _⟩ := hry i _ (by rw [List.getElem?_map, hy]; rfl)
            exact ⟨g1, e, hc⟩
          clear hox hrx hry HO9 HO10 HTt HP9 HP9d s0 q0 q1 q2 s1 q3 q4 q5 HR9 HR10
          obtain ⟨xn, hxn⟩ : ∃ xn, ts.length = xn := ⟨_, rfl⟩
          have hxl := HL9.out
          rw [hxn] at hxl
          rw [hxn]
          have HXn := hide hxn
          clear hxn HL9
          go_wp2_with fail
          go_loopg [29] (xn + 1) (fun gk2 s29 wr => ∃ (j m : Nat), s29 = .int .i64 (j : Int) ∧ j ≤ xn ∧ xn - j ≤ gk2 ∧ Aside (wr = w10.drewN m))
          case atStart => exact ⟨0, 0, rfl, by omega, by omega, rfl⟩
          case round =>
            obtain ⟨j, m, rfl, hj, hgk2, hwr⟩ := hrel
            by_cases hjx : j < xn
            · obtain ⟨y, hy⟩ : ∃ y, ts[j]? = some y := ⟨_, List.getElem?_eq_getElem (by rw [HXn.out]; exact hjx)⟩
              obtain ⟨g1, rfl, hc1⟩ := HX1.out j y hy
              obtain ⟨g2, rfl, hc2⟩ := HX2.out j y hy
              have e3 : (j : Int) < (xn : Int) := by omega
              have d1 : wr.cell? ⟨g1, j, none⟩ = some (.int .i64 y) := by rw [hwr.out]; exact hc1
              have d2 : wr.cell? ⟨g2, j, none⟩ = some (.int .i64 y) := by rw [hwr.out]; exact hc2
              clear hy hc1 hc2
              go_wp2_with fail
              go_quiet (fail)
              go_wp2_with fail
              go_roundg (xn - (j + 1))
              case measure => omega
              case rel => exact ⟨j + 1, m + nq, by go_num, by omega, Nat.le_refl _, by show _ = _; rw [hwr.out, World.drewN_drewN]⟩
            · have e3 : ¬ (j : Int) < (xn : Int) := by omega
              have HTn : Hid (Turned [] w wr) := by
                rw [hwr.out]
                exact HP10.out.t.trans (tdN w10 m)
              clear hwr
              go_wp2_with fail
              go_ret
              exact ⟨rfl, HTn.out⟩
end Go.Proofs.Ythigmechfcndcaa

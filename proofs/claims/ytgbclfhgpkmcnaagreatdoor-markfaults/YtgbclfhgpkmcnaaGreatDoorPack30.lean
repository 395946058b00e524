/-
  Texts of the proof, several in one: AdjLive.
-/
import Derived.Test.YtgbclfhgpkmcnaaGreatDoorPack28
import Derived.Test.YtgbclfhgpkmcnaaGreatDoorPack14
import Derived.Test.YtgbclfhgpkmcnaaGreatDoorPack27
/-
  The document's Live, at things that refer to one another alone: the blocks of what is reached, in order.
-/
namespace Go.Proofs.YtgbclfhgpkmcnaaGreatDoor
open Go.RowKit
set_option linter.unusedVariables false
set_option linter.unusedSimpArgs false

/-- The blocks of what is reached. -/
def liveBs (bs : List Blk) (R : List Int) : List Blk := bs.filter fun b => decide (b.t ∈ R)
theorem told_live {N : Nat} {L : List Int} {top : Int} {bs : List Blk} (h : Hd N L top bs) {rs : List Int} (hr : ∀ r, r ∈ rs → r = 0 ∨ ∃ b, b ∈ bs ∧ r = b.t) {R : List Int} (hR : ∀ x, x ∈ R ↔ Rch (objOf (bs ++ tail4 N top)) (refWords L four) rs x) : toldOf (bs ++ tail4 N top) R = (liveBs bs R).map Blk.t := by
  unfold toldOf liveBs
  rw [List.filter_append, List.map_append]
  have : (tail4 N top).filter (fun b => decide (b.t ∈ R)) = [] := by
    rw [List.filter_eq_nil_iff]
    intro b hb hm
    have hm2 := (hR b.t).1 (by simpa using hm)
    obtain ⟨c, hc, e⟩ := h.closed hr hm2
    have hlt := (conn_le _ _ _ h.chain.chain).2 c hc
    unfold tail4 at hb
    split at hb
    · simp at hb
      subst hb
      have h3 := readOf_some (h.chain.read c hc).1
      simp only at e
      have := h3.2.2.1
      omega
    · cases hb
  rw [this]
  simp
theorem cells_newA (w : World) (c : Array Value) (t : TypeId) (g : Nat) (hg : g = w.heap.size) : ∀ j u, c.toList[j]? = some u → (w.alloc (.cells c t)).cell? ((⟨g, 0, none⟩ : Addr).add j) = some u := by
  intro j u hu
  subst hg
  have e : (⟨w.heap.size, 0, none⟩ : Addr).add j = ⟨w.heap.size, j, none⟩ := by
    cases j with
    | zero => simp [Addr.add]
    | succ j => simp [Addr.add]
  rw [e, cell_of_heap (heap_alloc_new _ _)]
  simpa using hu

set_option maxHeartbeats 4000000 in
set_option maxRecDepth 100000 in
theorem live11 (d : Nat) (N : Nat) (L : List Int) (top : Int) (bs : List Blk) (ao : Option Addr) (len cap : Nat) (ro : Option Addr) (rn rcap : Nat) (rs : List Int) (w : World)
    (h : Hd N L top bs) (hN : N ≤ 65536) (h64 : ∀ x, x ∈ L → In64 x) (hv : Doc w d L) (hc : CRd w ao len four) (hr : IRd w ro rn rs) (hro : ro = none → rn = 0 ∧ rcap = 0) (hrs : ∀ r, r ∈ rs → r = 0 ∨ ∃ b, b ∈ bs ∧ r = b.t)
    (hbl : bs.length ≤ 65536) (hm : (rs.length + leftOf (refWords L four) (bs ++ tail4 N top) (List.replicate (bs ++ tail4 N top).length false)) * 8 ≤ 140737488355328) :
    Calls Tryz.prog 15 #[.slice (some ⟨d, 0, none⟩) N N, .slice ao len cap, .int .i64 1, .int .i64 (N : Int), .slice ro rn rcap] w fun e w' => ∃ (v : Value) (R : List Int), e = .returned (.tuple #[v, .bool true]) ∧ w'.ownsRow w.heap.size 54 4 v (liveBs bs R).length (flat (liveBs bs R)) ∧ (∀ x, x ∈ R ↔ Rch (objOf (bs ++ tail4 N top)) (refWords L four) rs x) ∧ Turned [] w w' := by
  have hlen := h.chain.len
  have htop := h.chain.top1
  have hlow := h.chain.low
  have HRe := hide (rreach_in d L ao len cap four 1 (N : Int) ro rn rcap rs (bs ++ tail4 N top) w (by omega) h64 hv hc hr ⟨by omega, by omega, by omega⟩ h.walk hro hm)
  rw [hlen] at HRe
  have HRd := hide (fun (w' : World) (t : Turned [] w w') (b : Blk) (hb : b ∈ bs) => rread_some d L ao len cap four b.t b w' (by omega) (hv.turned t (by simp)) (hc.turned t) (h.chain.read b hb).1)
  rw [hlen] at HRd
  have HTl := hide (fun (R : List Int) (hR : ∀ x, x ∈ R ↔ Rch (objOf (bs ++ tail4 N top)) (refWords L four) rs x) => told_live h hrs hR)
  have HF := hide (h.found hrs)
  have HLb := hide hbl
  obtain ⟨i0, hi, hi0⟩ := Option.map_eq_some_iff.1 Tryz.infoBlock
  simp only [Prod.mk.injEq] at hi0
  obtain ⟨hz0, hz1, hz2⟩ := hi0
  have HI := hide (And.intro hi (And.intro hz0 (And.intro hz1 hz2)))
  clear hbl hi hz0 hz1 hz2 h h64 hv hc hr hro hrs hm hlen htop hlow
  go_enter Tryz.func15, Tryz.ntmps15
  go_wp2_with fail
  refine (HRe.out).mono ?_
  rintro e w1 ⟨t1, ⟨rfl, hl⟩ | ⟨v1, R, rfl, hown, hR, -⟩⟩
  · exact absurd hl HF.out
  · have HR := hide hR
    rw [HTl.out R hR] at hown
    have HT1 := hide t1
    have HO1 := hide hown
    obtain ⟨V, hV⟩ : ∃ V, V = liveBs bs R := ⟨_, rfl⟩
    have HVm : Hid (∀ i b, V[i]? = some b → b ∈ bs) := hide (fun i b hb => by
      have := List.mem_of_getElem? hb
      rw [hV] at this
      unfold liveBs at this
      exact (List.mem_filter.1 this).1)
    have HVl : Hid (V.length ≤ 65536) := hide (by rw [hV]; exact Nat.le_trans (List.length_filter_le _ _) HLb.out)
    have HV := hide hV
    rw [← hV] at HO1
    rw [List.length_map] at HO1
    clear t1 hR hown hV HRe HTl HF HLb
    have hshape : ∃ po pc, v1 = .slice po V.length pc := by
      rcases HO1.out.2 with ⟨hv, h0⟩ | ⟨g3, cap3, cur3, hv, _⟩
      · exact ⟨none, 0, by rw [h0]; exact hv⟩
      · exact ⟨_, _, hv⟩
    obtain ⟨po, pc, rfl⟩ := hshape
    have HCe : Hid (∀ i b, V[i]? = some b → ∃ g, po = some ⟨g, 0, none⟩ ∧ w1.cell? ⟨g, i, none⟩ = some (.int .i64 b.t)) := hide (fun i b hb => by
      have hi := (List.getElem?_eq_some_iff.1 hb).1
      rcases HO1.out.2 with ⟨hv, h0⟩ | ⟨g3, cap3, cur3, hv, _, hh, _, _, _, ht⟩
      · omega
      · cases hv
        refine ⟨g3, rfl, ?_⟩
        rw [cell_of_heap hh]
        have h1 : ((V.map Blk.t).map (Value.int .i64))[i]? = some (.int .i64 b.t) := by rw [List.getElem?_map, List.getElem?_map, hb]; rfl
        rw [← ht, List.getElem?_take] at h1
        split at h1
        · simpa using h1
        · cases h1)
    obtain ⟨n, hn⟩ : ∃ n, n = V.length := ⟨_, rfl⟩
    have HN := hide hn
    rw [← hn] at HVl ⊢
    obtain ⟨B, hB'⟩ : ∃ B, B = w1.heap.size := ⟨_, rfl⟩
    have HB1' := hide (show w1.heap.size ≤ B by omega)
    have HB1 := hide (show B ≤ w1.heap.size by omega)
    have HB := hide (show w.heap.size ≤ B by rw [hB']; exact HT1.out.size)
    clear hB'
    have HO0 : Hid (w1.ownsRow B 54 4 (.slice none 0 0) 0 (flat (V.take 0))) := hide ⟨rfl, .inl ⟨rfl, rfl⟩⟩
    clear hn HO1
    go_wp2_with fail
    go_loopg [14, 15] n (fun gg s14 s15 wr => ∃ (i : Nat) (v : Value), v = s14 ∧ s15 = .int .i64 (i : Int) ∧ gg = n - i ∧ i ≤ n ∧ Aside (wr.ownsRow B 54 4 v i (flat (V.take i))) ∧ Aside (Turned [] w1 wr) ∧ Aside (B ≤ wr.heap.size))
    case atStart => exact ⟨0, _, rfl, rfl, rfl, Nat.zero_le _, HO0.out, Turned.refl [] w1, HB1.out⟩
    case round =>
      obtain ⟨i, v, rfl, rfl, rfl, hi, hown, hts, hbs⟩ := hrel
      have HO := hide hown.out
      have HT := hide hts.out
      have HBs := hide hbs.out
      clear hown hts hbs HO0
      by_cases hlt : i < n
      · have hlti : (i : Int) < (n : Int) := by omega
        obtain ⟨b, hb⟩ : ∃ b, V[i]? = some b := ⟨_, List.getElem?_eq_getElem (by rw [← HN.out]; exact hlt)⟩
        obtain ⟨g, rfl, cg⟩ := HCe.out i b hb
        have cg2 : wr.cell? ⟨g, i, none⟩ = some (.int .i64 b.t) := by rw [HT.out.cell (block_lt cg) (by simp)]; exact cg
        have HRb := hide (HRd.out wr (HT1.out.trans HT.out) b (HVm.out i b hb))
        have HTk : Hid (flat (V.take (i + 1)) = flat (V.take i) ++ b.cells) := hide (by rw [List.take_succ_eq_append_getElem (List.getElem?_eq_some_iff.1 hb).1, (List.getElem?_eq_some_iff.1 hb).2, flat_snoc])
        have HLe := hide (show i ≤ 65536 by have := HVl.out; omega)
        have HWi : Hid (wrap64 ((i : Int) + 1) = ((i + 1 : Nat) : Int)) := hide (by have := HVl.out; unfold wrap64; omega)
        obtain ⟨bt, bk, bn, bz⟩ := b
        simp only at cg2 HRb
        clear hb cg
        go_wp2_with fail
        refine (HRb.out).mono ?_
        rintro e w2 ⟨rfl, t2⟩
        have HT2 := hide (HT.out.trans t2)
        have HO2 : Hid (w2.ownsRow B 54 4 v i (flat (V.take i))) := hide (ownsRow_keep HO.out (fun k hk => t2.block k (ownsRow_lt HO.out k hk).2.1 (by simp)))
        have HB3 := hide (Nat.le_trans HBs.out t2.size)
        clear t2 HRb HO HT HBs cg2
        go_upto_region 9 with fail
        obtain ⟨w3, hw3⟩ : ∃ w3, w3 = w2.alloc (.cells #[.int .i64 bt, .int .i64 bk, .int .i64 bn, .int .i64 bz] 54) := ⟨_, rfl⟩
        obtain ⟨bb, hbb⟩ : ∃ bb, bb = w2.heap.size := ⟨_, rfl⟩
        have hh3 : w3.heap[bb]? = some (.cells #[.int .i64 bt, .int .i64 bk, .int .i64 bn, .int .i64 bz] 54) := by rw [hw3, hbb]; exact heap_alloc_new _ _
        have t23 : Turned [] w2 w3 := by rw [hw3]; exact (Turned.refl [] w2).alloc _
        rw [← hw3, ← hbb]
        clear hw3 hbb
        have e0 : w3.cell? ⟨bb, 0, none⟩ = some (.int .i64 bt) := by rw [cell_of_heap hh3]; rfl
        have e1 : w3.cell? ⟨bb, 1, none⟩ = some (.int .i64 bk) := by rw [cell_of_heap hh3]; rfl
        have e2 : w3.cell? ⟨bb, 2, none⟩ = some (.int .i64 bn) := by rw [cell_of_heap hh3]; rfl
        have e3 : w3.cell? ⟨bb, 3, none⟩ = some (.int .i64 bz) := by rw [cell_of_heap hh3]; rfl
        have hbs : ∀ w : World, (Instr.buildSlice 40 1 #[(0, .agg #[.int .i64 bt, .int .i64 bk, .int .i64 bn, .int .i64 bz])]).run Tryz.prog w = .ok (.slice (some ⟨w.heap.size, 0, none⟩) 1 1) (w.alloc (.cells #[.int .i64 bt, .int .i64 bk, .int .i64 bn, .int .i64 bz] 54)) := fun w => by kernel_rfl
        have t24 : Turned [] w2 (w3.alloc (.cells #[.int .i64 bt, .int .i64 bk, .int .i64 bn, .int .i64 bz] 54)) := t23.alloc _
        have HT4 := hide (HT2.out.trans t24)
        have HO4 : Hid ((w3.alloc (.cells #[.int .i64 bt, .int .i64 bk, .int .i64 bn, .int .i64 bz] 54)).ownsRow B 54 4 v i (flat (V.take i))) := hide (ownsRow_keep HO2.out (fun k hk => t24.block k (ownsRow_lt HO2.out k hk).2.1 (by simp)))
        have HB4 := hide (Nat.le_trans HB3.out t24.size)
        have HNw : Hid (∀ j u, (Blk.cells ⟨bt, bk, bn, bz⟩)[j]? = some u → (w3.alloc (.cells #[.int .i64 bt, .int .i64 bk, .int .i64 bn, .int .i64 bz] 54)).cell? ((⟨w3.heap.size, 0, none⟩ : Addr).add j) = some u) := hide (cells_newA w3 #[.int .i64 bt, .int .i64 bk, .int .i64 bn, .int .i64 bz] 54 w3.heap.size rfl)
        clear t23 t24 hh3 HO2 HT2 HB3
        go_wp2_with (at_builtin; refine wpList_append_own _ rfl _ _ 40 rfl B 54 i0 _ 4 32 Tryz.underlying40 HI.out.1 HI.out.2.1 HI.out.2.2.1 HI.out.2.2.2 rfl (by decide) v i (flat (V.take i)) rfl HO4.out ⟨w3.heap.size, 0, none⟩ 1 1 (Blk.cells ⟨bt, bk, bn, bz⟩) rfl rfl HNw.out (Blk.cells_one _) (by have := HLe.out; unfold maxLen; omega) (by have := HLe.out; omega) HB4.out ?_; intro v10 w5 hown hgr hvv)
        have HO5 : Hid (w5.ownsRow B 54 4 v10 (i + 1) (flat (V.take (i + 1)))) := hide (by rw [HTk.out]; exact hown)
        have HT5 : Hid (Turned [] w1 w5) := hide (HT4.out.grown hgr (fun k hk => .inr (Nat.le_trans HB1'.out (ownsRow_lt HO4.out k hk).1)))
        have HB5 := hide (Nat.le_trans HB4.out hgr.size)
        clear hown hgr hvv HO4 HT4 HB4 HNw hbs e0 e1 e2 e3 HTk
        go_wp2_with fail
        go_roundg (n - (i + 1))
        case measure => omega
        case rel => exact ⟨i + 1, _, rfl, by first | exact congrArg (Value.int .i64) HWi.out | go_num, rfl, hlt, HO5.out, HT5.out, HB5.out⟩
      · have hlti : ¬ (i : Int) < (n : Int) := by omega
        have hin : i = n := by omega
        have HE : Hid (wr.ownsRow B 54 4 v (liveBs bs R).length (flat (liveBs bs R))) := hide (by
          have h1 := HO.out
          rw [hin] at h1
          rw [HN.out, List.take_length] at h1
          rw [← HV.out]
          exact h1)
        have HT3 := hide (HT1.out.trans HT.out)
        have hB3 := HB.out
        clear hin HO
        go_wp2_with fail
        go_ret2
        exact ⟨v, rfl, R, ownsRow_mono HE.out HB.out, HR.out, HT3.out⟩
end Go.Proofs.YtgbclfhgpkmcnaaGreatDoor

/-
  Texts of the proof, several in one: MarkDocK, MarkDocH, MarkHelpP, MarkLawH.
-/
import Derived.Test.YtgbclfhgpkmcnaaGreatDoorPack14
import Derived.Test.YtgbclfhgpkmcnaaGreatDoorPack18
import Derived.Test.YtgbclfhgpkmcnaaGreatDoorPack26
import Derived.Test.YtgbclfhgpkmcnaaGreatDoorPack2
import Derived.Deep.DeepCutAuto
import Derived.Deep.CutBlock
import Derived.Deep.LoopGhost
import Derived.BigRegion
import Derived.Test.YtgbclfhgpkmcnaaGreatDoorPack1
/-
  What ballastref11.Heap goes by: the classes, things that can be read, words and addresses in memory.
-/
namespace Go.Proofs.YtgbclfhgpkmcnaaGreatDoor
open Go.RowKit
set_option linter.unusedVariables false

theorem four_any (w : World) :
    Calls Tryz.prog 16 #[] w fun e w' => ∃ g, e = .returned (.slice (some ⟨g, 0, none⟩) 4 4) ∧ CRow w' (some ⟨g, 0, none⟩) 4 four ∧ Turned [] w w' ∧ w.heap.size ≤ g := by
  have hbs : ∀ w : World, (Instr.buildSlice 43 4 #[(0, .agg #[.int .i64 2, .int .i64 1, .int .i64 0]), (1, .agg #[.int .i64 0, .int .i64 0, .int .i64 1]), (2, .agg #[.int .i64 0, .int .i64 0, .int .i64 2]), (3, .agg #[.int .i64 0, .int .i64 1, .int .i64 0])]).run Tryz.prog w = .ok (.slice (some ⟨w.heap.size, 0, none⟩) 4 4) (w.alloc (.cells #[.int .i64 2, .int .i64 1, .int .i64 0, .int .i64 0, .int .i64 0, .int .i64 1, .int .i64 0, .int .i64 0, .int .i64 2, .int .i64 0, .int .i64 1, .int .i64 0] 94)) := fun _ => by kernel_rfl
  have HB := hide (heap_alloc_new w (.cells #[.int .i64 2, .int .i64 1, .int .i64 0, .int .i64 0, .int .i64 0, .int .i64 1, .int .i64 0, .int .i64 0, .int .i64 2, .int .i64 0, .int .i64 1, .int .i64 0] 94))
  go_enter Tryz.func16, Tryz.ntmps16
  go_wp2_with fail
  go_ret
  refine ⟨_, rfl, ⟨⟨rfl, by omega, fun i c hc => ⟨_, 0, rfl, ?_⟩, fun c hc => ?_⟩, fun b off spot e => ?_⟩, (Turned.refl [] w).alloc _, Nat.le_refl _⟩
  · rw [cell_of_heap HB.out, cell_of_heap HB.out, cell_of_heap HB.out]
    match i, hc with
    | 0, hc => simp [four] at hc; subst hc; exact ⟨rfl, rfl, rfl⟩
    | 1, hc => simp [four] at hc; subst hc; exact ⟨rfl, rfl, rfl⟩
    | 2, hc => simp [four] at hc; subst hc; exact ⟨rfl, rfl, rfl⟩
    | 3, hc => simp [four] at hc; subst hc; exact ⟨rfl, rfl, rfl⟩
    | i + 4, hc => simp [four] at hc
  · simp [four] at hc
    rcases hc with rfl | rfl | rfl | rfl <;> simp [Cls.In, In64]
  · cases e
    exact ⟨_, _, HB.out⟩

/-- Things that can be read. -/
structure ThR (w : World) (ao : Option Addr) (ths : List Th) : Prop where
  room : ths.length ≤ 9223372036854775807
  cell : ∀ (i : Nat) t, ths[i]? = some t → ∃ (b off : Nat) (aR : Option Addr) (cR : Nat), ao = some ⟨b, off, none⟩ ∧ w.cell? ⟨b, off + i * 3, none⟩ = some (.int .i64 t.c) ∧ w.cell? ⟨b, off + i * 3 + 1, none⟩ = some (.int .i64 t.n) ∧ w.cell? ⟨b, off + i * 3 + 2, none⟩ = some (.slice aR t.refs.length cR) ∧ IRd w aR t.refs.length t.refs
theorem ThR.turned {w w' : World} {ao : Option Addr} {ths : List Th} (h : ThR w ao ths) (ht : Turned [] w w') : ThR w' ao ths := by
  refine ⟨h.room, fun i t hi => ?_⟩
  obtain ⟨b, off, aR, cR, h0, h1, h2, h3, h4⟩ := h.cell i t hi
  exact ⟨b, off, aR, cR, h0, by rw [ht.cell (block_lt h1) (by simp)]; exact h1, by rw [ht.cell (block_lt h2) (by simp)]; exact h2, by rw [ht.cell (block_lt h3) (by simp)]; exact h3, h4.turned ht⟩

/-- The words and the addresses, in memory. -/
structure Hp (w wc : World) (q : Nat) (v : Value) (L at_ : List Int) : Prop where
  doc : Doc wc q L
  row : wc.ownsRow w.heap.size 3 1 v at_.length (at_.map (Value.int .i64))
  lo : w.heap.size ≤ q
  t : Turned [] w wc
section
variable {w wc w' : World} {q : Nat} {v : Value} {L at_ : List Int}
theorem Hp.keep (h : Hp w wc q v L at_) (ht : Turned [] wc w') : Hp w w' q v L at_ :=
  ⟨h.doc.turned ht (by simp), ownsRow_keep h.row (fun i hi => ht.block i (ownsRow_lt h.row i hi).2.1 (by simp)), h.lo, h.t.trans ht⟩
theorem Hp.put (h : Hp w wc q v L at_) {L' : List Int} (hd : Doc w' q L') (ht : Turned [q] wc w') : Hp w w' q v L' at_ := by
  refine ⟨hd, ownsRow_keep h.row (fun i hi => ht.block i (ownsRow_lt h.row i hi).2.1 ?_), h.lo, h.t.trans_new ht (fun i hi => by simp at hi; subst hi; exact .inr h.lo)⟩
  obtain ⟨_, _, c, hc⟩ := ownsRow_lt h.row i hi
  simp
  exact ne_of_type hc h.doc.row (by decide)
theorem Hp.at (h : Hp w wc q v L at_) : ∃ ao cap, v = .slice ao at_.length cap ∧ ∀ (i : Nat) (x : Int), at_[i]? = some x → ∃ g, ao = some ⟨g, 0, none⟩ ∧ wc.cell? ⟨g, i, none⟩ = some (.int .i64 x) := by
  obtain ⟨-, ao, cap, hv, hc⟩ := ownsRow_any h.row
  refine ⟨ao, cap, hv, fun i x hx => ?_⟩
  obtain ⟨g, h1, -, -, h2, -⟩ := hc i (.int .i64 x) (by rw [List.getElem?_map, hx]; rfl)
  exact ⟨g, h1, h2⟩
/-- An address more. -/
theorem Hp.more (h : Hp w wc q v L at_) {w5 : World} {v' : Value} {x : Int} (o : Obj) (hown : w5.ownsRow w.heap.size 3 1 v' (at_.length + 1) (at_.map (Value.int .i64) ++ [.int .i64 x])) (hg : (wc.alloc o).grownBy w5 v.ownBlock) : Hp w w5 q v' L (at_ ++ [x]) := by
  refine ⟨⟨?_⟩, by simpa using hown, h.lo, (h.t.alloc o).grown hg (fun i hi => .inr (ownsRow_lt h.row i hi).1)⟩
  rw [hg.block q (by have := h.doc.ltq; simp; omega) (fun hh => by
    obtain ⟨_, _, c2, hc2⟩ := ownsRow_lt h.row q hh.symm
    exact ne_of_type hc2 h.doc.row (by decide) rfl)]
  rw [Below.heap_alloc _ _ _ h.doc.ltq]
  exact h.doc.row
end
theorem Turned.fourN {S : List Nat} {a w : World} (h : Turned S a w) {b : Nat} (hb : a.heap.size ≤ b) (x0 x1 x2 x3 : Value) : Turned S a ((((w.setCell ⟨b, 0, none⟩ x0).setCell ⟨b, 1, none⟩ x1).setCell ⟨b, 2, none⟩ x2).setCell ⟨b, 3, none⟩ x3) :=
  (((h.setCell (.inr hb) _).setCell (.inr hb) _).setCell (.inr hb) _).setCell (.inr hb) _
theorem and3 (n : Int) : bits .and .i64 n 3 = n % 4 := and_low n 2 (by omega)
theorem and7 (n : Int) : bits .and .i64 n 7 = n % 8 := and_low n 3 (by omega)
theorem rread_any (q : Nat) (l : List Int) (ao : Option Addr) (len cap : Nat) (t : Int) (w : World) (hl : l.length ≤ 65536) (hd : Doc w q l) (hc : CRd w ao len four) :
    Calls Tryz.prog 37 #[.slice (some ⟨q, 0, none⟩) l.length l.length, .slice ao len cap, .int .i64 t] w fun e w' => ∃ er, e = .returned (.tuple #[.agg #[.int .i64 (blkAt l t).t, .int .i64 (blkAt l t).k, .int .i64 (blkAt l t).n, .int .i64 (blkAt l t).s], .int .i64 er]) ∧ Turned [] w w' := by
  unfold blkAt
  cases hr : readOf l four t with
  | none => exact (rread_none q l ao len cap four t w hl hd hc hr).mono (by rintro e w' ⟨rfl, h⟩; exact ⟨_, rfl, h⟩)
  | some b => exact (rread_some q l ao len cap four t b w hl hd hc hr).mono (by rintro e w' ⟨rfl, h⟩; exact ⟨_, rfl, h⟩)


theorem refs_few4 (l : List Int) (t : Int) : (refWords l four (blkAt l t)).length ≤ 65536 := by
  unfold blkAt
  cases hr : readOf l four t with
  | none =>
    have h4 : (refsOf four Blk.zero.k Blk.zero.n).toNat = 0 := by decide +kernel
    simp only [Option.getD_none]
    unfold refWords
    rw [h4]
    simp [rowTo]
  | some b =>
    simp only [Option.getD_some]
    have h1 := readOf_some hr
    have h2 : ((refWords l four b).length : Int) ≤ max (refsOf four b.k b.n) 0 := by
      unfold refWords
      have h3 := List.length_filterMap_le (fun i => wordAt l (b.t + i)) (rowTo (refsOf four b.k b.n).toNat)
      rw [rowTo_length] at h3
      omega
    have h4 := h1.2.2.2.2.2.1
    have h6 := h1.2.2.2.1
    rw [h1.2.2.2.2.2.2.1] at h6
    unfold refsOf at h2
    unfold sizeOf told at *
    split at h4
    · simp at h4
    · rename_i c hc
      split at h4
      · rename_i hn
        have h5 := clsAt_few hc hn
        simp only [hc, if_pos hn, gSize, gRefs] at h2 h6
        omega
      · simp at h4
theorem val16 (j k : Nat) (hj : j ≤ 65536) (hk : k ≤ 65536) : wrap64 (wrap64 (100000 + wrap64 (64 * (j : Int))) + (k : Int)) = 100000 + 64 * (j : Int) + (k : Int) := by unfold wrap64; omega
theorem setK_own {at_ refs : List Int} {i R t m : Nat} {l : List Int} {k : Nat} (h : R < k) (hm : m = t + k) : setK at_ refs i R t l k = l.set m (100000 + 64 * (i : Int) + (k : Int)) := by unfold setK; rw [if_pos h, hm]
theorem setK_ref {at_ refs : List Int} {i R t m : Nat} {l : List Int} {kk : Nat} (h : ¬ R < kk + 1) (hm : m = t + (kk + 1)) : (refs[kk]? = none → setK at_ refs i R t l (kk + 1) = l) ∧ ∀ r, refs[kk]? = some r → (0 < r → setK at_ refs i R t l (kk + 1) = l.set m (at_.getD (r.toNat % at_.length) 0)) ∧ (¬ 0 < r → setK at_ refs i R t l (kk + 1) = l) := by
  unfold setK
  rw [if_neg h, show kk + 1 - 1 = kk by omega, ← hm]
  refine ⟨fun h => by rw [h], fun r hr => ⟨fun hp => ?_, fun hp => ?_⟩⟩
  · rw [hr]; simp only; rw [if_pos hp]
  · rw [hr]; simp only; rw [if_neg hp]
theorem getD_at {l : List Int} {i : Nat} (h : i < l.length) : l[i]? = some (l.getD i 0) := by simp [List.getD_eq_getElem?_getD, h]
theorem num_k {tn bzn k N n2 : Nat} (h1 : k < bzn) (h2 : (tn : Int) + (bzn : Int) ≤ (n2 : Int)) (h3 : n2 = N) (h4 : N ≤ 65536) : tn + k < N ∧ k ≤ 65536 := by omega
theorem num_s {bzn k : Nat} (h : k < bzn) : bzn - k = (bzn - (k + 1)) + 1 := by omega
theorem num_e {tn k m : Nat} (hm : m = tn + k) (h : m < 65536) : wrap64 ((tn : Int) + (k : Int)) = (m : Int) := by unfold wrap64; omega
theorem num_p {k : Nat} (h : 1 ≤ k) : ∃ kk, k = kk + 1 := ⟨k - 1, by omega⟩
theorem num_m {bzn k g : Nat} (h : k + 1 ≤ bzn) (hg : bzn - k ≤ g) : bzn - (k + 1) < g := by omega
theorem num_i {r : Int} {al : Nat} (h : 0 < r) (ha : 0 < al) : 0 ≤ r % (al : Int) ∧ r % (al : Int) < (al : Int) ∧ (r % (al : Int)).toNat = r.toNat % al := by
  obtain ⟨n, rfl⟩ := Int.eq_ofNat_of_zero_le (show 0 ≤ r by omega)
  refine ⟨Int.emod_nonneg _ (by omega), Int.emod_lt_of_pos _ (by omega), ?_⟩
  rw [Int.toNat_natCast]
  show (((n % al : Nat) : Int)).toNat = _
  rw [Int.toNat_natCast]
theorem refsAll_zero (at_ : List Int) (ts : List Th) (i : Nat) (l : List Int) : refsAll at_ ts i 0 l = l := by cases ts <;> rfl
theorem hp_zeros (w : World) (N : Nat) : Hp w (w.alloc (.cells (madeCells #[.int .i64 0] N) 2)) w.heap.size (.slice none 0 0) (List.replicate N 0) [] :=
  ⟨⟨by rw [heap_alloc_new, madeCells_zeros]⟩, World.ownsRow_nil _ _ _ _, Nat.le_refl _, (Turned.refl _ _).alloc _⟩
end Go.Proofs.YtgbclfhgpkmcnaaGreatDoor

/-
  ballastref11.Heap is heapOf.
-/
namespace Go.Proofs.YtgbclfhgpkmcnaaGreatDoor
open Go.RowKit
set_option linter.unusedVariables false

set_option maxRecDepth 100000 in
set_option maxHeartbeats 1000000 in
theorem heap11_any (ao : Option Addr) (cap N : Nat) (ths : List Th) (w : World) (h : ThR w ao ths) (hN : 1 ≤ N ∧ N ≤ 65536) (hths : ths.length ≤ 65536) :
    Calls Tryz.prog 33 #[.slice ao ths.length cap, .int .i64 N] w fun e w' => ∃ q v, e = .returned (.tuple #[.slice (some ⟨q, 0, none⟩) N N, v]) ∧ Hp w w' q v (heapOf ths N).1 (heapOf ths N).2 := by
  have hmk := run_make_row' (P := Tryz.prog) 30 2 (.int .i64 0) 8 Tryz.underlying30 Tryz.info2 rfl .i64 .i64 N (by omega) (by omega)
  have HTh := hide h
  obtain ⟨i0, hi, hz0, hz1, hz2⟩ := info_parts Tryz.infoInt
  have HS0 := hide (hp_zeros w N)
  have HL0 : Hid (Laid N ⟨List.replicate N 0, [], 1⟩) := ⟨by simp, allIn_zeros N, ⟨Int.le_refl 1, by show (1 : Int) ≤ N; omega⟩, fun x hx => by simp at hx⟩
  clear h
  obtain ⟨Sf, hSf⟩ : ∃ Sf, Sf = layAll ⟨List.replicate N 0, [], 1⟩ ths := ⟨_, rfl⟩
  have HSf := hide hSf.symm
  have HRes : Hid ((heapOf ths N) = (fillL (refsAll Sf.at_ ths 0 Sf.at_.length Sf.l) Sf.top N, Sf.at_)) := by rw [hSf]; rfl
  generalize heapOf ths N = HR at *
  clear hSf
  have HTl : Hid (∀ j, j < ths.length → ∃ t, ths[j]? = some t ∧ ths.drop j = t :: ths.drop (j + 1)) := fun j hj => ⟨ths[j]'hj, by simp, by rw [List.drop_eq_getElem_cons hj]⟩
  have HTe : Hid (∀ j, ths.length ≤ j → ths.drop j = []) := fun j hj => List.drop_eq_nil_of_le hj
  generalize hlen : ths.length = len at *
  have HLn := hide hlen
  clear hlen
  go_enter Tryz.func33, Tryz.ntmps33
  go_upto_block 0 with fail
  generalize hq : w.heap.size = q at HS0
  have HQ0 := hide hq
  generalize hwA : w.alloc (.cells (madeCells #[.int .i64 0] N) 2) = wA at *
  clear hmk
  go_cut [7, 8, 9, 10, 11, 12, 13] (fun v t _ _ _ _ _ wc => ∃ (top : Int) (L at_ : List Int), t = .int .i64 top ∧ Sf = ⟨L, at_, top⟩ ∧ at_.length ≤ len ∧ Aside (Hp w wc q v L at_ ∧ Laid N ⟨L, at_, top⟩))
  case first =>
    go_wp2_with fail
    go_loopg [7, 8, 9] len (fun g v t i wr => ∃ (j : Nat) (top : Int) (L at_ : List Int), j ≤ len ∧ g = len - j ∧ i = .int .i64 j ∧ t = .int .i64 top ∧ Aside (Hp w wr q v L at_ ∧ Laid N ⟨L, at_, top⟩) ∧ Aside (at_.length = j ∧ layAll ⟨L, at_, top⟩ (ths.drop j) = Sf))
    case atStart => exact ⟨0, 1, _, [], Nat.zero_le _, rfl, rfl, rfl, ⟨HS0.out, HL0.out⟩, rfl, HSf.out⟩
    case round =>
      clear HS0 HL0 HSf
      obtain ⟨j, top, L, at_, hj, hg, rfl, rfl, HI, HB⟩ := hrel
      by_cases hlt : j < len
      · obtain ⟨t, ht, hdrop⟩ := HTl.out j hlt
        obtain ⟨tb, toff, aR, cR, rfl, t0, t1, -, -⟩ := (HTh.out.turned HI.out.1.t).cell j t ht
        have hlti : (j : Int) < (len : Int) := by omega
        have hK : wrap64 (1 + bits .and .i64 t.c 3) = t.k := by rw [and3]; unfold Th.k wrap64; omega
        have HLen : Hid (t.len = if t.k = 2 ∨ t.k = 3 then bits .and .i64 t.n 7 else 0) := by show _ = _; rw [and7]; rfl
        have hkin := t.k_in
        have hlin := t.len_in
        have HDr := hide hdrop
        clear ht
        have hl2 := HLen.out
        have H3 : Hid ((t.k = 2 ∧ bits .and .i64 t.n 7 = t.len) ∨ (t.k = 3 ∧ bits .and .i64 t.n 7 = t.len) ∨ (¬ t.k = 2 ∧ ¬ t.k = 3 ∧ 0 = t.len)) := by
          by_cases hK2 : t.k = 2
          · rw [if_pos (.inl hK2)] at hl2
            exact .inl ⟨hK2, hl2.symm⟩
          · by_cases hK3 : t.k = 3
            · rw [if_pos (.inr hK3)] at hl2
              exact .inr (.inl ⟨hK3, hl2.symm⟩)
            · rw [if_neg (by simp [hK2, hK3])] at hl2
              exact .inr (.inr ⟨hK2, hK3, hl2.symm⟩)
        have HFit : Hid (∀ w3 g3, CRd w3 (some ⟨g3, 0, none⟩) 4 four → Hp w w3 q u7 L at_ → Calls Tryz.prog 57 #[.slice (some ⟨q, 0, none⟩) N N, .slice (some ⟨g3, 0, none⟩) 4 4, .int .i64 top, .int .i64 t.k, .int .i64 t.len] w3 fun e w' => e = .returned (.tuple #[.int .i64 (layS L four top t.k t.len), .int .i64 (layE L four top t.k t.len)]) ∧ Hp w w' q u7 (layL L four top t.k t.len) at_) := by
          intro w3 g3 hc3 h3
          have hl := HI.out.2.len
          simp only at hl
          have htp := HI.out.2.top
          simp only at htp
          have := rlay_doc q L _ 4 4 four top t.k t.len w3 (by omega) (by unfold In64; omega) (by unfold In64; omega) h3.doc hc3
          rw [hl] at this
          refine this.mono ?_
          rintro e w' ⟨rfl, hd, ht⟩
          exact ⟨rfl, h3.put hd ht⟩
        have hSin := layS_in L four top t.k t.len (by have := HI.out.2.top; have h2 := HI.out.2.len; simp only at this h2; omega)
        have htop := HI.out.2.top
        simp only at htop
        have hLN := HI.out.2.len
        simp only at hLN
        rw [hLN] at hSin
        have HCase : Hid ((layE L four top t.k t.len = 0 ∧ Laid N ⟨layL L four top t.k t.len, at_ ++ [top], top + layS L four top t.k t.len⟩ ∧ layAll ⟨layL L four top t.k t.len, at_ ++ [top], top + layS L four top t.k t.len⟩ (ths.drop (j + 1)) = Sf) ∨ (¬ layE L four top t.k t.len = 0 ∧ Laid N ⟨layL L four top t.k t.len, at_, top⟩ ∧ Sf = ⟨layL L four top t.k t.len, at_, top⟩)) := by
          have h2 := HB.out.2
          rw [hdrop] at h2
          by_cases hf : layE L four top t.k t.len = 0
          · rw [layAll_fits (s := ⟨L, at_, top⟩) hf] at h2
            exact .inl ⟨hf, HI.out.2.next t, h2⟩
          · rw [layAll_not (s := ⟨L, at_, top⟩) hf] at h2
            exact .inr ⟨hf, HI.out.2.stop t, h2.symm⟩
        have hatl := HB.out.1
        have HI1 := hide HI.out.1
        clear hdrop HB HI hl2 HLen HDr
        generalize layL L four top t.k t.len = LL at *
        generalize layS L four top t.k t.len = sS at *
        generalize layE L four top t.k t.len = sE at *
        generalize t.k = K at *
        generalize t.len = nn at *
        have hw2 : wrap64 (top + sS) = top + sS := wr64 _ (by omega)
        have hatm : at_.length ≤ 65536 := by omega
        have hNb := hN.2
        rcases HCase.out with ⟨hE, hLd, hAl⟩ | ⟨hE, hLd, hAl⟩
        · subst hE
          have HNx := hide (And.intro hLd hAl)
          clear hLd hAl HCase
          rcases H3.out with ⟨rfl, hb⟩ | ⟨rfl, hb⟩ | ⟨hb2, hb3, rfl⟩
          all_goals (try have hb4 : (K == 2) = false := by simpa using hb2)
          all_goals (try have hb5 : (K == 3) = false := by simpa using hb3)
          all_goals
            go_wp2_with fail
            refine (four_any _).mono ?_
            rintro e w3 ⟨g3, rfl, hc3, ht3, -⟩
            have HF3 := hide (HFit.out w3 g3 hc3.rd (HI1.out.keep ht3))
            clear hc3 ht3
            go_wp2_with fail
            refine HF3.out.mono ?_
            rintro e w4 ⟨rfl, h4⟩
            have H4 := hide h4
            have hsz4 := h4.t.size
            clear h4 HF3
            go_wp2_with (at_builtin; (refine wpList_append_own _ rfl _ _ 25 rfl w.heap.size 3 i0 _ 1 8 Tryz.underlying25 hi hz0 hz1 hz2 rfl (by decide) _ _ _ rfl (H4.out.row.alloc _) ⟨w4.heap.size, 0, none⟩ 1 1 [.int .i64 top] rfl rfl (cells_new _ _ _ _ rfl) (ints_oneCell .i64 [top]) (by unfold maxLen; omega) (by omega) (by simp; omega) ?_); intro v' w5 hown' hgrow5 hnil5; have HO5 := hide hown'; have HG5 : Hid (World.grownBy _ w5 u7.ownBlock) := hide hgrow5; clear hown' hgrow5 hnil5)
            go_roundg (len - (j + 1))
            case measure => omega
            case rel => exact ⟨j + 1, top + sS, LL, at_ ++ [top], by omega, rfl, by go_num, by go_num, ⟨H4.out.more _ HO5.out HG5.out, HNx.out.1⟩, by simp [hatl], HNx.out.2⟩
        · have HNx := hide (And.intro hLd hAl)
          clear hLd hAl HCase
          rcases H3.out with ⟨rfl, hb⟩ | ⟨rfl, hb⟩ | ⟨hb2, hb3, rfl⟩
          all_goals (try have hb4 : (K == 2) = false := by simpa using hb2)
          all_goals (try have hb5 : (K == 3) = false := by simpa using hb3)
          all_goals
            go_wp2_with fail
            refine (four_any _).mono ?_
            rintro e w3 ⟨g3, rfl, hc3, ht3, -⟩
            have HF3 := hide (HFit.out w3 g3 hc3.rd (HI1.out.keep ht3))
            clear hc3 ht3
            go_wp2_with fail
            refine HF3.out.mono ?_
            rintro e w4 ⟨rfl, h4⟩
            have H4 := hide h4
            clear h4 HF3
            go_wp2_with fail
            go_meet
            case rel => exact ⟨top, LL, at_, rfl, HNx.out.2, by omega, H4.out, HNx.out.1⟩
      · have e := HTe.out j (by omega)
        go_wp2_with fail
        go_meet
        case rel => exact ⟨top, L, at_, rfl, by have := HB.out.2; rw [e] at this; exact this.symm, by have := HB.out.1; omega, HI⟩
  case rest =>
    clear HS0 HL0 HSf HTe HQ0 hwA
    obtain ⟨top, L, at_, rfl, rfl, hal, HI⟩ := hcut
    obtain ⟨aa, ca, rfl, -⟩ := HI.out.1.at
    simp only at HRes
    obtain ⟨Lf, hLf⟩ : ∃ Lf, Lf = refsAll at_ ths 0 at_.length L := ⟨_, rfl⟩
    rw [← hLf] at HRes
    have HAt := hide HI.out.2.at_
    have HTop := hide HI.out.2.top
    have HL0 : Hid (Hp w wc q (.slice aa at_.length ca) L at_ ∧ L.length = N ∧ AllIn L ∧ refsAll at_ (ths.drop 0) 0 (at_.length - 0) L = Lf) := ⟨HI.out.1, HI.out.2.len, HI.out.2.inn, hLf.symm⟩
    clear hLf HI
    go_wp2_with fail
    go_loopg [14] at_.length (fun g i wr => ∃ (j : Nat) (L2 : List Int), j ≤ at_.length ∧ g = at_.length - j ∧ i = .int .i64 j ∧ Aside (Hp w wr q (.slice aa at_.length ca) L2 at_ ∧ L2.length = N ∧ AllIn L2 ∧ refsAll at_ (ths.drop j) j (at_.length - j) L2 = Lf))
    case atStart => exact ⟨0, L, Nat.zero_le _, rfl, rfl, HL0.out⟩
    case round =>
      clear HL0
      obtain ⟨j, L2, hj, hg, rfl, HI⟩ := hrel
      by_cases hlt : j < at_.length
      · obtain ⟨x, hx⟩ : ∃ x, at_[j]? = some x := ⟨_, List.getElem?_eq_getElem hlt⟩
        obtain ⟨t, ht, hdrop⟩ := HTl.out j (by omega)
        obtain ⟨aa', ca', hv', hat⟩ := HI.out.1.at
        injection hv' with e1 e2 e3
        subst e1 e3
        obtain ⟨ga, rfl, ca0⟩ := hat j x hx
        have hlti : (j : Int) < (at_.length : Int) := by omega
        have hgl : ga < wr.heap.size := block_lt ca0
        have hne0 : ¬ (ga = wr.heap.size) := by omega
        have hne1 : ¬ (wr.heap.size = ga) := by omega
        have hlen2 := HI.out.2.1
        have hin2 := hide HI.out.2.2.1
        obtain ⟨tn, hb1, hb2, hb3, hb4, hb5⟩ := blkAt_in L2 x (by omega)
        have HNext : Hid (refsAll at_ (ths.drop (j + 1)) (j + 1) (at_.length - (j + 1)) (setRow at_ t.refs j (refWords L2 four (blkAt L2 x)).length tn ((blkAt L2 x).s - 1).toNat 1 L2) = Lf) := by
          have h1 := HI.out.2.2.2
          rw [hdrop, show at_.length - j = (at_.length - (j + 1)) + 1 by omega] at h1
          have hgd : at_.getD j 0 = x := by rw [List.getD_eq_getElem?_getD, hx]; rfl
          have h2 : refsOne at_ L2 j t = setRow at_ t.refs j (refWords L2 four (blkAt L2 x)).length tn ((blkAt L2 x).s - 1).toNat 1 L2 := by
            unfold refsOne
            rw [hgd, hb1]
            rfl
          rw [← h2]
          exact h1
        have HRd : Hid (∀ w3 g3, Hp w w3 q (.slice (some ⟨ga, 0, none⟩) at_.length ca) L2 at_ → CRd w3 (some ⟨g3, 0, none⟩) 4 four → Calls Tryz.prog 37 #[.slice (some ⟨q, 0, none⟩) N N, .slice (some ⟨g3, 0, none⟩) 4 4, .int .i64 x] w3 fun e w' => ∃ er, e = .returned (.tuple #[.agg #[.int .i64 (blkAt L2 x).t, .int .i64 (blkAt L2 x).k, .int .i64 (blkAt L2 x).n, .int .i64 (blkAt L2 x).s], .int .i64 er]) ∧ Turned [] w3 w') := by
          intro w3 g3 h3 hc3
          have := rread_any q L2 (some ⟨g3, 0, none⟩) 4 4 x w3 (by omega) h3.doc hc3
          rw [hlen2] at this
          exact this
        have HRf : Hid (∀ w3 g3, Hp w w3 q (.slice (some ⟨ga, 0, none⟩) at_.length ca) L2 at_ → CRd w3 (some ⟨g3, 0, none⟩) 4 four → Calls Tryz.prog 58 #[.slice (some ⟨q, 0, none⟩) N N, .slice (some ⟨g3, 0, none⟩) 4 4, .agg #[.int .i64 (blkAt L2 x).t, .int .i64 (blkAt L2 x).k, .int .i64 (blkAt L2 x).n, .int .i64 (blkAt L2 x).s]] w3 fun e w' => ∃ ak ck, e = .returned (.slice ak (refWords L2 four (blkAt L2 x)).length ck) ∧ Turned [] w3 w') := by
          intro w3 g3 h3 hc3
          have := rrefs4_any (some ⟨q, 0, none⟩) N L2 (some ⟨g3, 0, none⟩) 4 4 four tn (blkAt L2 x).k (blkAt L2 x).n (blkAt L2 x).s w3 (by omega) hb2 hb5 (h3.doc.ird (by omega) hin2.out) hc3
          rw [hlen2] at this
          rw [hb1]
          refine this.mono ?_
          rintro e w' ⟨v, rfl, hown, ht⟩
          obtain ⟨-, ak, ck, rfl, -⟩ := ownsInts_any hown
          have e4 : (⟨(tn : Int), (blkAt L2 x).k, (blkAt L2 x).n, (blkAt L2 x).s⟩ : Blk) = blkAt L2 x := by rw [← hb1]
          rw [e4]
          exact ⟨ak, ck, rfl, ht⟩
        have HAw : Hid (∀ W, Turned [] wr W → Hp w W q (.slice (some ⟨ga, 0, none⟩) at_.length ca) L2 at_ ∧ W.cell? ⟨ga, j, none⟩ = some (.int .i64 x)) := fun W ht => ⟨HI.out.1.keep ht, by rw [ht.cell hgl (by simp)]; exact ca0⟩
        rw [hb1] at HRd HRf
        have HTj := hide ht
        have hR0 := refs_few4 L2 x
        generalize (refWords L2 four (blkAt L2 x)).length = R at *
        generalize (blkAt L2 x).k = bk at *
        generalize (blkAt L2 x).n = bn at *
        generalize (blkAt L2 x).s = bz at *
        clear hat hx hdrop ht hb1 hb5
        go_upto_region 18 with fail
        go_cut [15, 16] (fun pb eb wc => ∃ bb : Nat, pb = .pointer (some ⟨bb, 0, none⟩) ∧ Aside (Turned [] wr wc ∧ wr.heap.size ≤ bb ∧ wc.heap[bb]? = some (.cells #[.int .i64 tn, .int .i64 bk, .int .i64 bn, .int .i64 bz] 54)))
        case first =>
          have HZ := hide (fun W => heap_alloc_new W (.cells #[.int .i64 0, .int .i64 0, .int .i64 0, .int .i64 0] 54))
          go_region_held3 (fun w' => w'.cell? ⟨ga, j, none⟩ = some (.int .i64 x)) (go_keep)
            (first
              | (go_at_call 16; refine (four_any wr.drew).mono ?_; rintro e w3 ⟨g3, rfl, hc3, ht3, -⟩; have HC3 := hide hc3.rd; have HT3 := hide ((Turned.refl [] wr).drew.trans ht3); have ca3 := (HAw.out _ HT3.out).2; have hsz3 := HT3.out.size; have hne3 : ¬ (ga = w3.heap.size) := (by omega); have hne4 : ¬ (w3.heap.size = ga) := (by omega); clear hc3 ht3)
              | (go_at_call 16; refine (four_any (wr.drew.alloc (.cells #[.int .i64 0, .int .i64 0, .int .i64 0, .int .i64 0] 54))).mono ?_; rintro e w5 ⟨g5, rfl, hc5, ht5, -⟩; have HC5 := hide hc5.rd; have HT5 := hide (((Turned.refl [] wr).drew.alloc (.cells #[.int .i64 0, .int .i64 0, .int .i64 0, .int .i64 0] 54)).trans ht5); have ca5 := (HAw.out _ HT5.out).2; have HB5 : Hid (w5.heap[wr.heap.size]? = some (.cells #[.int .i64 0, .int .i64 0, .int .i64 0, .int .i64 0] 54)) := (by show _ = _; rw [ht5.block wr.heap.size (by simp) (by simp)]; exact HZ.out wr.drew); clear hc5 ht5)
              | (go_at_call 37; refine (HRd.out w3 g3 (HAw.out _ HT3.out).1 HC3.out).mono ?_; rintro e w4 ⟨er4, rfl, ht4⟩; have HT4 := hide (HT3.out.trans ht4); have ca4 := (HAw.out _ HT4.out).2; have hsz4 := HT4.out.size; clear ht4)
              | (go_at_call 37; refine (HRd.out (w3.alloc (.cells #[.int .i64 0, .int .i64 0, .int .i64 0, .int .i64 0] 54)) g3 (HAw.out _ (HT3.out.alloc _)).1 (HC3.out.turned ((Turned.refl [] w3).alloc _))).mono ?_; rintro e w6 ⟨er6, rfl, ht6⟩; have HT6 := hide ((HT3.out.alloc (.cells #[.int .i64 0, .int .i64 0, .int .i64 0, .int .i64 0] 54)).trans ht6); have ca6 := (HAw.out _ HT6.out).2; have hb6 : w6.heap[w3.heap.size]? = some (.cells #[.int .i64 0, .int .i64 0, .int .i64 0, .int .i64 0] 54) := (by rw [ht6.block w3.heap.size (by simp) (by simp)]; exact HZ.out w3); have c60 := cell_of_heap hb6 0; have c61 := cell_of_heap hb6 1; have c62 := cell_of_heap hb6 2; have c63 := cell_of_heap hb6 3; have f60 : w6.frozen? ⟨w3.heap.size, 0, none⟩ = false := (by simp [World.frozen?, hb6]); have f61 : w6.frozen? ⟨w3.heap.size, 1, none⟩ = false := (by simp [World.frozen?, hb6]); have f62 : w6.frozen? ⟨w3.heap.size, 2, none⟩ = false := (by simp [World.frozen?, hb6]); have f63 : w6.frozen? ⟨w3.heap.size, 3, none⟩ = false := (by simp [World.frozen?, hb6]); have HB6 := hide hb6; clear ht6 hb6)
              | (go_at_call 37; refine (HRd.out w5 g5 (HAw.out _ HT5.out).1 HC5.out).mono ?_; rintro e w7 ⟨er7, rfl, ht7⟩; have HT7 := hide (HT5.out.trans ht7); have ca7 := (HAw.out _ HT7.out).2; have hb7 : w7.heap[wr.heap.size]? = some (.cells #[.int .i64 0, .int .i64 0, .int .i64 0, .int .i64 0] 54) := (by rw [ht7.block wr.heap.size (lt_of_heap HB5.out) (by simp)]; exact HB5.out); have c70 := cell_of_heap hb7 0; have c71 := cell_of_heap hb7 1; have c72 := cell_of_heap hb7 2; have c73 := cell_of_heap hb7 3; have f70 : w7.frozen? ⟨wr.heap.size, 0, none⟩ = false := (by simp [World.frozen?, hb7]); have f71 : w7.frozen? ⟨wr.heap.size, 1, none⟩ = false := (by simp [World.frozen?, hb7]); have f72 : w7.frozen? ⟨wr.heap.size, 2, none⟩ = false := (by simp [World.frozen?, hb7]); have f73 : w7.frozen? ⟨wr.heap.size, 3, none⟩ = false := (by simp [World.frozen?, hb7]); have HB7 := hide hb7; clear ht7 hb7))
          · go_wp2_with fail
            go_meet
            case rel => exact ⟨w4.heap.size, rfl, HT4.out.alloc _, HT4.out.size, heap_alloc_new _ _⟩
          · go_wp2_with fail
            go_meet
            case rel => exact ⟨w3.heap.size, rfl, HT6.out.fourN hsz3 _ _ _ _, hsz3, four_set HB6.out _ _ _ _⟩
          · go_wp2_with fail
            go_meet
            case rel => exact ⟨wr.heap.size, rfl, HT7.out.fourN (Nat.le_refl _) _ _ _ _, Nat.le_refl _, four_set HB7.out _ _ _ _⟩
        case rest =>
          obtain ⟨bb, rfl, HA1⟩ := hcut
          obtain ⟨wb, hwb⟩ : ∃ wb, wb = wc := ⟨_, rfl⟩
          subst hwb
          have hb1 := HA1.out.2.2
          have x0 := cell_of_heap hb1 0
          have x1 := cell_of_heap hb1 1
          have x2 := cell_of_heap hb1 2
          have x3 := cell_of_heap hb1 3
          have HLc := hide (HAw.out _ HA1.out.1).1
          have hbbl := lt_of_heap hb1
          clear HAw ca0 hb1 HRd
          go_upto_region 19 with fail
          go_cut [17] (fun vk wd => vk = .int .i64 (R : Int) ∧ Aside (Turned [] wb wd))
          case first =>
            go_region_held3 (fun w' => w'.cell? ⟨bb, 0, none⟩ = some (.int .i64 tn) ∧ w'.cell? ⟨bb, 1, none⟩ = some (.int .i64 bk) ∧ w'.cell? ⟨bb, 2, none⟩ = some (.int .i64 bn) ∧ w'.cell? ⟨bb, 3, none⟩ = some (.int .i64 bz)) (go_keep)
              (first
                | (go_at_call 16; refine (four_any wb.drew).mono ?_; rintro e w6 ⟨g6, rfl, hc6, ht6, -⟩; have HC6 := hide hc6.rd; have HT6 := hide ((Turned.refl [] wb).drew.trans ht6); have z0 : w6.cell? ⟨bb, 0, none⟩ = some (.int .i64 tn) := (by rw [HT6.out.cell (block_lt x0) (by simp)]; exact x0); have z1 : w6.cell? ⟨bb, 1, none⟩ = some (.int .i64 bk) := (by rw [HT6.out.cell (block_lt x1) (by simp)]; exact x1); have z2 : w6.cell? ⟨bb, 2, none⟩ = some (.int .i64 bn) := (by rw [HT6.out.cell (block_lt x2) (by simp)]; exact x2); have z3 : w6.cell? ⟨bb, 3, none⟩ = some (.int .i64 bz) := (by rw [HT6.out.cell (block_lt x3) (by simp)]; exact x3); clear hc6 ht6)
                | (go_at_call 58; refine (HRf.out w6 g6 (HLc.out.keep HT6.out) HC6.out).mono ?_; rintro e w7 ⟨ak, ck, rfl, ht7⟩; have HT7 := hide (HT6.out.trans ht7); have u0 : w7.cell? ⟨bb, 0, none⟩ = some (.int .i64 tn) := (by rw [ht7.cell (block_lt z0) (by simp)]; exact z0); have u1 : w7.cell? ⟨bb, 1, none⟩ = some (.int .i64 bk) := (by rw [ht7.cell (block_lt z1) (by simp)]; exact z1); have u2 : w7.cell? ⟨bb, 2, none⟩ = some (.int .i64 bn) := (by rw [ht7.cell (block_lt z2) (by simp)]; exact z2); have u3 : w7.cell? ⟨bb, 3, none⟩ = some (.int .i64 bz) := (by rw [ht7.cell (block_lt z3) (by simp)]; exact z3); clear ht7))
            go_wp2_with fail
            go_meet
            case rel => exact ⟨rfl, HT7.out⟩
          case rest =>
            obtain ⟨rfl, HA2⟩ := hcut
            have HLd := hide (HLc.out.keep HA2.out)
            obtain ⟨bzn, rfl⟩ := Int.eq_ofNat_of_zero_le hb3
            have HBd : Hid (wc.heap[bb]? = some (.cells #[.int .i64 tn, .int .i64 bk, .int .i64 bn, .int .i64 bzn] 54)) := by show _ = _; rw [HA2.out.block _ hbbl (by simp)]; exact HA1.out.2.2
            have hbw : w.heap.size ≤ bb := Nat.le_trans HI.out.1.t.size HA1.out.2.1
            rw [show ((bzn : Int) - 1).toNat = bzn - 1 by omega] at HNext
            have HN1 := hide (HNext.out)
            have hin0 := hin2.out
            have HIn := hide hin0
            clear HLc HA1 HA2 x0 x1 x2 x3 hbbl HRf HI hgl hne0 hne1 HNext hin0 hin2
            go_wp2_with fail
            go_loopg [18] bzn (fun g i wr => ∃ (k : Nat) (L3 : List Int), 1 ≤ k ∧ (k ≤ bzn ∨ k = 1) ∧ bzn - k ≤ g ∧ i = .int .i64 k ∧ Aside (Hp w wr q (.slice (some ⟨ga, 0, none⟩) at_.length ca) L3 at_ ∧ L3.length = N ∧ AllIn L3) ∧ Aside (wr.heap[bb]? = some (.cells #[.int .i64 tn, .int .i64 bk, .int .i64 bn, .int .i64 bzn] 54)) ∧ Aside (refsAll at_ (ths.drop (j + 1)) (j + 1) (at_.length - (j + 1)) (setRow at_ t.refs j R tn (bzn - k) k L3) = Lf))
            case atStart => exact ⟨1, L2, Nat.le_refl _, .inr rfl, by omega, rfl, ⟨HLd.out, hlen2, HIn.out⟩, HBd.out, HN1.out⟩
            case round =>
              clear HLd HBd HN1 HIn
              rename_i wr0 _ _ _ _
              obtain ⟨k, L3, hk1, hk2, hg3, rfl, HI3, HB3, HE3⟩ := hrel
              by_cases hlt2 : k < bzn
              · have hltn : (k : Int) < (bzn : Int) := Int.ofNat_lt.2 hlt2
                have hnk := num_k hlt2 hb4 hlen2 hN.2
                have x0 : wr.cell? ⟨bb, 0, none⟩ = some (.int .i64 tn) := cell_of_heap HB3.out 0
                have x3 : wr.cell? ⟨bb, 3, none⟩ = some (.int .i64 bzn) := cell_of_heap HB3.out 3
                have hl3 := HI3.out.2.1
                obtain ⟨m, hm⟩ : ∃ m, m = tn + k := ⟨_, rfl⟩
                have hmN : m < N := hm ▸ hnk.1
                obtain ⟨old, hold⟩ : ∃ old, L3[m]? = some old := ⟨_, List.getElem?_eq_getElem (by rw [hl3]; exact hmN)⟩
                have xq := HI3.out.1.doc.word hold
                have zq := HI3.out.1.doc.fw m
                have nqb : q ≠ bb := ne_of_type HI3.out.1.doc.row HB3.out (by decide)
                have HE4 : Hid (refsAll at_ (ths.drop (j + 1)) (j + 1) (at_.length - (j + 1)) (setRow at_ t.refs j R tn (bzn - (k + 1)) (k + 1) (setK at_ t.refs j R tn L3 k)) = Lf) := by
                  have h1 := HE3.out
                  rw [num_s hlt2] at h1
                  exact h1
                have HKin : Hid (AllIn (setK at_ t.refs j R tn L3 k)) := setK_in HI3.out.2.2 (fun y hy => ⟨(HAt.out y hy).1, Int.le_trans (HAt.out y hy).2 (Int.ofNat_le.2 hN.2)⟩) (Nat.le_trans (Nat.le_of_lt (Nat.lt_of_lt_of_le hlt hal)) hths) hnk.2
                have HSto : Hid (∀ v, setK at_ t.refs j R tn L3 k = L3.set m v → Hp w (wr.setCell ⟨q, m, none⟩ (.int .i64 v)) q (.slice (some ⟨ga, 0, none⟩) at_.length ca) (setK at_ t.refs j R tn L3 k) at_ ∧ (wr.setCell ⟨q, m, none⟩ (.int .i64 v)).heap[bb]? = some (.cells #[.int .i64 tn, .int .i64 bk, .int .i64 bn, .int .i64 bzn] 54)) := fun v hv => by
                  have t1 : Turned [q] wr (wr.setCell ⟨q, m, none⟩ (.int .i64 v)) := (Turned.refl _ _).setCell (by simp) _
                  refine ⟨?_, t1.at HB3.out (by simp; exact Ne.symm nqb)⟩
                  rw [hv]
                  exact HI3.out.1.put (HI3.out.1.doc.store _ _) t1
                have HKl := hide ((setK_length at_ t.refs j R tn L3 k).trans hl3)
                have e1 := num_e hm (Nat.lt_of_lt_of_le hmN hN.2)
                have hk16 : k ≤ 65536 := hnk.2
                have hj16 : j ≤ 65536 := Nat.le_trans (Nat.le_of_lt (Nat.lt_of_lt_of_le hlt hal)) hths
                have HKB := hide (show k + 1 ≤ bzn from hlt2)
                have HJA := hide (show j + 1 ≤ at_.length from hlt)
                have HM := hide hm
                have hjlen : j < len := Nat.lt_of_lt_of_le hlt hal
                have hal0 : 0 < at_.length := Nat.lt_of_le_of_lt (Nat.zero_le _) hlt
                have hal16 : at_.length ≤ 65536 := Nat.le_trans hal hths
                clear hnk hm hold hl3 hb2 hb3 hb4 hk2 hal hg hj hlt
                by_cases hRk : R < k
                · have hRk1 : (R : Int) < (k : Int) := Int.ofNat_lt.2 hRk
                  have HV := hide (HSto.out _ (setK_own hRk HM.out))
                  have hlq : (m : Int) < (N : Int) := Int.ofNat_lt.2 hmN
                  generalize setK at_ t.refs j R tn L3 k = LK at *
                  clear HSto hRk HI3 HB3 HE3 hR0
                  go_wp2_with fail
                  go_roundg (bzn - (k + 1))
                  case measure => exact num_m HKB.out hg3
                  case rel => exact ⟨k + 1, LK, Nat.le_add_left 1 _, .inl HKB.out, Nat.le_refl _, by go_num, ⟨HV.out.1, HKl.out, HKin.out⟩, HV.out.2, HE4.out⟩
                · obtain ⟨kk, rfl⟩ : ∃ kk, k = kk + 1 := num_p hk1
                  have hRk1 : ¬ (R : Int) < ((kk + 1 : Nat) : Int) := fun h => hRk (Int.ofNat_lt.1 h)
                  obtain ⟨tb, toff, aR, cR, rfl, -, -, tc, tr⟩ := (HTh.out.turned HI3.out.1.t).cell j t HTj.out
                  have hjlz : (j : Int) < (len : Int) := Int.ofNat_lt.2 hjlen
                  have HSK := hide (setK_ref (at_ := at_) (refs := t.refs) (i := j) (t := tn) (l := L3) (m := m) hRk HM.out)
                  have HNil := hide (show setK at_ t.refs j R tn L3 (kk + 1) = L3 → Hp w wr q (.slice (some ⟨ga, 0, none⟩) at_.length ca) (setK at_ t.refs j R tn L3 (kk + 1)) at_ ∧ wr.heap[bb]? = some (.cells #[.int .i64 tn, .int .i64 bk, .int .i64 bn, .int .i64 bzn] 54) from fun e => by rw [e]; exact ⟨HI3.out.1, HB3.out⟩)
                  have TR := hide tr
                  have HAC := hide (show ∀ i y, at_[i]? = some y → wr.cell? ⟨ga, i, none⟩ = some (.int .i64 y) from fun i y hy => by
                    obtain ⟨ao', cap', hv, hc⟩ := HI3.out.1.at
                    injection hv with e1 e2 e3
                    subst e1
                    obtain ⟨g', e, h2⟩ := hc i y hy
                    cases e
                    exact h2)
                  have hroom : t.refs.length ≤ 9223372036854775807 := tr.room
                  clear tr hRk HI3 HB3 HE3 hR0 HTh
                  by_cases hin : kk < t.refs.length
                  · obtain ⟨r, hr⟩ : ∃ r, t.refs[kk]? = some r := ⟨_, List.getElem?_eq_getElem hin⟩
                    obtain ⟨rb, ro, rfl, rc⟩ := TR.out.cell kk r hr
                    have hinz : (kk : Int) < (t.refs.length : Int) := Int.ofNat_lt.2 hin
                    have hsk := HSK.out.2 r hr
                    generalize t.refs.length = rl at *
                    by_cases hpos : 0 < r
                    · have hidx : r.toNat % at_.length < at_.length := Nat.mod_lt _ hal0
                      have yc := HAC.out _ _ (getD_at hidx)
                      have HV := hide (HSto.out _ (hsk.1 hpos))
                      generalize setK at_ t.refs j R tn L3 (kk + 1) = LK at *
                      generalize at_.getD (r.toNat % at_.length) 0 = y at *
                      obtain ⟨i1, i2, i3⟩ := num_i hpos hal0
                      have e2 : wrap64 ((tn : Int) + ((kk : Int) + 1)) = (m : Int) := e1
                      have hlq : (m : Int) < (N : Int) := Int.ofNat_lt.2 hmN
                      rw [← i3] at yc
                      have hr64 : r ≤ 9223372036854775807 := (TR.out.inn r (List.mem_of_getElem? hr)).2
                      clear hsk HSK HNil HSto TR HAC i3 hidx
                      go_wp2_with fail
                      go_region
                      have HV2 := hide (And.intro (HV.out.1.keep (Turned.refl [] _).drew) HV.out.2)
                      clear HV tc rc yc xq zq
                      go_wp2_with fail
                      go_roundg (bzn - (kk + 1 + 1))
                      case measure => exact num_m HKB.out hg3
                      case rel => exact ⟨kk + 1 + 1, LK, Nat.le_add_left 1 _, .inl HKB.out, Nat.le_refl _, by go_num, ⟨HV2.out.1, HKl.out, HKin.out⟩, HV2.out.2, HE4.out⟩
                    · have HV := hide (HNil.out (hsk.2 hpos))
                      generalize setK at_ t.refs j R tn L3 (kk + 1) = LK at *
                      clear hsk HSK HNil HSto TR HAC
                      go_wp2_with fail
                      go_roundg (bzn - (kk + 1 + 1))
                      case measure => exact num_m HKB.out hg3
                      case rel => exact ⟨kk + 1 + 1, LK, Nat.le_add_left 1 _, .inl HKB.out, Nat.le_refl _, by go_num, ⟨HV.out.1, HKl.out, HKin.out⟩, HV.out.2, HE4.out⟩
                  · have hinz : ¬ (kk : Int) < (t.refs.length : Int) := fun h => hin (Int.ofNat_lt.1 h)
                    have HV := hide (HNil.out (HSK.out.1 (List.getElem?_eq_none (Nat.le_of_not_lt hin))))
                    generalize setK at_ t.refs j R tn L3 (kk + 1) = LK at *
                    generalize t.refs.length = rl at *
                    clear HSK HNil HSto TR HAC
                    go_wp2_with fail
                    go_roundg (bzn - (kk + 1 + 1))
                    case measure => exact num_m HKB.out hg3
                    case rel => exact ⟨kk + 1 + 1, LK, Nat.le_add_left 1 _, .inl HKB.out, Nat.le_refl _, by go_num, ⟨HV.out.1, HKl.out, HKin.out⟩, HV.out.2, HE4.out⟩
              · have hltn : ¬ (k : Int) < (bzn : Int) := by omega
                have x3 : wr.cell? ⟨bb, 3, none⟩ = some (.int .i64 bzn) := cell_of_heap HB3.out 3
                have h1 := HE3.out
                rw [show bzn - k = 0 by omega] at h1
                have HF := hide h1
                clear h1 HE3
                go_wp2_with fail
                go_roundg (at_.length - (j + 1))
                case measure => omega
                case rel => exact ⟨j + 1, L3, by omega, rfl, by go_num, HI3.out.1, HI3.out.2.1, HI3.out.2.2, HF.out⟩
      · have hja : at_.length - j = 0 := by omega
        have hlti : ¬ (j : Int) < (at_.length : Int) := by omega
        have hLf : L2 = Lf := by
          have h1 := HI.out.2.2.2
          rw [hja] at h1
          exact (refsAll_zero _ _ _ _).symm.trans h1
        have hl2 := HI.out.2.1
        have HF : Hid (Calls Tryz.prog 59 #[.slice (some ⟨q, 0, none⟩) N N, .int .i64 top, .int .i64 (N : Int)] wr fun e w' => ∃ er, e = .returned (.int .i64 er) ∧ Hp w w' q (.slice aa at_.length ca) (fillL Lf top N) at_) := by
          have h1 := rfill_doc q L2 top N wr (by omega) HI.out.1.doc
          rw [hl2] at h1
          refine h1.mono ?_
          rintro e w' ⟨rfl, hd, ht⟩
          exact ⟨_, rfl, hLf ▸ HI.out.1.put hd ht⟩
        clear HI hja hl2 hLf hg hj
        go_wp2_with fail
        refine HF.out.mono ?_
        rintro e w9 ⟨er, rfl, h9⟩
        have H9 := hide h9
        clear h9 HF
        go_wp2_with fail
        go_ret2
        exact ⟨q, _, rfl, by rw [HRes.out]; exact H9.out⟩
end Go.Proofs.YtgbclfhgpkmcnaaGreatDoor

/-
  What statements over things share: the heap's words are as many as asked and may be; the roots by raw numbers.
-/
namespace Go.Proofs.YtgbclfhgpkmcnaaGreatDoor
open Go.RowKit
set_option linter.unusedVariables false
set_option linter.unusedSimpArgs false

theorem setRow_length (at_ refs : List Int) (i R t : Nat) : ∀ (m k : Nat) (l : List Int), (setRow at_ refs i R t m k l).length = l.length
  | 0, _, l => rfl
  | m + 1, k, l => by rw [setRow, setRow_length at_ refs i R t m, setK_length]
theorem setRow_in {at_ refs : List Int} {i R t : Nat} (ha : ∀ x, x ∈ at_ → 0 ≤ x ∧ x ≤ 65536) (hi : i ≤ 65536) : ∀ (m k : Nat) (l : List Int), AllIn l → k + m ≤ 65537 → AllIn (setRow at_ refs i R t m k l)
  | 0, _, l, h, _ => h
  | m + 1, k, l, h, hk => by rw [setRow]; exact setRow_in ha hi m (k + 1) _ (setK_in h ha hi (by omega)) (by omega)
theorem refsAll_length (at_ : List Int) : ∀ (ts : List Th) (i m : Nat) (l : List Int), (refsAll at_ ts i m l).length = l.length
  | [], _, 0, l => rfl
  | [], _, _ + 1, l => rfl
  | _ :: _, _, 0, l => rfl
  | t :: ts, i, m + 1, l => by rw [refsAll, refsAll_length at_ ts]; unfold refsOne; rw [setRow_length]
theorem refsAll_in {at_ : List Int} (ha : ∀ x, x ∈ at_ → 0 ≤ x ∧ x ≤ 65536) : ∀ (ts : List Th) (i m : Nat) (l : List Int), AllIn l → 0 < l.length → l.length ≤ 65536 → i + ts.length ≤ 65536 → AllIn (refsAll at_ ts i m l)
  | [], _, 0, l, h, _, _, _ => h
  | [], _, _ + 1, l, h, _, _, _ => h
  | _ :: _, _, 0, l, h, _, _, _ => h
  | t :: ts, i, m + 1, l, h, h0, h1, h2 => by
    rw [refsAll]
    have hl : (refsOne at_ l i t).length = l.length := by unfold refsOne; rw [setRow_length]
    simp at h2
    refine refsAll_in ha ts (i + 1) m _ ?_ (by rw [hl]; exact h0) (by rw [hl]; exact h1) (by omega)
    unfold refsOne
    obtain ⟨tn, b1, b2, b3, b4, b5⟩ := blkAt_in l (at_.getD i 0) h0
    exact setRow_in ha (by omega) _ _ _ h (by omega)
theorem layAll_laid {N : Nat} : ∀ (ts : List Th) (s : Lay), Laid N s → Laid N (layAll s ts)
  | [], s, h => h
  | t :: ts, s, h => by
    rw [layAll]
    split
    · exact layAll_laid ts _ (h.next t)
    · exact h.stop t
theorem lay_start (N : Nat) (hN : 1 ≤ N) : Laid N ⟨List.replicate N 0, [], 1⟩ :=
  ⟨by simp, fun x hx => by rw [List.eq_of_mem_replicate hx]; unfold In64; omega, ⟨by simp, by simp; omega⟩, fun x hx => by simp at hx⟩
theorem heap_laid (ths : List Th) (N : Nat) (hN : 1 ≤ N) : Laid N (layAll ⟨List.replicate N 0, [], 1⟩ ths) := layAll_laid ths _ (lay_start N hN)
theorem heapOf_len (ths : List Th) (N : Nat) (hN : 1 ≤ N) : (heapOf ths N).1.length = N := by
  have h := heap_laid ths N hN
  unfold heapOf
  simp only
  rw [fillL_length, refsAll_length, h.len]
theorem heapOf_in (ths : List Th) (N : Nat) (hN : 1 ≤ N) (h6 : N ≤ 65536) (ht : ths.length ≤ 65536) : AllIn (heapOf ths N).1 := by
  have h := heap_laid ths N hN
  unfold heapOf
  simp only
  refine AllIn.fill ?_ _ _
  refine refsAll_in (fun x hx => ?_) ths 0 _ _ h.inn (by rw [h.len]; omega) (by rw [h.len]; exact h6) (by omega)
  have := h.at_ x hx
  omega
theorem heapOf_at (ths : List Th) (N : Nat) (hN : 1 ≤ N) : ∀ x, x ∈ (heapOf ths N).2 → 0 ≤ x ∧ x ≤ N := (heap_laid ths N hN).at_

theorem layAll_few : ∀ (ts : List Th) (s : Lay), (layAll s ts).at_.length ≤ s.at_.length + ts.length
  | [], s => by simp [layAll]
  | t :: ts, s => by
    rw [layAll]
    split
    · have := layAll_few ts (s.next t)
      simp [Lay.next] at this ⊢
      omega
    · simp [Lay.stop]
theorem heapOf_few (ths : List Th) (N : Nat) : (heapOf ths N).2.length ≤ ths.length := by
  have := layAll_few ths ⟨List.replicate N 0, [], 1⟩
  unfold heapOf
  simp at this ⊢
  exact this

/-- The root that a raw number speaks of. -/
def rootOf (at_ : List Int) (r : Int) : Int := if 0 < r then at_.getD (r.toNat % at_.length) 0 else 0
theorem rootOf_in {at_ : List Int} {N : Nat} (ha : ∀ x, x ∈ at_ → 0 ≤ x ∧ x ≤ N) (r : Int) : 0 ≤ rootOf at_ r ∧ rootOf at_ r ≤ N := by
  unfold rootOf
  split
  · rw [List.getD_eq_getElem?_getD]
    cases h : at_[r.toNat % at_.length]? with
    | none => simp
    | some x => exact ha x (List.mem_of_getElem? h)
  · omega
theorem addr_add0M (b j : Nat) : (⟨b, 0, none⟩ : Addr).add j = ⟨b, j, none⟩ := by
  cases j with
  | zero => simp [Addr.add]
  | succ j => simp [Addr.add]

set_option maxRecDepth 100000 in
set_option maxHeartbeats 4000000 in
theorem roots11 (ao : Option Addr) (acap : Nat) (at_ : List Int) (bo : Option Addr) (bcap : Nat) (ls : List Int) (w : World)
    (ha : ∀ (i : Nat) (x : Int), at_[i]? = some x → ∃ g, ao = some ⟨g, 0, none⟩ ∧ w.cell? ⟨g, i, none⟩ = some (.int .i64 x)) (hal : at_.length ≤ 65536) (hl : IRd w bo ls.length ls) (hll : ls.length ≤ 65536) :
    Calls Tryz.prog 13 #[.slice ao at_.length acap, .slice bo ls.length bcap] w fun e w' => ∃ v, e = .returned v ∧ w'.ownsRow w.heap.size 2 1 v ls.length ((ls.map (rootOf at_)).map (Value.int .i64)) ∧ Turned [] w w' := by
  obtain ⟨i0, hi, hi0⟩ := Option.map_eq_some_iff.1 Tryz.infoI64
  simp only [Prod.mk.injEq] at hi0
  obtain ⟨hz0, hz1, hz2⟩ := hi0
  have HI := hide (And.intro hi (And.intro hz0 (And.intro hz1 hz2)))
  clear hi hz0 hz1 hz2
  have HA := hide ha
  have HL := hide hl
  obtain ⟨B, hB⟩ : ∃ B, B = w.heap.size := ⟨_, rfl⟩
  have HB := hide (show B ≤ w.heap.size by omega)
  have HBw := hide (show w.heap.size ≤ B by omega)
  rw [← hB]
  obtain ⟨m, hm⟩ : ∃ m, m = at_.length := ⟨_, rfl⟩
  obtain ⟨n, hn⟩ : ∃ n, n = ls.length := ⟨_, rfl⟩
  rw [← hm, ← hn]
  rw [← hm] at hal
  rw [← hn] at hll
  have HM := hide hm
  have HN := hide hn
  clear ha hl hB hm hn
  have HO0 : Hid (w.ownsRow B 2 1 (.slice none 0 0) 0 (((ls.take 0).map (rootOf at_)).map (Value.int .i64))) := hide ⟨by simp, .inl ⟨rfl, rfl⟩⟩
  have HT0 := hide (Turned.refl [] w)
  go_enter Tryz.func13, Tryz.ntmps13
  go_wp2_with fail
  go_loopg [5, 6] 70000 (fun gg s5 s6 wr => ∃ (i : Nat) (v : Value), v = s5 ∧ s6 = .int .i64 (i : Int) ∧ i ≤ n ∧ n - i ≤ gg ∧ Aside (wr.ownsRow B 2 1 v i (((ls.take i).map (rootOf at_)).map (Value.int .i64))) ∧ Aside (Turned [] w wr) ∧ Aside (B ≤ wr.heap.size))
  case atStart => exact ⟨0, _, rfl, rfl, by omega, by omega, HO0.out, HT0.out, HB.out⟩
  case round =>
    obtain ⟨i, v, rfl, rfl, hin, hgi, hown, htu, hbw⟩ := hrel
    have HO := hide hown.out
    have HT := hide htu.out
    have HB1 := hide hbw.out
    clear hown htu hbw HO0 HT0 HB
    by_cases hlt : i < n
    · have hlti : (i : Int) < n := by omega
      obtain ⟨r, hr⟩ : ∃ r, ls[i]? = some r := ⟨_, List.getElem?_eq_getElem (by have := HN.out; omega)⟩
      obtain ⟨lb, loff, hbo, cr⟩ := (HL.out.turned HT.out).cell i r hr
      subst hbo
      have hr64 := HL.out.inn r (List.mem_of_getElem? hr)
      unfold In64 at hr64
      have HRt : Hid (ls.take (i + 1) = ls.take i ++ [r]) := hide (by rw [List.take_add_one, hr]; rfl)
      obtain ⟨ws, hws⟩ : ∃ ws, ws = wr := ⟨_, rfl⟩
      subst hws
      have HRz : Hid (0 < r → ¬ 0 < m → rootOf at_ r = 0) := hide (fun hp hm0 => by unfold rootOf; rw [if_pos hp, List.getD_eq_getElem?_getD, List.getElem?_eq_none (by have := HM.out; omega)]; rfl)
      have HRn : Hid (¬ 0 < r → rootOf at_ r = 0) := hide (fun hp => by unfold rootOf; rw [if_neg hp])
      go_upto_region 6 with fail
      go_cut [23] (fun s23 wc => ∃ b : Bool, s23 = .bool b ∧ Aside (b = decide (0 < r ∧ 0 < m)) ∧ Aside (wc = ws))
      case first =>
        by_cases hp : 0 < r
        · by_cases hm0 : 0 < m
          · have hm0i : (0 : Int) < m := by omega
            go_wp2_with fail
            go_meet
            case rel => exact ⟨true, rfl, (decide_eq_true ⟨hp, hm0⟩).symm, rfl⟩
          · have hm0i : ¬ (0 : Int) < m := by omega
            go_wp2_with fail
            go_meet
            case rel => exact ⟨false, rfl, (decide_eq_false (fun h => by have := h.2; omega)).symm, rfl⟩
        · go_wp2_with fail
          go_meet
          case rel => exact ⟨false, rfl, (decide_eq_false (fun h => by have := h.1; omega)).symm, rfl⟩
      case rest =>
        obtain ⟨bb, rfl, hbb, hwc⟩ := hcut
        have hwc' := hwc.out
        subst hwc'
        clear hwc
        obtain ⟨ws, hws⟩ : ∃ ws, ws = wc := ⟨_, rfl⟩
        subst hws
        go_upto_if 23 with fail
        go_cut [7] (fun s7 wc => s7 = .int .i64 (rootOf at_ r) ∧ Aside (wc = ws))
        case first =>
          cases bb
          · have HX : Hid (rootOf at_ r = 0) := hide (by
              have h1 := of_decide_eq_false hbb.out.symm
              by_cases hp : 0 < r
              · exact HRz.out hp (fun h => h1 ⟨hp, h⟩)
              · exact HRn.out hp)
            clear hbb
            go_wp2_with fail
            go_meet
            case rel => exact ⟨by rw [HX.out], rfl⟩
          · obtain ⟨hp, hm0⟩ := of_decide_eq_true hbb.out.symm
            have hm0i : (0 : Int) < m := by omega
            have hmz : ¬ (m : Int) = 0 := by omega
            obtain ⟨k, hk⟩ : ∃ k, k = r.toNat % m := ⟨_, rfl⟩
            have hkm : k < m := by rw [hk]; exact Nat.mod_lt _ hm0
            obtain ⟨x, hx⟩ : ∃ x, at_[k]? = some x := ⟨_, List.getElem?_eq_getElem (by have := HM.out; omega)⟩
            obtain ⟨g, hao, cx⟩ := HA.out k x hx
            subst hao
            have cx2 : ws.cell? ⟨g, k, none⟩ = some (.int .i64 x) := by rw [HT.out.cell (block_lt cx) (by simp)]; exact cx
            have HX : Hid (rootOf at_ r = x) := hide (by unfold rootOf; rw [if_pos hp, List.getD_eq_getElem?_getD, ← HM.out, ← hk, hx]; rfl)
            have hmod : r.tmod (m : Int) = (k : Int) := by
              rw [hk]
              have h1 : r = ((r.toNat : Nat) : Int) := by omega
              rw [h1, Int.toNat_natCast]
              exact (Int.ofNat_tmod _ _).symm
            have hki : (k : Int) < m := by omega
            clear hk hx cx hbb
            go_wp2_with fail
            go_meet
            case rel => exact ⟨by rw [HX.out], rfl⟩
        case rest =>
          obtain ⟨rfl, hwc⟩ := hcut
          have hwc' := hwc.out
          subst hwc'
          clear hwc cr hr64 hbb HRz HRn
          obtain ⟨ws, hws⟩ : ∃ ws, ws = wc := ⟨_, rfl⟩
          subst hws
          have HRm : Hid (((ls.take (i + 1)).map (rootOf at_)).map (Value.int .i64) = ((ls.take i).map (rootOf at_)).map (Value.int .i64) ++ [.int .i64 (rootOf at_ r)]) := hide (by rw [HRt.out]; simp)
          generalize rootOf at_ r = y at *
          have hbs : ∀ w : World, (Instr.buildSlice 30 1 #[(0, .int .i64 y)]).run Tryz.prog w = .ok (.slice (some ⟨w.heap.size, 0, none⟩) 1 1) (w.alloc (.cells #[.int .i64 y] 2)) := fun w => by kernel_rfl
          have hU : Turned [] ws (ws.alloc (.cells #[.int .i64 y] 2)) := (Turned.refl [] ws).alloc _
          have HO9 : Hid ((ws.alloc (.cells #[.int .i64 y] 2)).ownsRow B 2 1 v i (((ls.take i).map (rootOf at_)).map (Value.int .i64))) := hide (ownsRow_keep HO.out (fun k hk => hU.block k (ownsRow_lt HO.out k hk).2.1 (by simp)))
          have HT9 := hide (HT.out.trans hU)
          have HB11 := hide (Nat.le_trans HB1.out hU.size)
          have HNw : Hid (∀ j u, [Value.int .i64 y][j]? = some u → (ws.alloc (.cells #[.int .i64 y] 2)).cell? ((⟨ws.heap.size, 0, none⟩ : Addr).add j) = some u) := hide (fun j u hu => by
            rw [addr_add0M, cell_of_heap (heap_alloc_new _ _)]
            match j, hu with
            | 0, hu => simpa using hu
            | j + 1, hu => simp at hu)
          clear hU HO HT HB1
          go_wp2_with (at_builtin; refine wpList_append_own _ rfl _ _ 30 rfl B 2 i0 (.int .i64 0) 1 8 Tryz.underlying30 HI.out.1 HI.out.2.1 HI.out.2.2.1 HI.out.2.2.2 rfl (by decide) v i _ rfl HO9.out ⟨ws.heap.size, 0, none⟩ 1 1 [.int .i64 y] rfl rfl HNw.out (by intro u hu; simp at hu; subst hu; rfl) (by unfold maxLen; omega) (by omega) HB11.out ?_; intro v10 w10 hown hgr hvv)
          have HO10 : Hid (w10.ownsRow B 2 1 v10 (i + 1) (((ls.take (i + 1)).map (rootOf at_)).map (Value.int .i64))) := hide (by rw [HRm.out]; exact hown)
          have HT10 := hide (HT9.out.grown hgr (fun k hk => .inr (by have := (ownsRow_lt HO9.out k hk).1; have := HBw.out; omega)))
          have HB12 := hide (Nat.le_trans HB11.out hgr.size)
          clear hown hgr hvv HO9 HT9 HB11 HNw hbs
          go_wp2_with fail
          go_roundg (n - (i + 1))
          case measure => omega
          case rel => exact ⟨i + 1, _, rfl, by go_num, by omega, Nat.le_refl _, HO10.out, HT10.out, HB12.out⟩
    · have hlti : ¬ (i : Int) < n := by omega
      have hie : i = n := by omega
      have HE : Hid (wr.ownsRow B 2 1 v n ((ls.map (rootOf at_)).map (Value.int .i64))) := hide (by have h1 := HO.out; rw [hie, HN.out, List.take_length] at h1; rw [HN.out]; exact h1)
      clear hie HO
      go_wp2_with fail
      go_ret
      refine ⟨v, rfl, ?_, HT.out⟩
      have h1 := HE.out
      rw [List.map_map] at h1
      exact h1

end Go.Proofs.YtgbclfhgpkmcnaaGreatDoor

/-
  'heap' of the statements of layer 11: a memory whose words are heapOf's.
-/
namespace Go.Proofs.YtgbclfhgpkmcnaaGreatDoor
open Go.RowKit
set_option linter.unusedVariables false

theorem over_all (l m : List Int) (h : m.length = l.length) : over l 0 m = m := by
  unfold over
  simp [h]

set_option maxRecDepth 100000 in
theorem lheap_any (ao : Option Addr) (cap N : Nat) (ths : List Th) (w : World) (h : ThR w ao ths) (hN : 1 ≤ N ∧ N ≤ 65536) (hths : ths.length ≤ 65536) (hlen : (heapOf ths N).1.length = N) :
    Calls Tryz.prog 10 #[.slice ao ths.length cap, .int .i64 N] w fun e w' => ∃ p q d v, e = .returned (.tuple #[.pointer (some ⟨p, 0, none⟩), .slice (some ⟨d, 0, none⟩) N N, v]) ∧ Mem w' p q (heapOf ths N).1 0 ∧ Hp w w' d v (heapOf ths N).1 (heapOf ths N).2 ∧ w.heap.size ≤ p ∧ w.heap.size ≤ q ∧ d < p ∧ d < q := by
  have HH := hide (heap11_any ao cap N ths w h hN hths)
  have HL := hide hlen
  generalize (heapOf ths N).1 = L at *
  generalize (heapOf ths N).2 = at_ at *
  generalize ths.length = len at *
  clear h hlen
  have hNz : (min (max (N : Int) 0) 65536).toNat = N := by omega
  go_enter Tryz.func10, Tryz.ntmps10
  go_wp2_with fail
  refine HH.out.mono ?_
  rintro e w1 ⟨d, v, rfl, h1⟩
  have H1 := hide h1
  have hz1 := h1.t.size
  have HC := hide (new_any (N : Int) w1)
  rw [hNz] at HC
  clear h1 HH
  go_wp2_with fail
  refine HC.out.mono ?_
  rintro e w2 ⟨rfl, hM, t2, -⟩
  have H2 := hide (H1.out.keep t2)
  have HP : Hid (Calls Tryz.prog 32 #[.pointer (some ⟨w1.heap.size + 1, 0, none⟩), .int .i64 0, .slice (some ⟨d, 0, none⟩) N N] w2 fun e w' => e = .returned (.int .i64 0) ∧ Mem w' (w1.heap.size + 1) w1.heap.size L 0 ∧ Turned [w1.heap.size + 1, w1.heap.size] w2 w') := by
    have h3 := put_in (w1.heap.size + 1) w1.heap.size (List.replicate N 0) 0 0 d 0 N L w2 (by simp; exact hN.2) (by simp [HL.out]) (by rw [HL.out]; omega) hM (fun j x hx => by rw [Nat.zero_add]; exact H2.out.doc.word hx)
    rw [over_all _ _ (by simp [HL.out]), HL.out] at h3
    exact h3
  have hd : d < w1.heap.size := H1.out.doc.ltq
  clear hM t2 HC
  go_wp2_with fail
  refine HP.out.mono ?_
  rintro e w3 ⟨rfl, h3, t3⟩
  have M3 := hide h3
  have H3 := hide (show Hp w w3 d v L at_ from by
    refine ⟨H2.out.doc.turned t3 (by simp; omega), ownsRow_keep H2.out.row (fun i hi => t3.block i (ownsRow_lt H2.out.row i hi).2.1 ?_), H2.out.lo, H2.out.t.trans_new t3 (fun i hi => by simp at hi; right; omega)⟩
    have := (ownsRow_lt H1.out.row i hi).2.1
    simp
    omega)
  clear h3 t3 HP
  go_wp2_with fail
  go_ret3
  exact ⟨_, _, d, v, rfl, M3.out, H3.out, by omega, by omega, by omega, by omega⟩
end Go.Proofs.YtgbclfhgpkmcnaaGreatDoor

/-
  What follow tells.
-/
import Derived.Test.YthigmechfcndcaaBlocksFlw
import Derived.Deep.LoopGhost
namespace Go.Proofs.Ythigmechfcndcaa
open Go.RowKit Go.Maps
set_option linter.unusedVariables false

theorem ownsRow_last {w : World} {B : Nat} {v : Value} {A : List Blk} {b : Blk} (h : w.ownsRow B 38 4 v (A ++ [b]).length (flat (A ++ [b]))) :
    ∃ g cap, v = .slice (some ⟨g, 0, none⟩) (A.length + 1) cap ∧ A.length + 1 ≤ cap ∧ cap ≤ maxLen ∧ w.cell? ⟨g, A.length * 4, none⟩ = some (.int .i64 b.t) ∧ w.cell? ⟨g, A.length * 4 + 1, none⟩ = some (.int .i64 b.k) ∧ w.cell? ⟨g, A.length * 4 + 2, none⟩ = some (.int .i64 b.n) ∧ w.cell? ⟨g, A.length * 4 + 3, none⟩ = some (.int .i64 b.s) ∧ w.ownsRow B 38 4 (.slice (some ⟨g, 0, none⟩) A.length cap) A.length (flat A) := by
  have hlen : (A ++ [b]).length = A.length + 1 := by simp
  rcases h.2 with ⟨hv, h0⟩ | ⟨g, cap, cur, hv, hg, hh, hc, hm, hz, ht⟩
  · rw [hlen] at h0; omega
  · rw [hlen] at hv hc ht
    have hb : (A ++ [b])[A.length]? = some b := by simp
    have h1 : ∀ j, j < 4 → w.cell? ⟨g, A.length * 4 + j, none⟩ = b.cells[j]? := fun j hj => by
      rw [cell_of_heap hh, ← flat_get _ _ b j hb hj, ← ht, List.getElem?_take_of_lt (by omega), Array.getElem?_toList]
    refine ⟨g, cap, hv, hc, hm, h1 0 (by omega), h1 1 (by omega), h1 2 (by omega), h1 3 (by omega), flat_length A, .inr ⟨g, cap, cur, rfl, hg, hh, by omega, hm, hz, ?_⟩⟩
    have h2 : (flat (A ++ [b])).take (A.length * 4) = flat A := by
      rw [flat_snoc, List.take_left' (flat_length A)]
    rw [← h2, ← ht, List.take_take]
    congr 1
    omega
/-- The last one of what is ahead is taken away. -/
theorem FlwInv.pop {B c1 c2 c3 mo mr no : Nat} {f : Int → Option Blk} {D : List Int} {k : Nat} {R : List Int} {A : List Blk} {b : Blk} {O : List Nat} {w w' : World} {v v2 : Value} (h : FlwInv B c1 c2 c3 mo mr no f D k (R, A ++ [b]) O w) (hv : w.heap[c3]? = some (.cells #[v] 45 (0, 0))) (ht : Turned [] w w') (hown : w.ownsRow B 38 4 v2 A.length (flat A)) (hb : v2.ownBlock = v.ownBlock) :
    FlwInv B c1 c2 c3 mo mr no f D k (R, A) O (w'.setCell ⟨c3, 0, none⟩ v2) ∧ Turned O w (w'.setCell ⟨c3, 0, none⟩ v2) := by
  have h2 := h.keep ht
  have hv2 : w'.heap[c3]? = some (.cells #[v] 45 (0, 0)) := by rw [ht.block _ (lt_of_heap hv) (by simp)]; exact hv
  have hset : ∀ {i : Nat}, i ≠ c3 → (w'.setCell ⟨c3, 0, none⟩ v2).heap[i]? = w'.heap[i]? := fun {i} hi => Below.heap_setCell _ _ _ _ hi
  obtain ⟨es, cl, hes⟩ := h2.sm.isMap
  obtain ⟨fs, dl, hfs⟩ := h2.om.isMap
  have q1 := h2.v1
  have q2 := h2.v2
  have n1 : c1 ≠ c3 := fun e => by subst e; rw [hv2] at q1; simp at q1
  have n2 : c2 ≠ c3 := fun e => by subst e; rw [hv2] at q2; simp at q2
  have ns : mr ≠ c3 := fun e => by subst e; rw [hv2] at hes; cases hes
  have nm : mo ≠ c3 := fun e => by subst e; rw [hv2] at hfs; cases hfs
  obtain ⟨v3, hv3, hown3, hO⟩ := h.row
  have e3 : v3 = v := by rw [hv] at hv3; injection hv3 with hv3; injection hv3 with hv3; simpa using hv3.symm
  subst e3
  refine ⟨⟨h.b1, by rw [hset n1]; exact q1, by rw [hset n2]; exact q2, h2.om.block (hset nm), h2.sm.block (hset ns), ⟨v2, one_setCell hv2, ?_, by rw [hb]; exact hO⟩, h.nodup, h.dom, ?_, h.all, h.room⟩, ?_⟩
  · refine ownsRow_setCell_other (ownsRow_keep hown (fun i hi => ht.block i (hown.lt i hi).2 (by simp))) (fun e => ?_) _
    obtain ⟨_, _, c, hc⟩ := ownsRow_lt hown c3 e
    rw [hv] at hc
    simp at hc
  · have := h.few
    simp at this
    simp
    omega
  · exact (ht.mono (by simp)).setCell (.inl (by rw [hO]; simp)) _

/-- What follow tells: that something is lost; or a map of just what is reached. -/
def Follows (f : Int → Option Blk) (g : Blk → List Int) (rs : List Int) (w : World) (e : Ending) (w' : World) : Prop :=
  Turned [] w w' ∧ ((e = .returned (.tuple #[.map none, .bool false]) ∧ Lost f g rs) ∨ ∃ mr R, e = .returned (.tuple #[.map (some mr), .bool true]) ∧ SMap w' mr R.length R ∧ (∀ x, x ∈ R ↔ Rch f g rs x) ∧ ¬ Lost f g rs)

set_option maxRecDepth 100000 in
theorem follow_any (v : Value) (l : List Int) (ao : Option Addr) (len cap : Nat) (cs : List Cls) (mo no : Nat) (f : Int → Option Blk) (D : List Int) (ro : Option Addr) (rn rcap : Nat) (rs : List Int) (w : World)
    (hl : l.length ≤ 65536) (hl64 : ∀ x, x ∈ l → In64 x) (hv : AnyMem w v l) (hc : CRd w ao len cs) (hm : OMap w mo no f) (hr : IRd w ro rn rs) (hD : ∀ x, f x ≠ none → x ∈ D) (hroom : D.length ≤ 65536) (hf : ∀ x b, f x = some b → (0 ≤ b.t ∧ b.t ≤ 65536) ∧ In64 b.n) :
    Calls Try.prog 35 #[v, .slice ao len cap, .map (some mo), .slice ro rn rcap] w (Follows f (refWords l cs) rs w) := by
  obtain ⟨w0, hw0⟩ : ∃ w0, w0 = (((w.alloc (.cells #[.map (some mo)] 84)).alloc (.map #[] 0)).alloc (.cells #[.map (some (w.heap.size + 1))] 81)).alloc (.cells #[.slice none 0 0] 45) := ⟨_, rfl⟩
  have ht0 : Turned [] w w0 := by rw [hw0]; exact ((((Turned.refl [] w).alloc _).alloc _).alloc _).alloc _
  have hI : FlwInv w.heap.size w.heap.size (w.heap.size + 2) (w.heap.size + 3) mo (w.heap.size + 1) no f D 0 ([], []) [w.heap.size + 1, w.heap.size + 3] w0 := by
    have s1 : w.heap.size + 1 = (w.alloc (.cells #[.map (some mo)] 84)).heap.size := by simp
    have s2 : w.heap.size + 2 = ((w.alloc (.cells #[.map (some mo)] 84)).alloc (.map #[] 0)).heap.size := by simp
    have s3 : w.heap.size + 3 = (((w.alloc (.cells #[.map (some mo)] 84)).alloc (.map #[] 0)).alloc (.cells #[.map (some (w.heap.size + 1))] 81)).heap.size := by simp
    have b1 : w0.heap[w.heap.size]? = some (.cells #[.map (some mo)] 84 (0, 0)) := by
      rw [hw0, Below.heap_alloc _ _ _ (by simp; omega), Below.heap_alloc _ _ _ (by simp; omega), Below.heap_alloc _ _ _ (by simp)]; exact heap_alloc_new _ _
    have b2 : w0.heap[w.heap.size + 2]? = some (.cells #[.map (some (w.heap.size + 1))] 81 (0, 0)) := by
      rw [hw0, Below.heap_alloc _ _ _ (by simp), s2]; exact heap_alloc_new _ _
    have b3 : w0.heap[w.heap.size + 3]? = some (.cells #[.slice none 0 0] 45 (0, 0)) := by
      rw [hw0, s3]; exact heap_alloc_new _ _
    have b4 : SMap w0 (w.heap.size + 1) 0 [] := by
      rw [s1]
      refine (smap_made _).block ?_
      rw [hw0, Below.heap_alloc _ _ _ (by simp), Below.heap_alloc _ _ _ (by simp)]
    have hlt := hm.lt
    exact ⟨⟨by omega, by omega, by omega⟩, b1, b2, hm.block (ht0.block _ hm.lt (by simp)), b4, ⟨_, b3, World.ownsRow_nil _ _ _ _, rfl⟩, List.nodup_nil, fun x hx => (by cases hx), Nat.le_refl _, hD, hroom⟩
  have HI := hide hI
  have HT0 := hide ht0
  have HV := hide (fun w' (ht : Turned [] w w') => And.intro (hv.turned ht) (hc.turned ht))
  have HR := hide hr
  have hrn := hr.room
  have HF := hide hf
  have HL := hide hl64
  have hmm := @run_makeMap Try.prog
  have hmf : ∀ (fn : Fn) (first cap : Array Value) (w : World), (Instr.makeFunc fn first cap).run Try.prog w = .ok (.func fn first cap) w := fun _ _ _ _ => rfl
  have HFn := hide (fnd_nil f (refWords l cs) rs)
  obtain ⟨Q, hQ⟩ : ∃ Q, Q = Follows f (refWords l cs) rs w := ⟨_, rfl⟩
  rw [← hQ]
  have HQ := hide hQ
  clear hI ht0 hv hc hm hr hf hl64 hQ
  go_enter Try.func35, Try.ntmps35
  go_wp2_with fail
  rw [← hw0]
  clear hw0
  go_loopw [21] (fun i wr => ∃ (j : Nat) (s : List Int × List Blk) (O : List Nat), j ≤ rn ∧ i = .int .i64 j ∧ Hid (FlwInv w.heap.size w.heap.size (w.heap.size + 2) (w.heap.size + 3) mo (w.heap.size + 1) no f D 0 s O wr) ∧ Hid (Fnd f (refWords l cs) rs s) ∧ Hid (∀ r, r ∈ rs.take j → r = 0 ∨ r ∈ s.1) ∧ Hid (Turned [] w wr)) (fun i _ => rn - (intOf i).toNat)
  case atStart => exact ⟨0, ([], []), _, Nat.zero_le _, rfl, HI, HFn, fun r hr => (by simp at hr), HT0⟩
  case round =>
    obtain ⟨j, s, O, hj, rfl, HIj, HFj, HRj, HTj⟩ := hrel
    by_cases hlt : j < rn
    · obtain ⟨r, hrj⟩ : ∃ r, rs[j]? = some r := ⟨_, List.getElem?_eq_getElem (by rw [HR.out.size]; exact hlt)⟩
      obtain ⟨rb, roff, rfl, hcell⟩ := (HR.out.turned HTj.out).cell j r hrj
      have hmem := List.mem_of_getElem? hrj
      have HSt := hide (flw_takes _ _ _ _ _ _ _ f D 0 s O wr r (HR.out.inn r hmem) HIj.out)
      have HFl := hide (flw_step f s r)
      cases hb : (flwStep f s r).2 with
      | true =>
        rw [hb] at HSt HFl
        have HF2 := hide (HFj.out.roots HFl.out (fun q hq => by simp at hq; subst hq; exact hmem))
        have HR2 : Hid (∀ q, q ∈ rs.take (j + 1) → q = 0 ∨ q ∈ (flwStep f s r).1.1) := fun q hq => by
          rw [take_snoc hrj] at hq
          rcases List.mem_append.1 hq with h1 | h1
          · exact (HRj.out q h1).imp id (HFl.out.old q)
          · exact HFl.out.all rfl q h1
        generalize (flwStep f s r).1 = s' at *
        clear hb hrj hmem HFl HFj HRj
        go_wp2_with (go_at_call 45; refine HSt.out.mono ?_; rintro e w2 ⟨rfl, O2, hi2, ht2, ho2⟩; have HI2 := hide (hi2.to 0); have HT2 := hide (HTj.out.trans_new ht2 (fun x hx => .inr (HIj.out.low x hx).1)); clear hi2 ht2 ho2)
        go_roundw
        case rel => exact ⟨j + 1, s', O2, by omega, by go_num, HI2, HF2, HR2, HT2⟩
        case measure => simp [intOf]; omega
      | false =>
        rw [hb] at HSt HFl
        have HLo : Hid (Lost f (refWords l cs) rs) := by
          obtain ⟨q, h1, h2, h3⟩ := HFl.out.bad rfl
          simp at h1
          subst h1
          exact ⟨q, .root hmem h2, h3⟩
        clear hb hrj hmem HFl HFj HRj
        go_wp2_with (go_at_call 45; refine HSt.out.mono ?_; rintro e w2 ⟨rfl, O2, hi2, ht2, ho2⟩; have HT2 := hide (HTj.out.trans_new ht2 (fun x hx => .inr (HIj.out.low x hx).1)); clear hi2 ht2 ho2)
        rw [HQ.out]
        exact ⟨HT2.out, .inl ⟨rfl, HLo.out⟩⟩
    · have HR2 : Hid (∀ r, r ∈ rs → r = 0 ∨ r ∈ s.1) := fun r hr => HRj.out r (by rw [List.take_of_length_le (by rw [HR.out.size]; omega)]; exact hr)
      clear HRj HR
      go_wp2_with fail
      go_loopg [16] (2 * (65536 - s.1.length) + s.2.length) (fun gk _ wr => ∃ (s : List Int × List Blk) (O : List Nat), gk = 2 * (65536 - s.1.length) + s.2.length ∧ Hid (FlwInv w.heap.size w.heap.size (w.heap.size + 2) (w.heap.size + 3) mo (w.heap.size + 1) no f D 0 s O wr) ∧ Hid (Fnd f (refWords l cs) rs s) ∧ Hid (∀ r, r ∈ rs → r = 0 ∨ r ∈ s.1) ∧ Hid (Turned [] w wr))
      case atStart => exact ⟨s, O, rfl, HIj, HFj, HR2, HTj⟩
      case round =>
        clear HIj HFj HR2 HTj
        obtain ⟨⟨R, A0⟩, O, hgk, HIk, HFk, HRk, HTk⟩ := hrel
        have HGk := hide hgk
        clear hgk
        rcases List.eq_nil_or_concat A0 with rfl | ⟨A, b, rfl⟩
        · obtain ⟨v3, hv3, hown3, -⟩ := HIk.out.row
          obtain ⟨ao3, cap3, rfl, -⟩ := ownsRow_blks hown3
          have x3 := cell_of_one hv3
          have x2 := cell_of_one HIk.out.v2
          clear hv3 hown3
          go_wp2_with fail
          rw [HQ.out]
          obtain ⟨h1, h2⟩ := HFk.out.done HRk.out
          exact ⟨HTk.out, .inr ⟨_, R, rfl, HIk.out.sm, h1, h2⟩⟩
        · rw [List.concat_eq_append] at HIk HFk HGk
          obtain ⟨v3, hv3, hown3, -⟩ := HIk.out.row
          obtain ⟨g, cap3, rfl, hcap, hcm, k0, k1, k2, k3, hpop⟩ := ownsRow_last hown3
          have hlow := HIk.out.low
          obtain ⟨x0, hx0, hfb⟩ := HFk.out.from_ b (by simp)
          obtain ⟨hbt, hbn⟩ := HF.out x0 b hfb
          obtain ⟨W2, hW2⟩ : ∃ W2, W2 = (wr.alloc (.cells #[.int .i64 b.t, .int .i64 b.k, .int .i64 b.n, .int .i64 b.s] 38)).setCell ⟨w.heap.size + 3, 0, none⟩ (.slice (some ⟨g, 0, none⟩) A.length cap3) := ⟨_, rfl⟩
          have htA : Turned [] wr (wr.alloc (.cells #[.int .i64 b.t, .int .i64 b.k, .int .i64 b.n, .int .i64 b.s] 38)) := (Turned.refl [] wr).alloc _
          obtain ⟨hI2, hT2⟩ := HIk.out.pop hv3 htA hpop rfl
          rw [← hW2] at hI2 hT2
          have hwW : Turned [] w W2 := HTk.out.trans_new hT2 (fun x hx => .inr (hlow x hx).1)
          have hbW : W2.heap[wr.heap.size]? = some (.cells #[.int .i64 b.t, .int .i64 b.k, .int .i64 b.n, .int .i64 b.s] 38) := by
            rw [hW2, Below.heap_setCell _ _ _ _ (by have := lt_of_heap hv3; show wr.heap.size ≠ w.heap.size + 3; omega), heap_alloc_new]
          have HE := hide (eachRef_follow (FlwInv w.heap.size w.heap.size (w.heap.size + 2) (w.heap.size + 3) mo (w.heap.size + 1) no f D) (flwStep f) (flwTaker _ _ _ _ _ _ _ _ _) (w.heap.size) (w.heap.size + 2) (w.heap.size + 3) (fun k s O w r _ hr hI => flw_takes _ _ _ _ _ _ _ f D k s O w r hr hI) v l ao len cap cs b W2 (R, A) O hl HL.out hbt hbn (fun w' ht => HV.out w' (hwW.trans_new ht (fun x hx => .inr (hlow x hx).1))) hI2)
          have HFl := hide (flw_run f (refWords l cs b) (R, A))
          have x3 := cell_of_one hv3
          have y3 : (wr.alloc (.cells #[.int .i64 b.t, .int .i64 b.k, .int .i64 b.n, .int .i64 b.s] 38)).cell? ⟨w.heap.size + 3, 0, none⟩ = some (.slice (some ⟨g, 0, none⟩) (A.length + 1) cap3) := by rw [htA.cell (block_lt x3) (by simp)]; exact x3
          have f3 : (wr.alloc (.cells #[.int .i64 b.t, .int .i64 b.k, .int .i64 b.n, .int .i64 b.s] 38)).frozen? ⟨w.heap.size + 3, 0, none⟩ = false := by rw [htA.frozen (block_lt x3) (by simp)]; exact free_of_one hv3
          have m0 := cell_of_heap hbW 0
          have m1 := cell_of_heap hbW 1
          have m2 := cell_of_heap hbW 2
          have m3 := cell_of_heap hbW 3
          have hNd := HIk.out.nodup
          have HNd := hide hNd
          have HwW := hide hwW
          have HLow := hide hlow
          obtain ⟨bt, bk, bn, bz⟩ := b
          simp only at *
          rw [hW2] at m0 m1 m2 m3
          unfold maxLen at hcm
          clear hv3 hown3 hpop hfb hx0 hbt hbn hI2 hT2 hwW hbW htA hNd hlow HIk
          go_wp2_with fail
          clear m0 m1 m2 m3 k0 k1 k2 k3 x3 y3 f3
          rw [hW2] at HE HwW
          clear hW2
          generalize runRefs (flwStep f) (R, A) (refWords l cs ⟨bt, bk, bn, bz⟩) = res at *
          obtain ⟨s', ok⟩ := res
          simp only at HE HFl
          refine HE.out.mono ?_
          rintro e w3 ⟨rfl, n3, O3, hi3, ht3, -⟩
          have HI3 := hide (hi3.to 0)
          have HT3 := hide (HwW.out.trans_new ht3 (fun x hx => .inr (HLow.out x hx).1))
          clear hi3 ht3 HE HwW
          cases ok with
          | false =>
            have HLo := hide (HFk.out.lost HFl.out)
            go_wp2_with fail
            rw [HQ.out]
            exact ⟨HT3.out, .inl ⟨rfl, HLo.out⟩⟩
          | true =>
            have HF3 := hide (HFk.out.step HFl.out)
            have HR3 : Hid (∀ r, r ∈ rs → r = 0 ∨ r ∈ s'.1) := fun r hr => (HRk.out r hr).imp id (HFl.out.old r)
            have hm3 := HI3.out.many
            have hn3 := nodup_le _ _ HNd.out HFl.out.old
            have hy3 := HFl.out.many
            have hg3 := HGk.out
            simp only [List.length_append, List.length_cons, List.length_nil] at hg3 hn3 hy3
            have hlt3 : 2 * (65536 - s'.1.length) + s'.2.length < gk := by omega
            clear hg3 hn3 hy3 hm3 HGk
            go_wp2_with fail
            go_roundg (2 * (65536 - s'.1.length) + s'.2.length)
            case measure => exact hlt3
            case rel => exact ⟨s', O3, rfl, HI3, HF3, HR3, HT3⟩
end Go.Proofs.Ythigmechfcndcaa

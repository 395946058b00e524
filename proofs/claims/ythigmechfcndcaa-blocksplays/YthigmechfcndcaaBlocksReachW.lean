/-
  What Reach tells.
-/
import Derived.Test.YthigmechfcndcaaBlocksFollow
namespace Go.Proofs.Ythigmechfcndcaa
open Go.RowKit Go.Maps
set_option linter.unusedVariables false

/-- What was walked: each block is read where it stands; they rise, and lie within. -/
theorem walkN_facts (l : List Int) (cs : List Cls) (to : Int) : ∀ (n : Nat) (t : Int) (bs : List Blk), walkN l cs to n t = some bs → (∀ b, b ∈ bs → t ≤ b.t ∧ b.t + b.s ≤ to ∧ readOf l cs b.t = some b) ∧ bs.Pairwise (fun a b => a.t + a.s ≤ b.t) ∧ (t ≤ to → (bs.length : Int) ≤ to - t)
  | 0, t, bs, h => by
    unfold walkN at h
    split at h
    · cases h
    · injection h with h
      subst h
      exact ⟨fun b hb => (by cases hb), List.Pairwise.nil, fun h => (by simp; omega)⟩
  | n + 1, t, bs, h => by
    unfold walkN at h
    split at h
    · split at h
      · cases h
      · rename_i b hb
        have hf := readOf_some hb
        split at h
        · rename_i hs
          obtain ⟨cs', h1, rfl⟩ := Option.map_eq_some_iff.1 h
          obtain ⟨h2, h3, h4⟩ := walkN_facts l cs to n (t + b.s) cs' h1
          refine ⟨fun c hc => ?_, List.pairwise_cons.2 ⟨fun c hc => ?_, h3⟩, fun ht => ?_⟩
          · rcases List.mem_cons.1 hc with rfl | hc
            · refine ⟨by omega, by omega, by rw [hf.1]; exact hb⟩
            · have := h2 c hc
              exact ⟨by omega, this.2⟩
          · have := (h2 c hc).1
            omega
          · have := h4 (by omega)
            simp only [List.length_cons]
            omega
        · cases h
    · injection h with h
      subst h
      exact ⟨fun b hb => (by cases hb), List.Pairwise.nil, fun h => (by simp; omega)⟩
structure Walked (l : List Int) (cs : List Cls) (f g : Int) (bs : List Blk) : Prop where
  each : ∀ b, b ∈ bs → f ≤ b.t ∧ b.t + b.s ≤ g ∧ readOf l cs b.t = some b
  rise : bs.Pairwise (fun a b => a.t + a.s ≤ b.t)
  few : (bs.length : Int) ≤ g - f
theorem walkOf_facts {l : List Int} {cs : List Cls} {f g : Int} {bs : List Blk} (hfg : f ≤ g) (h : walkOf l cs g f = some bs) : Walked l cs f g bs := by
  obtain ⟨h1, h2, h3⟩ := walkN_facts l cs g _ f bs h
  exact ⟨h1, h2, h3 hfg⟩
theorem Walked.apart {l : List Int} {cs : List Cls} {f g : Int} {bs : List Blk} (h : Walked l cs f g bs) : bs.Pairwise (fun a b => a.t ≠ b.t) := by
  have h2 := h.each
  refine List.Pairwise.imp_of_mem (fun {a b} ha hb hr => ?_) h.rise
  have := (readOf_some (h2 a ha).2.2).2.2.1
  omega

/-- The addresses that are told. -/
def toldOf (bs : List Blk) (R : List Int) : List Int := (bs.filter fun b => decide (b.t ∈ R)).map Blk.t
theorem toldOf_snoc (bs : List Blk) (b : Blk) (R : List Int) : toldOf (bs ++ [b]) R = toldOf bs R ++ if b.t ∈ R then [b.t] else [] := by
  unfold toldOf
  rw [List.filter_append, List.map_append]
  congr 1
  by_cases h : b.t ∈ R
  · simp [h]
  · simp [h]
theorem toldOf_length (bs : List Blk) (R : List Int) : (toldOf bs R).length ≤ bs.length := by
  unfold toldOf
  rw [List.length_map]
  exact List.length_filter_le _ _

/-- What Reach tells, of a heap that was walked. -/
def Reaches (bs : List Blk) (g : Blk → List Int) (rs : List Int) (w : World) (e : Ending) (w' : World) : Prop :=
  Turned [] w w' ∧ ((e = .returned (.tuple #[.slice none 0 0, .int .i64 13]) ∧ Lost (objOf bs) g rs) ∨ ∃ v R, e = .returned (.tuple #[v, .int .i64 0]) ∧ w'.ownsRow w.heap.size 3 1 v (toldOf bs R).length ((toldOf bs R).map (Value.int .i64)) ∧ (∀ x, x ∈ R ↔ Rch (objOf bs) g rs x) ∧ ¬ Lost (objOf bs) g rs)

theorem reach_out (v : Value) (l : List Int) (ao : Option Addr) (len cap : Nat) (f g : Int) (rv : Value) (w : World) (hv : AnyMem w v l) (hw : ¬ (0 ≤ f ∧ f ≤ g ∧ g ≤ l.length)) :
    Calls Try.prog 15 #[v, .slice ao len cap, .int .i64 f, .int .i64 g, rv] w fun e w' => e = .returned (.tuple #[.slice none 0 0, .int .i64 10]) ∧ w' = w := by
  have HW := hide (walk_out v l ao len cap f g w hv hw)
  clear hv hw
  go_enter Try.func15, Try.ntmps15
  go_wp2_with fail
  refine HW.out.mono ?_
  rintro e w1 ⟨rfl, rfl⟩
  go_wp2_with fail
  go_ret2
  exact ⟨rfl, rfl⟩

theorem reach_heap (v : Value) (l : List Int) (ao : Option Addr) (len cap : Nat) (cs : List Cls) (f g : Int) (rv : Value) (w : World) (hl : l.length ≤ 65536) (hv : AnyMem w v l) (hc : CRd w ao len cs) (hw : 0 ≤ f ∧ f ≤ g ∧ g ≤ l.length) (h : walkOf l cs g f = none) :
    Calls Try.prog 15 #[v, .slice ao len cap, .int .i64 f, .int .i64 g, rv] w fun e w' => e = .returned (.tuple #[.slice none 0 0, .int .i64 13]) ∧ Turned [] w w' := by
  have HW := hide (walk_in v l ao len cap cs f g w hl hv hc hw)
  rw [h] at HW
  simp only [Option.isNone_none, if_true, Option.getD_none] at HW
  clear hv hw hc h
  go_enter Try.func15, Try.ntmps15
  go_wp2_with fail
  refine HW.out.mono ?_
  rintro e w1 ⟨v1, rfl, -, ht1⟩
  have HT := hide ht1
  clear ht1 HW
  go_wp2_with fail
  go_ret2
  exact ⟨rfl, HT.out⟩

set_option maxRecDepth 100000 in
theorem reach_in (v : Value) (l : List Int) (ao : Option Addr) (len cap : Nat) (cs : List Cls) (f g : Int) (ro : Option Addr) (rn rcap : Nat) (rs : List Int) (bs : List Blk) (w : World)
    (hl : l.length ≤ 65536) (hl64 : ∀ x, x ∈ l → In64 x) (hv : AnyMem w v l) (hc : CRd w ao len cs) (hr : IRd w ro rn rs) (hw : 0 ≤ f ∧ f ≤ g ∧ g ≤ l.length) (h : walkOf l cs g f = some bs) :
    Calls Try.prog 15 #[v, .slice ao len cap, .int .i64 f, .int .i64 g, .slice ro rn rcap] w (Reaches bs (refWords l cs) rs w) := by
  have HW := hide (walk_in v l ao len cap cs f g w hl hv hc hw)
  have hF := walkOf_facts hw.2.1 h
  rw [h] at HW
  simp only [Option.isNone_some, Option.getD_some] at HW
  rw [if_neg (by decide)] at HW
  have hbl : bs.length ≤ 65536 := by have := hF.few; omega
  have hb1 : ∀ b, b ∈ bs → (0 ≤ b.t ∧ b.t ≤ 65536) ∧ In64 b.n := fun b hb => by
    have h1 := hF.each b hb
    have h2 := readOf_some h1.2.2
    obtain ⟨x, _, _, _, hx⟩ := h2.2.2.2.2.2.2.2
    refine ⟨by omega, ?_⟩
    rw [hx]
    exact part_in64 x
  have HB1 := hide hb1
  have HFo := hide (fun w1 mo no (ht : Turned [] w w1) (hm : OMap w1 mo no (objOf bs)) => follow_any v l ao len cap cs mo no (objOf bs) (bs.map Blk.t) ro rn rcap rs w1 hl hl64 (hv.turned ht) (hc.turned ht) hm (hr.turned ht) (fun x hx => by
    obtain ⟨b, hb⟩ := Option.ne_none_iff_exists'.1 hx
    obtain ⟨h1, _, h2⟩ := objOf_some hb
    exact List.mem_map.2 ⟨b, h1, h2.symm⟩) (by rw [List.length_map]; exact hbl) (fun x b hb => hb1 b (objOf_some hb).1))
  obtain ⟨Q, hQ⟩ : ∃ Q, Q = Reaches bs (refWords l cs) rs w := ⟨_, rfl⟩
  rw [← hQ]
  have HQ := hide hQ
  obtain ⟨i0, hi, hz0, hz1, hz2⟩ := info_parts Try.infoInt
  clear hv hc hw h hF hb1 hl64 hr hQ hl
  go_enter Try.func15, Try.ntmps15
  go_wp2_with fail
  refine HW.out.mono ?_
  rintro e w1 ⟨v1, rfl, hown, ht1⟩
  obtain ⟨bo, bcap, rfl, hbr⟩ := ownsRow_blks hown
  have HBr := hide hbr
  have HT1 := hide ht1
  have HA := hide (byAddress_any bo bs.length bcap bs w1 hbr hbl (fun b hb => by have := (HB1.out b hb).1; unfold In64; omega))
  clear hown ht1 hbr HW
  go_wp2_with fail
  refine HA.out.mono ?_
  rintro e w2 ⟨rfl, hm2, ht2⟩
  have HT2 := hide (HT1.out.trans ht2)
  have HBr2 := hide (HBr.out.turned ht2)
  have HFo2 := hide (HFo.out w2 _ _ HT2.out hm2)
  clear hm2 ht2 HA HFo HT1 HBr
  go_wp2_with fail
  refine HFo2.out.mono ?_
  rintro e w3 ⟨ht3, ⟨rfl, hlo⟩ | ⟨mr, R, rfl, hs3, hR, hnl⟩⟩
  · have HT3 := hide (HT2.out.trans ht3)
    have HLo := hide hlo
    clear ht3 hlo
    go_wp2_with fail
    rw [HQ.out]
    exact ⟨HT3.out, .inl ⟨rfl, HLo.out⟩⟩
  · have HT3 := hide (HT2.out.trans ht3)
    have HBr3 := hide (HBr2.out.turned ht3)
    have HS3 := hide hs3
    have HR := hide hR
    have HN := hide hnl
    clear ht3 hs3 hR hnl HT2 HBr2 HFo2
    go_wp2_with fail
    go_loopw [16, 45] (fun t i wr => ∃ (k : Nat), k ≤ bs.length ∧ i = .int .i64 k ∧ Hid (wr.ownsRow w3.heap.size 3 1 t (toldOf (bs.take k) R).length ((toldOf (bs.take k) R).map (Value.int .i64))) ∧ Hid (Turned [] w3 wr)) (fun _ i _ => bs.length - (intOf i).toNat)
    case atStart => exact ⟨0, Nat.zero_le _, rfl, World.ownsRow_nil _ _ _ _, Turned.refl _ _⟩
    case round =>
      obtain ⟨k, hk, rfl, HO, HT⟩ := hrel
      by_cases hlt : k < bs.length
      · obtain ⟨b, hbk⟩ : ∃ b, bs[k]? = some b := ⟨_, List.getElem?_eq_getElem hlt⟩
        obtain ⟨gb, off, rfl, c0, c1, c2, c3⟩ := (HBr3.out.turned HT.out).cell k b hbk
        have HS : Hid (toldOf (bs.take (k + 1)) R = toldOf (bs.take k) R ++ if b.t ∈ R then [b.t] else []) := by show _ = _; rw [take_snoc hbk, toldOf_snoc]
        have hb64 : In64 b.t := by have := (HB1.out b (List.mem_of_getElem? hbk)).1; unfold In64; omega
        have hle : (toldOf (bs.take k) R).length ≤ k := Nat.le_trans (toldOf_length _ _) (by simp; omega)
        obtain ⟨bt, bk, bn, bz⟩ := b
        simp only at *
        have HSm := hide (fun o => HS3.out.block (w' := wr.alloc o) (by rw [Below.heap_alloc _ _ _ (by have := HS3.out.lt; have := HT.out.size; omega), HT.out.block _ HS3.out.lt (by simp)]))
        by_cases hin : bt ∈ R
        · have HQ1 := hide (decide_eq_true hin)
          rw [if_pos hin] at HS
          generalize toldOf (bs.take k) R = tk at *
          have HO2 := hide (((HO.out.alloc (.cells #[.int .i64 bt, .int .i64 bk, .int .i64 bn, .int .i64 bz] 38)).alloc (.cells #[] 61)))
          have HT2 := hide ((HT.out.alloc (.cells #[.int .i64 bt, .int .i64 bk, .int .i64 bn, .int .i64 bz] 38)).alloc (.cells #[] 61))
          have hsz := HT.out.size
          clear hbk hin
          go_wp2_with (first | (at_lookup; refine wpList_smap_is _ rfl _ _ rfl mr _ _ rfl (HSm.out _) bt rfl hb64 true HQ1.out ?_) | (at_builtin; refine wpList_append_own _ rfl _ _ 50 rfl w3.heap.size 3 i0 _ 1 8 Try.underlying50 hi hz0 hz1 hz2 rfl (by decide) _ _ _ rfl (HO2.out.alloc _) ⟨wr.heap.size + 2, 0, none⟩ 1 1 [.int .i64 bt] rfl rfl (cells_new _ _ _ _ (by simp)) (ints_oneCell .i64 [bt]) (by unfold maxLen; omega) (by omega) (by simp; omega) ?_; intro v' w4 hown' hgrow4 hnil4; have HO4 := hide hown'; have HG4 : Hid (World.grownBy _ w4 u16.ownBlock) := hide hgrow4; clear hown' hgrow4 hnil4))
          refine ⟨⟨k + 1, by omega, by go_num, ?_, (HT2.out.alloc _).grown HG4.out (fun i hi => .inr (HO.out.lt i hi).1)⟩, by simp only [intOf]; omega⟩
          rw [HS.out]
          have h4 := HO4.out
          rw [show (tk ++ [bt]).length = tk.length + 1 by simp, List.map_append]
          exact h4
        · have HQ1 := hide (decide_eq_false hin)
          rw [if_neg hin, List.append_nil] at HS
          have HO2 := hide (((HO.out.alloc (.cells #[.int .i64 bt, .int .i64 bk, .int .i64 bn, .int .i64 bz] 38)).alloc (.cells #[] 61)))
          have HT2 := hide ((HT.out.alloc (.cells #[.int .i64 bt, .int .i64 bk, .int .i64 bn, .int .i64 bz] 38)).alloc (.cells #[] 61))
          clear hbk hin
          go_wp2_with (at_lookup; refine wpList_smap_is _ rfl _ _ rfl mr _ _ rfl (HSm.out _) bt rfl hb64 false HQ1.out ?_)
          go_roundw
          case rel => exact ⟨k + 1, by omega, by go_num, by rw [HS.out]; exact HO2, HT2⟩
          case measure => simp [intOf]; omega
      · have hkl : k = bs.length := by omega
        subst hkl
        go_wp2_with fail
        rw [HQ.out]
        have h1 := HO.out
        rw [List.take_length] at h1
        exact ⟨HT3.out.trans HT.out, .inr ⟨_, R, rfl, ownsRow_mono h1 HT3.out.size, HR.out, HN.out⟩⟩
end Go.Proofs.Ythigmechfcndcaa

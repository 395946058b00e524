/-
  Texts of the proof, several in one: CellsPutAny, BlocksPure, BlocksMem, BlocksRead, BlocksFlat, BlocksRefsP, BlocksRchO, BlocksToldP, BlocksRchD, BlocksLayW, BlocksAllIn, BlocksBlkRd, BlocksLaid, BlocksConn, MarkDocP, HeapWf.
-/
import Derived.Test.YtgbclfhgpkmcnaaGreatDoorPack7
import Derived.Test.YtgbclfhgpkmcnaaGreatDoorPack5
import Derived.Test.YtgbclfhgpkmcnaaGreatDoorPack2
import Derived.Test.YtgbclfhgpkmcnaaGreatDoorPack13
/-
  Put of package cells, at whatever place and with whatever words that came in.
-/
namespace Go.Proofs.YtgbclfhgpkmcnaaGreatDoor
open Go.RowKit

theorem over_get (l : List Int) (k : Nat) (m : List Int) (h : k + m.length ≤ l.length) (i : Nat) : (over l k m)[i]? = if k ≤ i ∧ i < k + m.length then m[i - k]? else l[i]? := by
  unfold over
  have h1 : (l.take k).length = k := by simp; omega
  by_cases c1 : i < k
  · rw [if_neg (by omega), List.append_assoc, List.getElem?_append_left (by omega), List.getElem?_take_of_lt c1]
  · by_cases c2 : i < k + m.length
    · rw [if_pos ⟨by omega, c2⟩, List.getElem?_append_left (by simp; omega), List.getElem?_append_right (by omega), h1]
    · rw [if_neg (by omega), List.getElem?_append_right (by simp; omega), List.getElem?_drop]
      congr 1
      simp; omega

/-- What Put leaves: the words laid over, or all as it was. -/
def putL (l : List Int) (t : Int) (m : List Int) : List Int := if 0 ≤ t ∧ t + m.length ≤ l.length then over l t.toNat m else l
def putE (l : List Int) (t : Int) (m : List Int) : Int := if 0 ≤ t ∧ t + m.length ≤ l.length then 0 else 10
theorem putL_length (l : List Int) (t : Int) (m : List Int) : (putL l t m).length = l.length := by
  unfold putL
  split
  · exact over_length _ _ _ (by omega)
  · rfl

theorem put_any (p q : Nat) (l : List Int) (s t : Int) (a : Option Addr) (len cap : Nat) (zs : List Int) (w : World) (hl : l.length ≤ 65536) (h : Mem w p q l s) (hr : IsRow .i64 w a len cap zs) :
    Calls Tryz.prog 32 #[.pointer (some ⟨p, 0, none⟩), .int .i64 t, .slice a len cap] w fun e w' => e = .returned (.int .i64 (putE l t (zs.take len))) ∧ Mem w' p q (putL l t (zs.take len)) s ∧ Turned [p, q] w w' := by
  have hlen : (zs.take len).length = len := by
    rcases hr with ⟨_, h1, _, h2⟩ | ⟨x, _, h1, _, h2, _⟩
    · simp [h1]
    · simp; omega
  by_cases hf : 0 ≤ t ∧ t + len ≤ l.length
  · have e1 : putE l t (zs.take len) = 0 := by unfold putE; rw [hlen, if_pos hf]
    have e2 : putL l t (zs.take len) = over l t.toNat (zs.take len) := by unfold putL; rw [hlen, if_pos hf]
    rw [e1, e2]
    obtain ⟨k, rfl⟩ := Int.eq_ofNat_of_zero_le hf.1
    rw [Int.toNat_natCast]
    rcases hr.cases with h0 | ⟨b, off, rfl, hz, _, hb, hc, _⟩
    · subst h0
      refine (put_none p q l s k a cap w hl (by omega) h).mono fun e w' ⟨he, hw⟩ => ?_
      subst he hw
      refine ⟨rfl, ?_, Turned.refl _ _⟩
      have : over l k (zs.take 0) = l := by simp [over]
      rw [this]
      exact h
    · by_cases h0 : len = 0
      · subst h0
        refine (put_none p q l s k _ cap w hl (by omega) h).mono fun e w' ⟨he, hw⟩ => ?_
        subst he hw
        refine ⟨rfl, ?_, Turned.refl _ _⟩
        have : over l k (zs.take 0) = l := by simp [over]
        rw [this]
        exact h
      · have hp := put_in p q l s k b off cap (zs.take len) w hl (by omega) (by omega) h (fun j x hx => by
          have hj : j < len := by have := (List.getElem?_eq_some_iff.1 hx).1; omega
          rw [List.getElem?_take_of_lt hj] at hx
          rw [hc j hj, List.getD_eq_getElem?_getD, hx]
          rfl)
        rw [hlen] at hp
        exact hp
  · have e1 : putE l t (zs.take len) = 10 := by unfold putE; rw [hlen, if_neg hf]
    have e2 : putL l t (zs.take len) = l := by unfold putL; rw [hlen, if_neg hf]
    rw [e1, e2]
    refine (put_out p _ l.length _ t a len cap w hl h.c0 (by omega)).mono fun e w' ⟨he, hw⟩ => ?_
    subst he hw
    exact ⟨rfl, h, Turned.refl _ _⟩
end Go.Proofs.YtgbclfhgpkmcnaaGreatDoor

/-
  Blocks without memory: what is laid, read and walked in a list of words, as the document says it. No Go is walked here.
-/
namespace Go.Proofs.YtgbclfhgpkmcnaaGreatDoor
open Go.RowKit
set_option linter.unusedVariables false

theorem sizeOf_ok {cs : List Cls} {k n : Int} (h : (sizeOf cs k n).2 = 0) : 1 ≤ (sizeOf cs k n).1 ∧ (sizeOf cs k n).1 ≤ 65536 := by
  unfold sizeOf told at *
  split at h
  · simp at h
  · rename_i c hc
    split at h
    · rename_i hn
      have := clsAt_few hc hn
      simp only [if_pos hn, gSize]
      omega
    · simp at h
theorem sizeOf_bad {cs : List Cls} {k n : Int} (h : ¬ (sizeOf cs k n).2 = 0) : (sizeOf cs k n).1 = 0 ∧ ((sizeOf cs k n).2 = 11 ∨ (sizeOf cs k n).2 = 12) := by
  unfold sizeOf told at *
  split at h
  · simp
  · rename_i c hc
    split at h
    · simp at h
    · rename_i hn
      simp [if_neg hn]

/-- A block: its address, its class, its length, its size. -/
structure Blk where
  t : Int
  k : Int
  n : Int
  s : Int
  deriving DecidableEq
def Blk.cells (b : Blk) : List Value := [.int .i64 b.t, .int .i64 b.k, .int .i64 b.n, .int .i64 b.s]
def Blk.zero : Blk := ⟨0, 0, 0, 0⟩

/-- The word at a place, if there is a cell. -/
def wordAt (l : List Int) (t : Int) : Option Int := if 0 ≤ t then l[t.toNat]? else none
theorem wordAt_some {l : List Int} {t x : Int} (h : wordAt l t = some x) : ∃ i : Nat, t = i ∧ i < l.length ∧ l[i]? = some x := by
  unfold wordAt at h
  split at h
  · exact ⟨t.toNat, by omega, (List.getElem?_eq_some_iff.1 h).1, h⟩
  · cases h
theorem wordAt_none {l : List Int} {t : Int} (h : wordAt l t = none) : t < 0 ∨ (l.length : Int) ≤ t := by
  unfold wordAt at h
  split at h
  · have := List.getElem?_eq_none_iff.1 h
    omega
  · omega
theorem wordAt_nat {l : List Int} {i : Nat} : wordAt l (i : Int) = l[i]? := by
  unfold wordAt
  rw [if_pos (by omega), Int.toNat_natCast]

/-- What is laid: a header and zeros. -/
def laid (k n : Int) (s : Nat) : List Int := headOf k n :: List.replicate (s - 1) 0
theorem laid_length (k n : Int) (s : Nat) (h : 1 ≤ s) : (laid k n s).length = s := by simp [laid]; omega
/-- The words behind a lay, and what it tells: its size, its error. -/
def layL (l : List Int) (cs : List Cls) (t k n : Int) : List Int := if (sizeOf cs k n).2 = 0 then putL l t (laid k n (sizeOf cs k n).1.toNat) else l
def layS (l : List Int) (cs : List Cls) (t k n : Int) : Int := if (sizeOf cs k n).2 = 0 ∧ 0 ≤ t ∧ t + (sizeOf cs k n).1 ≤ l.length then (sizeOf cs k n).1 else 0
def layE (l : List Int) (cs : List Cls) (t k n : Int) : Int := if (sizeOf cs k n).2 = 0 then putE l t (laid k n (sizeOf cs k n).1.toNat) else (sizeOf cs k n).2
theorem layL_length (l : List Int) (cs : List Cls) (t k n : Int) : (layL l cs t k n).length = l.length := by
  unfold layL
  split
  · exact putL_length _ _ _
  · rfl

/-- What is read. -/
def readOf (l : List Int) (cs : List Cls) (t : Int) : Option Blk :=
  match wordAt l t with
  | none => none
  | some h => if isHead h = true ∧ (sizeOf cs (partC h) (partL h)).2 = 0 ∧ (sizeOf cs (partC h) (partL h)).1 ≤ l.length - t then some ⟨t, partC h, partL h, (sizeOf cs (partC h) (partL h)).1⟩ else none
def readE (l : List Int) (cs : List Cls) (t : Int) : Int := if (wordAt l t).isNone then 10 else if (readOf l cs t).isNone then 13 else 0
theorem readOf_some {l : List Int} {cs : List Cls} {t : Int} {b : Blk} (h : readOf l cs t = some b) :
    b.t = t ∧ 0 ≤ t ∧ 1 ≤ b.s ∧ b.s ≤ 65536 ∧ t + b.s ≤ l.length ∧ (sizeOf cs b.k b.n).2 = 0 ∧ b.s = (sizeOf cs b.k b.n).1 ∧ ∃ x, wordAt l t = some x ∧ isHead x = true ∧ b.k = partC x ∧ b.n = partL x := by
  unfold readOf at h
  split at h
  · cases h
  · rename_i x hx
    split at h
    · rename_i hc
      injection h with h
      subst h
      obtain ⟨i, rfl, hi, _⟩ := wordAt_some hx
      have := sizeOf_ok hc.2.1
      exact ⟨rfl, by omega, this.1, this.2, by simp only; omega, hc.2.1, rfl, x, hx, hc.1, rfl, rfl⟩
    · cases h

/-- What is walked: all blocks up to a place. -/
def walkN (l : List Int) (cs : List Cls) (to : Int) : Nat → Int → Option (List Blk)
  | 0, t => if t < to then none else some []
  | n + 1, t => if t < to then
      match readOf l cs t with
      | none => none
      | some b => if b.s ≤ to - t then (walkN l cs to n (t + b.s)).map (b :: ·) else none
    else some []
def walkOf (l : List Int) (cs : List Cls) (to t : Int) : Option (List Blk) := walkN l cs to (to - t).toNat t
theorem walkN_more (l : List Int) (cs : List Cls) (to : Int) : ∀ (n m : Nat) (t : Int), (to - t).toNat ≤ n → n ≤ m → walkN l cs to m t = walkN l cs to n t
  | 0, 0, t, _, _ => rfl
  | 0, m + 1, t, h, _ => by
    have h1 : ¬ t < to := by omega
    unfold walkN
    simp [h1]
  | n + 1, 0, t, _, h2 => by omega
  | n + 1, m + 1, t, h, h2 => by
    unfold walkN
    split
    · split
      · rfl
      · rename_i b hb
        have := (readOf_some hb).2.2.1
        split
        · rw [walkN_more l cs to n m (t + b.s) (by omega) (by omega)]
        · rfl
    · rfl
theorem walkOf_end {l : List Int} {cs : List Cls} {to t : Int} (h : ¬ t < to) : walkOf l cs to t = some [] := by
  unfold walkOf walkN
  split
  · simp [h]
  · simp [h]
theorem walkOf_step {l : List Int} {cs : List Cls} {to t : Int} {b : Blk} (h : t < to) (hb : readOf l cs t = some b) (hs : b.s ≤ to - t) : walkOf l cs to t = (walkOf l cs to (t + b.s)).map (b :: ·) := by
  have h1 := (readOf_some hb).2.2.1
  unfold walkOf
  obtain ⟨n, hn⟩ : ∃ n, (to - t).toNat = n + 1 := ⟨(to - t).toNat - 1, by omega⟩
  rw [hn]
  conv => lhs; unfold walkN
  simp only [if_pos h, hb, if_pos hs]
  rw [walkN_more l cs to (to - (t + b.s)).toNat n (t + b.s) (Nat.le_refl _) (by omega)]
theorem walkOf_stop {l : List Int} {cs : List Cls} {to t : Int} (h : t < to) (hb : ∀ b, readOf l cs t = some b → to - t < b.s) : walkOf l cs to t = none := by
  unfold walkOf
  obtain ⟨n, hn⟩ : ∃ n, (to - t).toNat = n + 1 := ⟨(to - t).toNat - 1, by omega⟩
  rw [hn]
  unfold walkN
  simp only [if_pos h]
  split
  · rfl
  · rename_i b hb2
    rw [if_neg (by have := hb b hb2; omega)]
end Go.Proofs.YtgbclfhgpkmcnaaGreatDoor

/-
  A memory, nil or not, for package blocks: Len, Words, Put; and what word and within tell.
-/
namespace Go.Proofs.YtgbclfhgpkmcnaaGreatDoor
open Go.RowKit
set_option linter.unusedVariables false

/-- A memory that holds these words: a nil one holds none. -/
def AnyMem (w : World) (v : Value) (l : List Int) : Prop := (v = .pointer none ∧ l = []) ∨ ∃ p q s, v = .pointer (some ⟨p, 0, none⟩) ∧ Mem w p q l s
theorem AnyMem.turned {w w' : World} {v : Value} {l : List Int} (h : AnyMem w v l) (ht : Turned [] w w') : AnyMem w' v l := by
  rcases h with h | ⟨p, q, s, h1, h2⟩
  · exact .inl h
  · exact .inr ⟨p, q, s, h1, h2.turned ht (by simp) (by simp)⟩
theorem Mem.any {w : World} {p q : Nat} {l : List Int} {s : Int} (h : Mem w p q l s) : AnyMem w (.pointer (some ⟨p, 0, none⟩)) l := .inr ⟨p, q, s, rfl, h⟩
theorem anyMem_nil (w : World) : AnyMem w (.pointer none) [] := .inl ⟨rfl, rfl⟩

theorem len_amem (v : Value) (l : List Int) (w : World) (h : AnyMem w v l) :
    Calls Tryz.prog 44 #[v] w fun e w' => e = .returned (.int .i64 l.length) ∧ w' = w := by
  rcases h with ⟨rfl, rfl⟩ | ⟨p, q, s, rfl, h⟩
  · exact len_nil w
  · exact len_mem p q l s w h

theorem words_amem (v : Value) (l : List Int) (f g : Int) (w : World) (hl : l.length ≤ 65536) (h : AnyMem w v l) :
    Calls Tryz.prog 23 #[v, .int .i64 f, .int .i64 g] w fun e w' =>
      ∃ v, e = .returned v ∧ w'.ownsRow w.heap.size 2 1 v ((l.take (min (max g 0) l.length).toNat).drop (min (max f 0) l.length).toNat).length (((l.take (min (max g 0) l.length).toNat).drop (min (max f 0) l.length).toNat).map (Value.int .i64)) ∧ Turned [] w w' := by
  rcases h with ⟨rfl, rfl⟩ | ⟨p, q, s, rfl, h⟩
  · refine (words_nil f g w).mono ?_
    rintro e w1 ⟨rfl, rfl⟩
    refine ⟨_, rfl, ?_, Turned.refl _ _⟩
    simp only [List.take_nil, List.drop_nil, List.map_nil, List.length_nil]
    exact World.ownsRow_nil _ _ _ _
  · exact words_mem p q l s f g w hl h

theorem one_word {l : List Int} {i : Nat} {x : Int} (h : l[i]? = some x) : (l.take (min (max ((i : Int) + 1) 0) l.length).toNat).drop (min (max (i : Int) 0) l.length).toNat = [x] := by
  obtain ⟨h1, h2⟩ := List.getElem?_eq_some_iff.1 h
  rw [show (min (max ((i : Int) + 1) 0) (l.length : Int)).toNat = i + 1 by omega, show (min (max (i : Int) 0) (l.length : Int)).toNat = i by omega]
  rw [List.take_succ_eq_append_getElem h1, List.drop_append_of_le_length (by simp; omega), List.drop_eq_nil_of_le (by simp; omega), h2]
  rfl
theorem no_word {l : List Int} {t : Int} (h : t < 0 ∨ (l.length : Int) ≤ t) (h64 : In64 t) : (l.take (min (max (wrap64 (t + 1)) 0) l.length).toNat).drop (min (max t 0) l.length).toNat = [] := by
  unfold In64 at h64
  rcases h with h | h
  · rw [show (min (max (wrap64 (t + 1)) 0) (l.length : Int)).toNat = 0 by unfold wrap64; omega]
    simp
  · rw [show (min (max t 0) (l.length : Int)).toNat = l.length by omega]
    apply List.drop_eq_nil_of_le
    simp
    omega

theorem word_some (v : Value) (l : List Int) (t x : Int) (w : World) (hl : l.length ≤ 65536) (h : AnyMem w v l) (hx : wordAt l t = some x) :
    Calls Tryz.prog 186 #[v, .int .i64 t] w fun e w' => e = .returned (.tuple #[.int .i64 x, .bool true]) ∧ Turned [] w w' := by
  obtain ⟨i, rfl, hi, hx⟩ := wordAt_some hx
  have HW := hide (words_amem v l i ((i : Int) + 1) w hl h)
  rw [one_word hx] at HW
  have hi2 : i < 65536 := by omega
  clear hx h hi hl
  go_enter Tryz.func186, Tryz.ntmps186
  go_wp2_with fail
  refine HW.out.mono ?_
  rintro e w1 ⟨v', rfl, hown, ht⟩
  obtain ⟨g, cap, rfl, -, -, -, hc, -⟩ := ownsInts_open hown (by simp)
  have hc0 := hc 0 x rfl
  have HT := hide ht
  clear hown hc ht HW
  go_wp2_with fail
  go_ret2
  exact ⟨rfl, HT.out⟩

theorem word_none (v : Value) (l : List Int) (t : Int) (w : World) (hl : l.length ≤ 65536) (ht : In64 t) (h : AnyMem w v l) (hx : wordAt l t = none) :
    Calls Tryz.prog 186 #[v, .int .i64 t] w fun e w' => e = .returned (.tuple #[.int .i64 0, .bool false]) ∧ Turned [] w w' := by
  have HW := hide (words_amem v l t (wrap64 (t + 1)) w hl h)
  rw [no_word (wordAt_none hx) ht] at HW
  clear hx h hl ht
  go_enter Tryz.func186, Tryz.ntmps186
  go_wp2_with fail
  refine HW.out.mono ?_
  rintro e w1 ⟨v', rfl, hown, ht⟩
  obtain ⟨-, ao, cap, rfl, -⟩ := ownsInts_any hown
  have HT := hide ht
  clear hown ht HW
  go_wp2_with fail
  go_ret2
  exact ⟨rfl, HT.out⟩

end Go.Proofs.YtgbclfhgpkmcnaaGreatDoor

/-
  What Read tells.
-/
namespace Go.Proofs.YtgbclfhgpkmcnaaGreatDoor
open Go.RowKit
set_option linter.unusedVariables false

def Blk.val (b : Blk) : Value := .agg #[.int .i64 b.t, .int .i64 b.k, .int .i64 b.n, .int .i64 b.s]

theorem part_in64 (x : Int) : In64 (partL x) := by
  unfold In64 partL
  omega

theorem read_some (v : Value) (l : List Int) (ao : Option Addr) (len cap : Nat) (cs : List Cls) (t : Int) (b : Blk) (w : World) (hl : l.length ≤ 65536) (hv : AnyMem w v l) (hc : CRd w ao len cs) (h : readOf l cs t = some b) :
    Calls Tryz.prog 184 #[v, .slice ao len cap, .int .i64 t] w fun e w' => e = .returned (.tuple #[.agg #[.int .i64 b.t, .int .i64 b.k, .int .i64 b.n, .int .i64 b.s], .int .i64 0]) ∧ Turned [] w w' := by
  obtain ⟨h1, h2, h3, h4, h5, h6, h7, x, h8, h9, h10, h11⟩ := readOf_some h
  obtain ⟨w0, hw0⟩ : ∃ w0, w0 = w.alloc (.cells #[.int .i64 0, .int .i64 0, .int .i64 0, .int .i64 0] 54) := ⟨_, rfl⟩
  have ht0 : Turned [] w w0 := by rw [hw0]; exact (Turned.refl [] w).alloc _
  have hb0 : w0.heap[w.heap.size]? = some (.cells #[.int .i64 0, .int .i64 0, .int .i64 0, .int .i64 0] 54) := by rw [hw0]; exact heap_alloc_new _ _
  have HW := hide (word_some v l t x w0 hl (hv.turned ht0) h8)
  have HP := hide (fun w => parts_yes x w h9)
  have HS := hide (fun w' (ht : Turned [] w0 w') => sizes_any ao len cap cs b.k b.n w' (by rw [h11]; exact part_in64 x) (hc.turned (ht0.trans ht)))
  rw [← h10, ← h11] at HP
  rw [h6, ← h7] at HS
  have HV := hide (fun w' (ht : Turned [] w0 w') => len_amem v l w' (hv.turned (ht0.trans ht)))
  have HE := hide (fun w' (ht : Turned [] w0 w') => And.intro (ht0.trans ht) (show w'.heap[w.heap.size]? = some (.cells #[.int .i64 0, .int .i64 0, .int .i64 0, .int .i64 0] 54) by rw [ht.block _ (lt_of_heap hb0) (by simp)]; exact hb0))
  obtain ⟨bt, bk, bn, bs⟩ := b
  simp only at *
  subst h1
  clear h h6 h7 h8 h9 h10 h11 hv hc ht0 hb0
  go_enter Tryz.func184, Tryz.ntmps184
  go_wp2_with fail
  rw [← hw0]
  clear hw0
  refine HW.out.mono ?_
  rintro e w1 ⟨rfl, ht1⟩
  have HT1 := hide ht1
  clear ht1 HW
  go_wp2_with fail
  refine (HP.out _).mono ?_
  rintro e w2 ⟨rfl, rfl⟩
  go_wp2_with fail
  refine (HS.out _ HT1.out).mono ?_
  rintro e w3 ⟨rfl, ht3⟩
  have HT3 := hide (HT1.out.trans ht3)
  obtain ⟨htE, hbx⟩ := HE.out _ HT3.out
  have x0 := cell_of_heap hbx 0
  have x1 := cell_of_heap hbx 1
  have x2 := cell_of_heap hbx 2
  have x3 := cell_of_heap hbx 3
  have xf : ∀ i, w3.frozen? ⟨w.heap.size, i, none⟩ = false := fun i => by simp [World.frozen?, hbx]
  have xf0 := xf 0
  have xf1 := xf 1
  have xf2 := xf 2
  have xf3 := xf 3
  have HTE := hide htE
  clear ht3 HS HP HT1 hbx xf htE HE
  go_wp2_with (go_at_call 44; refine (HV.out _ HT3.out).mono ?_; rintro e w' ⟨rfl, rfl⟩)
  refine bodyPost_ret (v := .tuple #[.agg #[.int .i64 bt, .int .i64 bk, .int .i64 bn, .int .i64 bs], .int .i64 0]) (by simp [results, Tryz.results184, go_sem, x0, x1, x2, x3]) rfl ⟨rfl, ?_⟩
  exact (((HTE.out.setCell (.inr (Nat.le_refl _)) _).setCell (.inr (Nat.le_refl _)) _).setCell (.inr (Nat.le_refl _)) _).setCell (.inr (Nat.le_refl _)) _

theorem read_out (v : Value) (l : List Int) (ao : Option Addr) (len cap : Nat) (t : Int) (w : World) (hl : l.length ≤ 65536) (hv : AnyMem w v l) (ht : In64 t) (h : wordAt l t = none) :
    Calls Tryz.prog 184 #[v, .slice ao len cap, .int .i64 t] w fun e w' => e = .returned (.tuple #[.agg #[.int .i64 0, .int .i64 0, .int .i64 0, .int .i64 0], .int .i64 10]) ∧ Turned [] w w' := by
  obtain ⟨w0, hw0⟩ : ∃ w0, w0 = w.alloc (.cells #[.int .i64 0, .int .i64 0, .int .i64 0, .int .i64 0] 54) := ⟨_, rfl⟩
  have ht0 : Turned [] w w0 := by rw [hw0]; exact (Turned.refl [] w).alloc _
  have hb0 : w0.heap[w.heap.size]? = some (.cells #[.int .i64 0, .int .i64 0, .int .i64 0, .int .i64 0] 54) := by rw [hw0]; exact heap_alloc_new _ _
  have HE := hide (fun w' (ht : Turned [] w0 w') => And.intro (ht0.trans ht) (show w'.heap[w.heap.size]? = some (.cells #[.int .i64 0, .int .i64 0, .int .i64 0, .int .i64 0] 54) by rw [ht.block _ (lt_of_heap hb0) (by simp)]; exact hb0))
  have HW := hide (word_none v l t w0 hl ht (hv.turned ht0) h)
  clear h hv ht0 hb0 ht
  go_enter Tryz.func184, Tryz.ntmps184
  go_wp2_with fail
  rw [← hw0]
  clear hw0
  refine HW.out.mono ?_
  rintro e w1 ⟨rfl, ht1⟩
  have HT1 := hide ht1
  clear ht1 HW
  obtain ⟨htE, hbx⟩ := HE.out _ HT1.out
  have x0 := cell_of_heap hbx 0
  have x1 := cell_of_heap hbx 1
  have x2 := cell_of_heap hbx 2
  have x3 := cell_of_heap hbx 3
  have xf := fun i => show World.frozen? w1 ⟨w.heap.size, i, none⟩ = false by simp [World.frozen?, hbx]
  have xf0 := xf 0
  have xf1 := xf 1
  have xf2 := xf 2
  have xf3 := xf 3
  have HTE := hide htE
  clear hbx xf htE HE
  go_wp2_with fail
  refine bodyPost_ret (v := .tuple #[.agg #[.int .i64 0, .int .i64 0, .int .i64 0, .int .i64 0], .int .i64 10]) (by simp [results, Tryz.results184, go_sem, x0, x1, x2, x3]) rfl ⟨rfl, ?_⟩
  first | exact HTE.out | exact (((HTE.out.setCell (.inr (Nat.le_refl _)) _).setCell (.inr (Nat.le_refl _)) _).setCell (.inr (Nat.le_refl _)) _).setCell (.inr (Nat.le_refl _)) _

theorem read_word (v : Value) (l : List Int) (ao : Option Addr) (len cap : Nat) (t x : Int) (w : World) (hl : l.length ≤ 65536) (hv : AnyMem w v l) (h : wordAt l t = some x) (hx : isHead x = false) :
    Calls Tryz.prog 184 #[v, .slice ao len cap, .int .i64 t] w fun e w' => e = .returned (.tuple #[.agg #[.int .i64 0, .int .i64 0, .int .i64 0, .int .i64 0], .int .i64 13]) ∧ Turned [] w w' := by
  obtain ⟨w0, hw0⟩ : ∃ w0, w0 = w.alloc (.cells #[.int .i64 0, .int .i64 0, .int .i64 0, .int .i64 0] 54) := ⟨_, rfl⟩
  have ht0 : Turned [] w w0 := by rw [hw0]; exact (Turned.refl [] w).alloc _
  have hb0 : w0.heap[w.heap.size]? = some (.cells #[.int .i64 0, .int .i64 0, .int .i64 0, .int .i64 0] 54) := by rw [hw0]; exact heap_alloc_new _ _
  have HE := hide (fun w' (ht : Turned [] w0 w') => And.intro (ht0.trans ht) (show w'.heap[w.heap.size]? = some (.cells #[.int .i64 0, .int .i64 0, .int .i64 0, .int .i64 0] 54) by rw [ht.block _ (lt_of_heap hb0) (by simp)]; exact hb0))
  have HW := hide (word_some v l t x w0 hl (hv.turned ht0) h)
  have HP := hide (fun w => parts_no x w hx)
  clear h hv ht0 hb0 hx
  go_enter Tryz.func184, Tryz.ntmps184
  go_wp2_with fail
  rw [← hw0]
  clear hw0
  refine HW.out.mono ?_
  rintro e w1 ⟨rfl, ht1⟩
  have HT1 := hide ht1
  clear ht1 HW
  obtain ⟨htE, hbx⟩ := HE.out _ HT1.out
  have x0 := cell_of_heap hbx 0
  have x1 := cell_of_heap hbx 1
  have x2 := cell_of_heap hbx 2
  have x3 := cell_of_heap hbx 3
  have xf := fun i => show World.frozen? w1 ⟨w.heap.size, i, none⟩ = false by simp [World.frozen?, hbx]
  have xf0 := xf 0
  have xf1 := xf 1
  have xf2 := xf 2
  have xf3 := xf 3
  have HTE := hide htE
  clear hbx xf htE HE
  go_wp2_with fail
  refine (HP.out _).mono ?_
  rintro e w2 ⟨rfl, rfl⟩
  go_wp2_with fail
  refine bodyPost_ret (v := .tuple #[.agg #[.int .i64 0, .int .i64 0, .int .i64 0, .int .i64 0], .int .i64 13]) (by simp [results, Tryz.results184, go_sem, x0, x1, x2, x3]) rfl ⟨rfl, ?_⟩
  first | exact HTE.out | exact (((HTE.out.setCell (.inr (Nat.le_refl _)) _).setCell (.inr (Nat.le_refl _)) _).setCell (.inr (Nat.le_refl _)) _).setCell (.inr (Nat.le_refl _)) _

theorem read_size (v : Value) (l : List Int) (ao : Option Addr) (len cap : Nat) (cs : List Cls) (t x : Int) (w : World) (hl : l.length ≤ 65536) (hv : AnyMem w v l) (hc : CRd w ao len cs) (h : wordAt l t = some x) (hx : isHead x = true) (hs : ¬ (sizeOf cs (partC x) (partL x)).2 = 0) :
    Calls Tryz.prog 184 #[v, .slice ao len cap, .int .i64 t] w fun e w' => e = .returned (.tuple #[.agg #[.int .i64 0, .int .i64 0, .int .i64 0, .int .i64 0], .int .i64 13]) ∧ Turned [] w w' := by
  obtain ⟨w0, hw0⟩ : ∃ w0, w0 = w.alloc (.cells #[.int .i64 0, .int .i64 0, .int .i64 0, .int .i64 0] 54) := ⟨_, rfl⟩
  have ht0 : Turned [] w w0 := by rw [hw0]; exact (Turned.refl [] w).alloc _
  have hb0 : w0.heap[w.heap.size]? = some (.cells #[.int .i64 0, .int .i64 0, .int .i64 0, .int .i64 0] 54) := by rw [hw0]; exact heap_alloc_new _ _
  have HE := hide (fun w' (ht : Turned [] w0 w') => And.intro (ht0.trans ht) (show w'.heap[w.heap.size]? = some (.cells #[.int .i64 0, .int .i64 0, .int .i64 0, .int .i64 0] 54) by rw [ht.block _ (lt_of_heap hb0) (by simp)]; exact hb0))
  have HW := hide (word_some v l t x w0 hl (hv.turned ht0) h)
  have HP := hide (fun w => parts_yes x w hx)
  have HS := hide (fun w' (ht : Turned [] w0 w') => sizes_any ao len cap cs (partC x) (partL x) w' (part_in64 x) (hc.turned (ht0.trans ht)))
  generalize sizeOf cs (partC x) (partL x) = y at *
  obtain ⟨y1, y2⟩ := y
  simp only at hs HS
  generalize partC x = a at *
  generalize partL x = c at *
  clear h hv ht0 hb0 hx hc
  go_enter Tryz.func184, Tryz.ntmps184
  go_wp2_with fail
  rw [← hw0]
  clear hw0
  refine HW.out.mono ?_
  rintro e w1 ⟨rfl, ht1⟩
  have HT1 := hide ht1
  clear ht1 HW
  go_wp2_with fail
  refine (HP.out _).mono ?_
  rintro e w2 ⟨rfl, rfl⟩
  go_wp2_with fail
  refine (HS.out _ HT1.out).mono ?_
  rintro e w3 ⟨rfl, ht3⟩
  have HT3 := hide (HT1.out.trans ht3)
  clear ht3 HT1
  obtain ⟨htE, hbx⟩ := HE.out _ HT3.out
  have x0 := cell_of_heap hbx 0
  have x1 := cell_of_heap hbx 1
  have x2 := cell_of_heap hbx 2
  have x3 := cell_of_heap hbx 3
  have xf := fun i => show World.frozen? w3 ⟨w.heap.size, i, none⟩ = false by simp [World.frozen?, hbx]
  have xf0 := xf 0
  have xf1 := xf 1
  have xf2 := xf 2
  have xf3 := xf 3
  have HTE := hide htE
  clear hbx xf htE HE
  go_wp2_with fail
  refine bodyPost_ret (v := .tuple #[.agg #[.int .i64 0, .int .i64 0, .int .i64 0, .int .i64 0], .int .i64 13]) (by simp [results, Tryz.results184, go_sem, x0, x1, x2, x3]) rfl ⟨rfl, ?_⟩
  first | exact HTE.out | exact (((HTE.out.setCell (.inr (Nat.le_refl _)) _).setCell (.inr (Nat.le_refl _)) _).setCell (.inr (Nat.le_refl _)) _).setCell (.inr (Nat.le_refl _)) _

theorem read_room (v : Value) (l : List Int) (ao : Option Addr) (len cap : Nat) (cs : List Cls) (t x : Int) (w : World) (hl : l.length ≤ 65536) (hv : AnyMem w v l) (hc : CRd w ao len cs) (h : wordAt l t = some x) (hx : isHead x = true) (hs : (sizeOf cs (partC x) (partL x)).2 = 0) (hr : l.length - t < (sizeOf cs (partC x) (partL x)).1) :
    Calls Tryz.prog 184 #[v, .slice ao len cap, .int .i64 t] w fun e w' => e = .returned (.tuple #[.agg #[.int .i64 0, .int .i64 0, .int .i64 0, .int .i64 0], .int .i64 13]) ∧ Turned [] w w' := by
  obtain ⟨w0, hw0⟩ : ∃ w0, w0 = w.alloc (.cells #[.int .i64 0, .int .i64 0, .int .i64 0, .int .i64 0] 54) := ⟨_, rfl⟩
  have ht0 : Turned [] w w0 := by rw [hw0]; exact (Turned.refl [] w).alloc _
  have hb0 : w0.heap[w.heap.size]? = some (.cells #[.int .i64 0, .int .i64 0, .int .i64 0, .int .i64 0] 54) := by rw [hw0]; exact heap_alloc_new _ _
  have HE := hide (fun w' (ht : Turned [] w0 w') => And.intro (ht0.trans ht) (show w'.heap[w.heap.size]? = some (.cells #[.int .i64 0, .int .i64 0, .int .i64 0, .int .i64 0] 54) by rw [ht.block _ (lt_of_heap hb0) (by simp)]; exact hb0))
  have HW := hide (word_some v l t x w0 hl (hv.turned ht0) h)
  have HP := hide (fun w => parts_yes x w hx)
  have HS := hide (fun w' (ht : Turned [] w0 w') => sizes_any ao len cap cs (partC x) (partL x) w' (part_in64 x) (hc.turned (ht0.trans ht)))
  have HV := hide (fun w' (ht : Turned [] w0 w') => len_amem v l w' (hv.turned (ht0.trans ht)))
  have hz := sizeOf_ok hs
  have hti : 0 ≤ t ∧ t < l.length := by obtain ⟨i, rfl, hi, _⟩ := wordAt_some h; omega
  generalize sizeOf cs (partC x) (partL x) = y at *
  obtain ⟨y1, y2⟩ := y
  simp only at hs HS hr hz
  subst hs
  generalize partC x = a at *
  generalize partL x = c at *
  clear h hv ht0 hb0 hx hc
  go_enter Tryz.func184, Tryz.ntmps184
  go_wp2_with fail
  rw [← hw0]
  clear hw0
  refine HW.out.mono ?_
  rintro e w1 ⟨rfl, ht1⟩
  have HT1 := hide ht1
  clear ht1 HW
  go_wp2_with fail
  refine (HP.out _).mono ?_
  rintro e w2 ⟨rfl, rfl⟩
  go_wp2_with fail
  refine (HS.out _ HT1.out).mono ?_
  rintro e w3 ⟨rfl, ht3⟩
  have HT3 := hide (HT1.out.trans ht3)
  clear ht3 HT1
  obtain ⟨htE, hbx⟩ := HE.out _ HT3.out
  have x0 := cell_of_heap hbx 0
  have x1 := cell_of_heap hbx 1
  have x2 := cell_of_heap hbx 2
  have x3 := cell_of_heap hbx 3
  have xf := fun i => show World.frozen? w3 ⟨w.heap.size, i, none⟩ = false by simp [World.frozen?, hbx]
  have xf0 := xf 0
  have xf1 := xf 1
  have xf2 := xf 2
  have xf3 := xf 3
  have HTE := hide htE
  clear hbx xf htE HE
  go_wp2_with (go_at_call 44; refine (HV.out _ HT3.out).mono ?_; rintro e w' ⟨rfl, rfl⟩)
  refine bodyPost_ret (v := .tuple #[.agg #[.int .i64 0, .int .i64 0, .int .i64 0, .int .i64 0], .int .i64 13]) (by simp [results, Tryz.results184, go_sem, x0, x1, x2, x3]) rfl ⟨rfl, ?_⟩
  first | exact HTE.out | exact (((HTE.out.setCell (.inr (Nat.le_refl _)) _).setCell (.inr (Nat.le_refl _)) _).setCell (.inr (Nat.le_refl _)) _).setCell (.inr (Nat.le_refl _)) _

/-- Whatever stands there. -/
theorem read_none (v : Value) (l : List Int) (ao : Option Addr) (len cap : Nat) (cs : List Cls) (t : Int) (w : World) (hl : l.length ≤ 65536) (hv : AnyMem w v l) (hc : CRd w ao len cs) (ht : In64 t) (h : readOf l cs t = none) :
    Calls Tryz.prog 184 #[v, .slice ao len cap, .int .i64 t] w fun e w' => e = .returned (.tuple #[.agg #[.int .i64 0, .int .i64 0, .int .i64 0, .int .i64 0], .int .i64 (readE l cs t)]) ∧ Turned [] w w' := by
  unfold readE
  rw [h]
  cases hx : wordAt l t with
  | none =>
    simp only [Option.isNone_none, if_true]
    exact read_out v l ao len cap t w hl hv ht hx
  | some x =>
    simp only [Option.isNone_some, Option.isNone_none, if_true]
    rw [if_neg (by simp)]
    unfold readOf at h
    simp only [hx] at h
    by_cases h1 : isHead x = true
    · by_cases h2 : (sizeOf cs (partC x) (partL x)).2 = 0
      · refine read_room v l ao len cap cs t x w hl hv hc hx h1 h2 ?_
        by_cases h3 : (sizeOf cs (partC x) (partL x)).1 ≤ l.length - t
        · rw [if_pos ⟨h1, h2, h3⟩] at h
          cases h
        · omega
      · exact read_size v l ao len cap cs t x w hl hv hc hx h1 h2
    · exact read_word v l ao len cap t x w hl hv hx (by simpa using h1)
end Go.Proofs.YtgbclfhgpkmcnaaGreatDoor

/-
  Blocks, cell by cell ('flat'). No Go is walked here.
-/
namespace Go.Proofs.YtgbclfhgpkmcnaaGreatDoor
open Go.RowKit
set_option linter.unusedVariables false

theorem Tryz.infoBlock : (Tryz.prog.info? 54).map (fun i => (i.zero, i.size, i.bytes)) = some (some (.agg #[.int .i64 0, .int .i64 0, .int .i64 0, .int .i64 0]), 4, 32) := by kernel_rfl

def flat (bs : List Blk) : List Value := bs.flatMap Blk.cells
theorem flat_snoc (bs : List Blk) (b : Blk) : flat (bs ++ [b]) = flat bs ++ b.cells := by simp [flat]
theorem flat_length (bs : List Blk) : (flat bs).length = bs.length * 4 := by
  induction bs with
  | nil => rfl
  | cons b bs ih =>
    show (b.cells ++ flat bs).length = _
    rw [List.length_append, ih, List.length_cons]
    simp [Blk.cells]
    omega
theorem Blk.cells_one (b : Blk) : ∀ u ∈ b.cells, u.oneCell' = true := by
  intro u hu
  simp [Blk.cells] at hu
  rcases hu with rfl | rfl | rfl | rfl <;> rfl
end Go.Proofs.YtgbclfhgpkmcnaaGreatDoor

/-
  A block's references, as words. No Go is walked here.
-/
namespace Go.Proofs.YtgbclfhgpkmcnaaGreatDoor
open Go.RowKit
/-- What a block's references are. -/
def refWords (l : List Int) (cs : List Cls) (b : Blk) : List Int := (rowTo (refsOf cs b.k b.n).toNat).filterMap fun i => wordAt l (b.t + i)
end Go.Proofs.YtgbclfhgpkmcnaaGreatDoor

/-
  Objects among blocks, and what is reached, without memory.
-/
namespace Go.Proofs.YtgbclfhgpkmcnaaGreatDoor
open Go.RowKit
set_option linter.unusedVariables false

/-- The objects among blocks, by their addresses: the last one of an address counts. -/
def objAdd (f : Int → Option Blk) (b : Blk) : Int → Option Blk := if b.k = 0 then f else fun x => if x = b.t then some b else f x
def objOf (bs : List Blk) : Int → Option Blk := bs.foldl objAdd (fun _ => none)
theorem objOf_snoc (bs : List Blk) (b : Blk) : objOf (bs ++ [b]) = objAdd (objOf bs) b := by simp [objOf, List.foldl_append]
theorem objAdd_some {f : Int → Option Blk} {b c : Blk} {x : Int} (h : objAdd f b x = some c) : f x = some c ∨ (c = b ∧ b.k ≠ 0 ∧ x = b.t) := by
  unfold objAdd at h
  split at h
  · exact .inl h
  · rename_i hk
    simp only at h
    split at h
    · rename_i hx
      injection h with h
      exact .inr ⟨h.symm, hk, hx⟩
    · exact .inl h
theorem objOf_from (bs : List Blk) : ∀ (f : Int → Option Blk) x c, bs.foldl objAdd f x = some c → f x = some c ∨ (c ∈ bs ∧ c.k ≠ 0 ∧ x = c.t) := by
  induction bs with
  | nil => intro f x c h; exact .inl h
  | cons b bs ih =>
    intro f x c h
    rcases ih _ _ _ h with h1 | ⟨h1, h2, h3⟩
    · rcases objAdd_some h1 with h2 | ⟨rfl, h3, h4⟩
      · exact .inl h2
      · exact .inr ⟨by simp, h3, h4⟩
    · exact .inr ⟨by simp [h1], h2, h3⟩
theorem objOf_some {bs : List Blk} {x : Int} {c : Blk} (h : objOf bs x = some c) : c ∈ bs ∧ c.k ≠ 0 ∧ x = c.t := by
  rcases objOf_from bs _ _ _ h with h1 | h1
  · cases h1
  · exact h1
theorem objOf_keep (bs : List Blk) : ∀ (f : Int → Option Blk) x, (∀ b, b ∈ bs → b.t ≠ x) → bs.foldl objAdd f x = f x := by
  induction bs with
  | nil => intro f x _; rfl
  | cons b bs ih =>
    intro f x h
    show bs.foldl objAdd (objAdd f b) x = f x
    rw [ih _ _ (fun c hc => h c (by simp [hc]))]
    unfold objAdd
    split
    · rfl
    · show (if x = b.t then some b else f x) = f x
      rw [if_neg (fun e => h b (by simp) e.symm)]
/-- Where no two blocks have one address, each object is found by its own. -/
theorem objOf_mem (bs : List Blk) : ∀ (f : Int → Option Blk), bs.Pairwise (fun a b => a.t ≠ b.t) → ∀ c, c ∈ bs → c.k ≠ 0 → bs.foldl objAdd f c.t = some c := by
  induction bs with
  | nil => intro f _ c hc; cases hc
  | cons b bs ih =>
    intro f hp c hc hk
    obtain ⟨h1, h2⟩ := List.pairwise_cons.1 hp
    rcases List.mem_cons.1 hc with rfl | hc
    · show bs.foldl objAdd (objAdd f c) c.t = some c
      rw [objOf_keep _ _ _ (fun d hd e => h1 d hd e.symm)]
      unfold objAdd
      rw [if_neg hk]
      show (if c.t = c.t then some c else f c.t) = some c
      rw [if_pos rfl]
    · exact ih _ h2 c hc hk

/-- What is reached from roots: f, the objects; g, the words of a block's references. -/
inductive Rch (f : Int → Option Blk) (g : Blk → List Int) (rs : List Int) : Int → Prop
  | root {r : Int} : r ∈ rs → r ≠ 0 → Rch f g rs r
  | next {x y : Int} {b : Blk} : Rch f g rs x → f x = some b → y ∈ g b → y ≠ 0 → Rch f g rs y
theorem Rch.mono {f : Int → Option Blk} {g : Blk → List Int} {rs rs' : List Int} (h : ∀ r, r ∈ rs → r ∈ rs') {x : Int} (hx : Rch f g rs x) : Rch f g rs' x := by
  induction hx with
  | root h1 h2 => exact .root (h _ h1) h2
  | next _ h1 h2 h3 ih => exact .next ih h1 h2 h3

/-- Some reference on the way leads nowhere. -/
def Lost (f : Int → Option Blk) (g : Blk → List Int) (rs : List Int) : Prop := ∃ x, Rch f g rs x ∧ f x = none
/-- What is reached stays within whatever is closed under references. -/
theorem rch_closed {f : Int → Option Blk} {g : Blk → List Int} {rs : List Int} (S : Int → Prop) (h1 : ∀ r, r ∈ rs → r ≠ 0 → S r) (h2 : ∀ x b, S x → f x = some b → ∀ y, y ∈ g b → y ≠ 0 → S y) {x : Int} (h : Rch f g rs x) : S x := by
  induction h with
  | root h3 h4 => exact h1 _ h3 h4
  | next _ h3 h4 h5 ih => exact h2 _ _ ih h3 _ h4 h5

end Go.Proofs.YtgbclfhgpkmcnaaGreatDoor

/-
  What was walked, and what Reach tells, without memory.
-/
namespace Go.Proofs.YtgbclfhgpkmcnaaGreatDoor
open Go.RowKit
set_option linter.unusedVariables false

/-- What was walked: each block is read where it stands; they rise, and lie within. -/
theorem walkN_facts (l : List Int) (cs : List Cls) (to : Int) : ∀ (n : Nat) (t : Int) (bs : List Blk), walkN l cs to n t = some bs → (∀ b, b ∈ bs → t ≤ b.t ∧ b.t + b.s ≤ to ∧ readOf l cs b.t = some b) ∧ bs.Pairwise (fun a b => a.t + a.s ≤ b.t) ∧ (t ≤ to → (bs.length : Int) ≤ to - t)
  | 0, t, bs, h => by
    unfold walkN at h
    split at h
    · cases h
    · injection h with h
      subst h
      exact ⟨fun b hb => (by cases hb), List.Pairwise.nil, fun h => (by simp; omega)⟩
  | n + 1, t, bs, h => by
    unfold walkN at h
    split at h
    · split at h
      · cases h
      · rename_i b hb
        have hf := readOf_some hb
        split at h
        · rename_i hs
          obtain ⟨cs', h1, rfl⟩ := Option.map_eq_some_iff.1 h
          obtain ⟨h2, h3, h4⟩ := walkN_facts l cs to n (t + b.s) cs' h1
          refine ⟨fun c hc => ?_, List.pairwise_cons.2 ⟨fun c hc => ?_, h3⟩, fun ht => ?_⟩
          · rcases List.mem_cons.1 hc with rfl | hc
            · refine ⟨by omega, by omega, by rw [hf.1]; exact hb⟩
            · have := h2 c hc
              exact ⟨by omega, this.2⟩
          · have := (h2 c hc).1
            omega
          · have := h4 (by omega)
            simp only [List.length_cons]
            omega
        · cases h
    · injection h with h
      subst h
      exact ⟨fun b hb => (by cases hb), List.Pairwise.nil, fun h => (by simp; omega)⟩
structure Walked (l : List Int) (cs : List Cls) (f g : Int) (bs : List Blk) : Prop where
  each : ∀ b, b ∈ bs → f ≤ b.t ∧ b.t + b.s ≤ g ∧ readOf l cs b.t = some b
  rise : bs.Pairwise (fun a b => a.t + a.s ≤ b.t)
  few : (bs.length : Int) ≤ g - f
theorem walkOf_facts {l : List Int} {cs : List Cls} {f g : Int} {bs : List Blk} (hfg : f ≤ g) (h : walkOf l cs g f = some bs) : Walked l cs f g bs := by
  obtain ⟨h1, h2, h3⟩ := walkN_facts l cs g _ f bs h
  exact ⟨h1, h2, h3 hfg⟩
theorem Walked.apart {l : List Int} {cs : List Cls} {f g : Int} {bs : List Blk} (h : Walked l cs f g bs) : bs.Pairwise (fun a b => a.t ≠ b.t) := by
  have h2 := h.each
  refine List.Pairwise.imp_of_mem (fun {a b} ha hb hr => ?_) h.rise
  have := (readOf_some (h2 a ha).2.2).2.2.1
  omega

/-- The addresses that are told. -/
def toldOf (bs : List Blk) (R : List Int) : List Int := (bs.filter fun b => decide (b.t ∈ R)).map Blk.t
theorem toldOf_snoc (bs : List Blk) (b : Blk) (R : List Int) : toldOf (bs ++ [b]) R = toldOf bs R ++ if b.t ∈ R then [b.t] else [] := by
  unfold toldOf
  rw [List.filter_append, List.map_append]
  congr 1
  by_cases h : b.t ∈ R
  · simp [h]
  · simp [h]
theorem toldOf_length (bs : List Blk) (R : List Int) : (toldOf bs R).length ≤ bs.length := by
  unfold toldOf
  rw [List.length_map]
  exact List.length_filter_le _ _

/-- What Reach tells, of a heap that was walked. -/
def Reaches (bs : List Blk) (g : Blk → List Int) (rs : List Int) (w : World) (e : Ending) (w' : World) : Prop :=
  Turned [] w w' ∧ ((e = .returned (.tuple #[.slice none 0 0, .int .i64 13]) ∧ Lost (objOf bs) g rs) ∨ ∃ v R, e = .returned (.tuple #[v, .int .i64 0]) ∧ w'.ownsRow w.heap.size 3 1 v (toldOf bs R).length ((toldOf bs R).map (Value.int .i64)) ∧ (∀ x, x ∈ R ↔ Rch (objOf bs) g rs x) ∧ ¬ Lost (objOf bs) g rs)

end Go.Proofs.YtgbclfhgpkmcnaaGreatDoor

/-
  The document's way of reaching, without memory: words ahead ('T'), what was reached (a list of bools beside the blocks). No Go is walked here.
-/
namespace Go.Proofs.YtgbclfhgpkmcnaaGreatDoor
set_option linter.unusedVariables false

/-- The addresses of the blocks that were reached. -/
def addrs : List Blk → List Bool → List Int
  | b :: bs, r :: rs => (if r then [b.t] else []) ++ addrs bs rs
  | _, _ => []
theorem mem_addrs (bs : List Blk) : ∀ (R : List Bool) (x : Int), x ∈ addrs bs R ↔ ∃ (i : Nat) (b : Blk), bs[i]? = some b ∧ R[i]? = some true ∧ b.t = x := by
  induction bs with
  | nil => intro R x; simp [addrs]
  | cons b bs ih =>
    intro R x
    cases R with
    | nil => simp [addrs]
    | cons r R =>
      unfold addrs
      rw [List.mem_append, ih]
      constructor
      · rintro (h | ⟨i, c, h1, h2, h3⟩)
        · cases r with
          | false => simp at h
          | true => simp at h; exact ⟨0, b, rfl, rfl, h.symm⟩
        · exact ⟨i + 1, c, by simpa using h1, by simpa using h2, h3⟩
      · rintro ⟨i, c, h1, h2, h3⟩
        cases i with
        | zero =>
          simp at h1 h2
          subst h1 h2
          exact .inl (by simp [h3])
        | succ i => exact .inr ⟨i, c, by simpa using h1, by simpa using h2, h3⟩

/-- The words that are not ahead yet. -/
def leftOf (g : Blk → List Int) : List Blk → List Bool → Nat
  | b :: bs, r :: rs => (if r then 0 else (g b).length) + leftOf g bs rs
  | _, _ => 0
theorem leftOf_set (g : Blk → List Int) (bs : List Blk) : ∀ (R : List Bool) (i : Nat) (b : Blk), bs[i]? = some b → R[i]? = some false → leftOf g bs (R.set i true) + (g b).length = leftOf g bs R := by
  induction bs with
  | nil => intro R i b h; simp at h
  | cons c bs ih =>
    intro R i b h1 h2
    cases R with
    | nil => simp at h2
    | cons r R =>
      cases i with
      | zero =>
        simp at h1 h2
        subst h1 h2
        simp [leftOf]
        omega
      | succ i =>
        have := ih R i b (by simpa using h1) (by simpa using h2)
        simp only [List.set_cons_succ, leftOf]
        omega
theorem leftOf_new (g : Blk → List Int) (bs : List Blk) (m : Nat) (hm : ∀ b, b ∈ bs → (g b).length ≤ m) : ∀ R : List Bool, leftOf g bs R ≤ m * bs.length := by
  induction bs with
  | nil => intro R; simp [leftOf]
  | cons b bs ih =>
    intro R
    cases R with
    | nil => simp [leftOf]
    | cons r R =>
      have h1 := ih (fun c hc => hm c (by simp [hc])) R
      have h2 := hm b (by simp)
      have h3 : m * (bs.length + 1) = m * bs.length + m := by rw [Nat.mul_add, Nat.mul_one]
      simp only [leftOf, List.length_cons, h3]
      split <;> omega

structure RInv (bs : List Blk) (g : Blk → List Int) (rs T : List Int) (R : List Bool) : Prop where
  len : R.length = bs.length
  obj : ∀ (i : Nat) b, bs[i]? = some b → R[i]? = some true → b.k ≠ 0 ∧ Rch (objOf bs) g rs b.t
  sound : ∀ r, r ∈ T → r ≠ 0 → Rch (objOf bs) g rs r
  roots : ∀ r, r ∈ rs → r = 0 ∨ r ∈ T ∨ r ∈ addrs bs R
  refs : ∀ (i : Nat) b, bs[i]? = some b → R[i]? = some true → ∀ y, y ∈ g b → y = 0 ∨ y ∈ T ∨ y ∈ addrs bs R

section
variable {bs : List Blk} {g : Blk → List Int} {rs T : List Int} {R : List Bool}
theorem rinv_new (bs : List Blk) (g : Blk → List Int) (rs : List Int) : RInv bs g rs rs (List.replicate bs.length false) where
  len := by simp
  obj := fun i b _ h => by rw [List.getElem?_replicate] at h; split at h <;> simp at h
  sound := fun r hr h0 => .root hr h0
  roots := fun r hr => .inr (.inl hr)
  refs := fun i b _ h => by rw [List.getElem?_replicate] at h; split at h <;> simp at h

theorem RInv.pop (h : RInv bs g rs T R) {r : Int} {T' : List Int} (e : T = r :: T') (hr : r = 0 ∨ r ∈ addrs bs R) : RInv bs g rs T' R := by
  subst e
  refine ⟨h.len, h.obj, fun x hx => h.sound x (by simp [hx]), fun x hx => ?_, fun i b hb hR y hy => ?_⟩
  · rcases h.roots x hx with h1 | h1 | h1
    · exact .inl h1
    · simp at h1
      rcases h1 with rfl | h1
      · rcases hr with hr | hr
        · exact .inl hr
        · exact .inr (.inr hr)
      · exact .inr (.inl h1)
    · exact .inr (.inr h1)
  · rcases h.refs i b hb hR y hy with h1 | h1 | h1
    · exact .inl h1
    · simp at h1
      rcases h1 with rfl | h1
      · rcases hr with hr | hr
        · exact .inl hr
        · exact .inr (.inr hr)
      · exact .inr (.inl h1)
    · exact .inr (.inr h1)

theorem RInv.mark (h : RInv bs g rs T R) {r : Int} {T' : List Int} (e : T = r :: T') (h0 : r ≠ 0) {i : Nat} {b : Blk} (hb : bs[i]? = some b) (hk : b.k ≠ 0) (ht : b.t = r) (ho : objOf bs r = some b) : RInv bs g rs (T' ++ g b) (R.set i true) := by
  subst e
  have hR : Rch (objOf bs) g rs r := h.sound r (by simp) h0
  have hi : i < R.length := by rw [h.len]; exact (List.getElem?_eq_some_iff.1 hb).1
  have hset : ∀ j : Nat, (R.set i true)[j]? = some true ↔ j = i ∨ R[j]? = some true := by
    intro j
    rw [List.getElem?_set]
    by_cases e : i = j
    · subst e; simp [hi]
    · simp [e, Ne.symm e]
  have hmono : ∀ x, x ∈ addrs bs R → x ∈ addrs bs (R.set i true) := fun x hx => by
    rw [mem_addrs] at hx ⊢
    obtain ⟨j, c, h1, h2, h3⟩ := hx
    exact ⟨j, c, h1, (hset j).2 (.inr h2), h3⟩
  have hr : r ∈ addrs bs (R.set i true) := (mem_addrs _ _ _).2 ⟨i, b, hb, (hset i).2 (.inl rfl), ht⟩
  have conv : ∀ x, (x = 0 ∨ x ∈ r :: T' ∨ x ∈ addrs bs R) → x = 0 ∨ x ∈ T' ++ g b ∨ x ∈ addrs bs (R.set i true) := fun x hx => by
    rcases hx with h1 | h1 | h1
    · exact .inl h1
    · simp at h1
      rcases h1 with rfl | h1
      · exact .inr (.inr hr)
      · exact .inr (.inl (by simp [h1]))
    · exact .inr (.inr (hmono x h1))
  refine ⟨by simp [h.len], fun j c hc hRj => ?_, fun x hx hx0 => ?_, fun x hx => conv x (h.roots x hx), fun j c hc hRj y hy => ?_⟩
  · rcases (hset j).1 hRj with rfl | h2
    · rw [hb] at hc; cases hc
      exact ⟨hk, by rw [ht]; exact hR⟩
    · exact h.obj j c hc h2
  · rcases List.mem_append.1 hx with h1 | h1
    · exact h.sound x (by simp [h1]) hx0
    · exact .next hR ho h1 hx0
  · rcases (hset j).1 hRj with rfl | h2
    · rw [hb] at hc; cases hc
      exact .inr (.inl (by simp [hy]))
    · exact conv y (h.refs j c hc h2 y hy)

theorem RInv.ends (h : RInv bs g rs [] R) (hp : bs.Pairwise (fun a b => a.t ≠ b.t)) : (∀ x, x ∈ addrs bs R ↔ Rch (objOf bs) g rs x) ∧ ¬ Lost (objOf bs) g rs := by
  have hf : ∀ x, x ∈ addrs bs R → ∃ (i : Nat) (b : Blk), bs[i]? = some b ∧ R[i]? = some true ∧ objOf bs x = some b := fun x hx => by
    obtain ⟨i, b, h1, h2, h3⟩ := (mem_addrs _ _ _).1 hx
    have h4 := objOf_mem bs (fun _ => none) hp b (List.mem_of_getElem? h1) (h.obj i b h1 h2).1
    exact ⟨i, b, h1, h2, by rw [← h3]; exact h4⟩
  have hall : ∀ x, Rch (objOf bs) g rs x → x ∈ addrs bs R := by
    intro x hx
    induction hx with
    | root hr h0 =>
      rcases h.roots _ hr with h1 | h1 | h1
      · exact absurd h1 h0
      · simp at h1
      · exact h1
    | next _ hfx hy h0 ih =>
      obtain ⟨i, b, h1, h2, h3⟩ := hf _ ih
      rw [hfx] at h3
      cases h3
      rcases h.refs i _ h1 h2 _ hy with h4 | h4 | h4
      · exact absurd h4 h0
      · simp at h4
      · exact h4
  refine ⟨fun x => ⟨fun hx => ?_, hall x⟩, fun ⟨x, hx, hn⟩ => ?_⟩
  · obtain ⟨i, b, h1, h2, h3⟩ := (mem_addrs _ _ _).1 hx
    rw [← h3]
    exact (h.obj i b h1 h2).2
  · obtain ⟨i, b, _, _, h3⟩ := hf x (hall x hx)
    rw [hn] at h3
    cases h3

theorem RInv.lost (h : RInv bs g rs T R) {r : Int} {T' : List Int} (e : T = r :: T') (h0 : r ≠ 0) (hn : objOf bs r = none) : Lost (objOf bs) g rs :=
  ⟨r, h.sound r (by rw [e]; simp) h0, hn⟩
end

/-- What is told, block by block. -/
def toldTo : List Blk → List Bool → List Int
  | b :: bs, r :: rs => (if r then [b.t] else []) ++ toldTo bs rs
  | _, _ => []
theorem told_take (bs : List Blk) : ∀ (R : List Bool) (k : Nat) (b : Blk) (r : Bool), bs[k]? = some b → R[k]? = some r → toldTo (bs.take (k + 1)) (R.take (k + 1)) = toldTo (bs.take k) (R.take k) ++ if r then [b.t] else [] := by
  induction bs with
  | nil => intro R k b r h; simp at h
  | cons c bs ih =>
    intro R k b r h1 h2
    cases R with
    | nil => simp at h2
    | cons q R =>
      cases k with
      | zero =>
        simp at h1 h2
        subst h1 h2
        simp [toldTo]
      | succ k =>
        have := ih R k b r (by simpa using h1) (by simpa using h2)
        simp only [List.take_succ_cons, toldTo] at this ⊢
        rw [this, List.append_assoc]
theorem told_all (bs : List Blk) : ∀ (R : List Bool), R.length = bs.length → bs.Pairwise (fun a b => a.t ≠ b.t) → ∀ S : List Int, (∀ (i : Nat) b, bs[i]? = some b → (b.t ∈ S ↔ R[i]? = some true)) → toldTo bs R = toldOf bs S := by
  induction bs with
  | nil => intro R _ _ S _; simp [toldTo, toldOf]
  | cons c bs ih =>
    intro R hl hp S hS
    cases R with
    | nil => simp at hl
    | cons q R =>
      obtain ⟨_, hp2⟩ := List.pairwise_cons.1 hp
      have h1 := ih R (by simpa using hl) hp2 S (fun i b hb => by simpa using hS (i + 1) b (by simpa using hb))
      have h2 := hS 0 c rfl
      unfold toldTo toldOf
      rw [h1]
      simp at h2
      by_cases hc : c.t ∈ S
      · have : q = true := h2.1 hc
        simp [hc, this, toldOf]
      · have : q = false := by cases q with
          | false => rfl
          | true => exact absurd (h2.2 rfl) hc
        simp [hc, this, toldOf]
theorem told_addrs {bs : List Blk} {R : List Bool} (hl : R.length = bs.length) (hp : bs.Pairwise (fun a b => a.t ≠ b.t)) : toldTo bs R = toldOf bs (addrs bs R) := by
  refine told_all bs R hl hp _ (fun i b hb => ?_)
  rw [mem_addrs]
  constructor
  · rintro ⟨j, c, h1, h2, h3⟩
    have : i = j := Classical.byContradiction fun hne => by
      have hi := (List.getElem?_eq_some_iff.1 hb)
      have hj := (List.getElem?_eq_some_iff.1 h1)
      obtain ⟨hi1, hi2⟩ := hi
      obtain ⟨hj1, hj2⟩ := hj
      rcases Nat.lt_or_gt_of_ne hne with h4 | h4
      · have := List.pairwise_iff_getElem.1 hp i j hi1 hj1 h4
        rw [hi2, hj2] at this
        exact this h3.symm
      · have := List.pairwise_iff_getElem.1 hp j i hj1 hi1 h4
        rw [hi2, hj2] at this
        exact this h3
    subst this
    exact h2
  · intro h
    exact ⟨i, b, hb, h, rfl⟩
theorem toldOf_congr (bs : List Blk) {R S : List Int} (h : ∀ x, x ∈ R ↔ x ∈ S) : toldOf bs R = toldOf bs S := by
  unfold toldOf
  congr 1
  apply List.filter_congr
  intro b _
  simp [h]
end Go.Proofs.YtgbclfhgpkmcnaaGreatDoor

/-
  What Lay and Fill do to a memory.
-/
namespace Go.Proofs.YtgbclfhgpkmcnaaGreatDoor
open Go.RowKit
set_option linter.unusedVariables false

theorem laid_row (w : World) (g m : Nat) (k n : Int) (hm : 1 ≤ m) (hm2 : m ≤ 65536) (h : w.heap[g]? = some (.cells (((laid k n m).map (Value.int .i64)).toArray) 2)) : IsRow .i64 w (some ⟨g, 0, none⟩) m m (laid k n m) := by
  have hl := laid_length k n m hm
  refine .inr ⟨_, rfl, Nat.le_refl _, by unfold maxLen; omega, hl, fun i hi => ?_, fun x hx => ?_⟩
  · rw [show Addr.add ⟨g, 0, none⟩ i = ⟨g, i, none⟩ by simp [Addr.add]; intro e; omega, cell_of_heap h]
    rw [List.getElem?_toArray, List.getElem?_map, List.getD_eq_getElem?_getD, List.getElem?_eq_getElem hi]
    rfl
  · have hr := headOf_range k n
    have : x = headOf k n ∨ x = 0 := by
      unfold laid at hx
      rcases List.mem_cons.1 hx with h1 | h1
      · exact .inl h1
      · exact .inr (List.eq_of_mem_replicate h1)
    rcases this with rfl | rfl
    · exact WalkArith.wf_i64 (by omega)
    · rfl

theorem made_laid (m : Nat) (k n : Int) (hm : 1 ≤ m) : (madeCells #[Value.int .i64 0] m).setIfInBounds 0 (.int .i64 (headOf k n)) = ((laid k n m).map (Value.int .i64)).toArray := by
  obtain ⟨j, rfl⟩ : ∃ j, m = j + 1 := ⟨m - 1, by omega⟩
  rw [madeCells_zeros]
  simp [laid, List.replicate_succ]

theorem layS_eq (l : List Int) (cs : List Cls) (t k n : Int) (m : Nat) (he : (sizeOf cs k n).2 = 0) (hm : (sizeOf cs k n).1 = m) (h1 : 1 ≤ m) : layS l cs t k n = if putE l t (laid k n m) = 0 then (m : Int) else 0 := by
  unfold layS putE
  rw [laid_length k n m h1, hm]
  by_cases hf : 0 ≤ t ∧ t + (m : Int) ≤ l.length
  · rw [if_pos ⟨he, hf⟩, if_pos hf, if_pos rfl]
  · rw [if_neg (fun h => hf h.2), if_neg hf, if_neg (by decide)]

theorem sizeOf_filler (n : Int) (cs : List Cls) (h : 0 ≤ n ∧ n ≤ 65535) : sizeOf cs 0 n = (1 + n, 0) := by
  unfold sizeOf told
  simp only [clsAt, if_true]
  rw [if_pos (by exact h)]
  simp [gSize, Cls.rN, Cls.wN]
theorem crd_nil (w : World) : CRd w none 0 [] := ⟨rfl, by omega, fun i c h => by simp at h, fun c h => by simp at h⟩

/-- The words behind a fill. -/
def fillL (l : List Int) (f g : Int) : List Int := if 0 ≤ f ∧ f < g ∧ g ≤ l.length then putL l f (laid 0 (g - f - 1) (g - f).toNat) else l
def fillE (l : List Int) (f g : Int) : Int := if 0 ≤ f ∧ f ≤ g ∧ g ≤ l.length then 0 else 10
theorem fillL_length (l : List Int) (f g : Int) : (fillL l f g).length = l.length := by
  unfold fillL
  split
  · exact putL_length _ _ _
  · rfl

end Go.Proofs.YtgbclfhgpkmcnaaGreatDoor

/-
  Words that can be: each of 64 bits. No Go is walked here.
-/
namespace Go.Proofs.YtgbclfhgpkmcnaaGreatDoor
open Go.RowKit
set_option linter.unusedVariables false

def AllIn (l : List Int) : Prop := ∀ x, x ∈ l → In64 x
theorem allIn_zeros (n : Nat) : AllIn (List.replicate n 0) := fun x hx => by
  rw [List.eq_of_mem_replicate hx]
  unfold In64
  omega
theorem allIn_laid (k n : Int) (s : Nat) : AllIn (laid k n s) := fun x hx => by
  have hr := headOf_range k n
  unfold laid at hx
  rcases List.mem_cons.1 hx with rfl | h1
  · unfold In64
    omega
  · exact allIn_zeros _ x h1
theorem AllIn.put {l m : List Int} (h : AllIn l) (hm : AllIn m) (t : Int) : AllIn (putL l t m) := fun x hx => by
  unfold putL at hx
  split at hx
  · unfold over at hx
    rcases List.mem_append.1 hx with h1 | h1
    · rcases List.mem_append.1 h1 with h2 | h2
      · exact h x (List.mem_of_mem_take h2)
      · exact hm x h2
    · exact h x (List.mem_of_mem_drop h1)
  · exact h x hx
theorem AllIn.lay {l : List Int} (h : AllIn l) (cs : List Cls) (t k n : Int) : AllIn (layL l cs t k n) := by
  unfold layL
  split
  · exact h.put (allIn_laid _ _ _) t
  · exact h
theorem AllIn.fill {l : List Int} (h : AllIn l) (f g : Int) : AllIn (fillL l f g) := by
  unfold fillL
  split
  · exact h.put (allIn_laid _ _ _) f
  · exact h
end Go.Proofs.YtgbclfhgpkmcnaaGreatDoor

/-
  A slice of blocks that can be read.
-/
namespace Go.Proofs.YtgbclfhgpkmcnaaGreatDoor
open Go.RowKit
set_option linter.unusedVariables false

theorem flat_get (bs : List Blk) : ∀ (i : Nat) (b : Blk) (j : Nat), bs[i]? = some b → j < 4 → (flat bs)[i * 4 + j]? = b.cells[j]? := by
  induction bs with
  | nil => intro i b j h; simp at h
  | cons a bs ih =>
    intro i b j h hj
    show (a.cells ++ flat bs)[i * 4 + j]? = _
    have h4 : a.cells.length = 4 := rfl
    cases i with
    | zero =>
      simp at h
      subst h
      rw [Nat.zero_mul, Nat.zero_add, List.getElem?_append_left (by omega)]
    | succ i =>
      rw [List.getElem?_append_right (by omega), h4, show (i + 1) * 4 + j - 4 = i * 4 + j by omega]
      exact ih i b j (by simpa using h) hj

/-- A slice of blocks that can be read. -/
structure BlkRd (w : World) (ao : Option Addr) (len : Nat) (bs : List Blk) : Prop where
  size : bs.length = len
  cell : ∀ i b, bs[i]? = some b → ∃ g off, ao = some ⟨g, off, none⟩ ∧ w.cell? ⟨g, off + i * 4, none⟩ = some (.int .i64 b.t) ∧ w.cell? ⟨g, off + i * 4 + 1, none⟩ = some (.int .i64 b.k) ∧ w.cell? ⟨g, off + i * 4 + 2, none⟩ = some (.int .i64 b.n) ∧ w.cell? ⟨g, off + i * 4 + 3, none⟩ = some (.int .i64 b.s)
theorem BlkRd.turned {w w' : World} {ao : Option Addr} {len : Nat} {bs : List Blk} (h : BlkRd w ao len bs) (ht : Turned [] w w') : BlkRd w' ao len bs := by
  refine ⟨h.size, fun i c hc => ?_⟩
  obtain ⟨g, off, h0, h1, h2, h3, h4⟩ := h.cell i c hc
  exact ⟨g, off, h0, by rw [ht.cell (block_lt h1) (by simp)]; exact h1, by rw [ht.cell (block_lt h2) (by simp)]; exact h2, by rw [ht.cell (block_lt h3) (by simp)]; exact h3, by rw [ht.cell (block_lt h4) (by simp)]; exact h4⟩
theorem ownsRow_blks {w : World} {B : Nat} {v : Value} {n : Nat} {bs : List Blk} (h : w.ownsRow B 54 4 v n (flat bs)) : ∃ ao cap, v = .slice ao n cap ∧ BlkRd w ao n bs := by
  have hn : bs.length = n := by have := h.1; rw [flat_length] at this; omega
  rcases h.2 with ⟨hv, h0⟩ | ⟨g, cap, cur, hv, hg, hh, hc, _, _, ht⟩
  · subst h0
    refine ⟨none, 0, hv, hn, fun i b hb => ?_⟩
    have := (List.getElem?_eq_some_iff.1 hb).1
    omega
  · refine ⟨_, cap, hv, hn, fun i b hb => ⟨g, 0, rfl, ?_⟩⟩
    have h1 : ∀ j, j < 4 → w.cell? ⟨g, i * 4 + j, none⟩ = b.cells[j]? := fun j hj => by
      have hi := (List.getElem?_eq_some_iff.1 hb).1
      rw [cell_of_heap hh, ← flat_get bs i b j hb hj, ← ht, List.getElem?_take_of_lt (by omega), Array.getElem?_toList]
    refine ⟨?_, ?_, ?_, ?_⟩
    · rw [Nat.zero_add]; exact h1 0 (by omega)
    · rw [Nat.zero_add]; exact h1 1 (by omega)
    · rw [Nat.zero_add]; exact h1 2 (by omega)
    · rw [Nat.zero_add]; exact h1 3 (by omega)

theorem take_snoc {α : Type} {l : List α} {k : Nat} {x : α} (h : l[k]? = some x) : l.take (k + 1) = l.take k ++ [x] := by
  obtain ⟨h1, h2⟩ := List.getElem?_eq_some_iff.1 h
  rw [List.take_succ_eq_append_getElem h1, h2]

end Go.Proofs.YtgbclfhgpkmcnaaGreatDoor

/-
  What is laid is read, without memory. No Go is walked here.
-/
namespace Go.Proofs.YtgbclfhgpkmcnaaGreatDoor
set_option linter.unusedVariables false

theorem head_parts (k n : Int) : partC (headOf k n) = k % 16777216 ∧ partL (headOf k n) = n % 4294967296 ∧ isHead (headOf k n) = true := by
  have h1 : partC (headOf k n) = k % 16777216 := by unfold partC headOf; omega
  have h2 : partL (headOf k n) = n % 4294967296 := by unfold partL headOf; omega
  refine ⟨h1, h2, ?_⟩
  unfold isHead
  rw [h1, h2, decide_eq_true_iff]
  unfold headOf
  omega

/-- The words behind a put. -/
theorem put_word {l m : List Int} {t : Int} (h : 0 ≤ t ∧ t + m.length ≤ l.length) (x : Int) : wordAt (putL l t m) x = if t ≤ x ∧ x < t + m.length then m[(x - t).toNat]? else wordAt l x := by
  unfold putL
  rw [if_pos h]
  unfold wordAt
  by_cases h0 : 0 ≤ x
  · rw [if_pos h0, if_pos h0, over_get _ _ _ (by omega)]
    by_cases h1 : t ≤ x ∧ x < t + m.length
    · rw [if_pos (by omega), if_pos h1]
      congr 1
      omega
    · rw [if_neg (by omega), if_neg h1]
  · rw [if_neg h0, if_neg h0, if_neg (by omega)]
theorem laid_word {k n : Int} {s : Nat} (h : 1 ≤ s) (i : Nat) (hi : i < s) : (laid k n s)[i]? = some (if i = 0 then headOf k n else 0) := by
  unfold laid
  cases i with
  | zero => simp
  | succ j =>
    rw [List.getElem?_cons_succ, List.getElem?_replicate, if_pos (by omega), if_neg (by omega)]

/-- What is laid is read. -/
theorem read_laid {l : List Int} {cs : List Cls} {t k n : Int} {m : Int} (hs : sizeOf cs k n = (m, 0)) (hk : 0 ≤ k ∧ k < 16777216) (hn : 0 ≤ n ∧ n < 4294967296) (ht : 0 ≤ t ∧ t + m ≤ l.length) : readOf (putL l t (laid k n m.toNat)) cs t = some ⟨t, k, n, m⟩ := by
  have h0 : (sizeOf cs k n).2 = 0 := by rw [hs]
  have h1 := sizeOf_ok h0
  rw [hs] at h1
  simp only at h1
  have hl : (laid k n m.toNat).length = m.toNat := laid_length _ _ _ (by omega)
  have hw : wordAt (putL l t (laid k n m.toNat)) t = some (headOf k n) := by
    rw [put_word (by omega), if_pos (by omega), show (t - t).toNat = 0 by omega, laid_word (by omega) 0 (by omega), if_pos rfl]
  obtain ⟨p1, p2, p3⟩ := head_parts k n
  rw [show k % 16777216 = k by omega] at p1
  rw [show n % 4294967296 = n by omega] at p2
  unfold readOf
  simp only [hw, p1, p2, p3, hs]
  rw [if_pos ⟨trivial, trivial, by rw [putL_length]; omega⟩]
/-- A block whose words stay is read as before. -/
theorem read_keep {l l' : List Int} {cs : List Cls} {t : Int} {b : Blk} (h : readOf l cs t = some b) (hl : l'.length = l.length) (hw : wordAt l' t = wordAt l t) : readOf l' cs t = some b := by
  unfold readOf at *
  rw [hw, hl]
  exact h
/-- One block from a place to another. -/
theorem walk_one {l : List Int} {cs : List Cls} {t g : Int} {b : Blk} (h : readOf l cs t = some b) (hg : g = t + b.s) : walkOf l cs g t = some [b] := by
  have h1 := (readOf_some h).2.2.1
  rw [walkOf_step (by omega) h (by omega), walkOf_end (by omega)]
  rfl
/-- A filler is read. -/
theorem read_fill {l : List Int} {cs : List Cls} {f g : Int} (h : 0 ≤ f ∧ f < g ∧ g ≤ l.length) (hl : l.length ≤ 65536) : readOf (fillL l f g) cs f = some ⟨f, 0, g - f - 1, g - f⟩ := by
  unfold fillL
  rw [if_pos h]
  have hz := sizeOf_filler (g - f - 1) cs (by omega)
  rw [show (1 + (g - f - 1) : Int) = g - f by omega] at hz
  exact read_laid hz (by omega) (by omega) (by omega)
theorem fill_word {l : List Int} {f g : Int} (x : Int) (h : ¬ (0 ≤ f ∧ f ≤ g ∧ g ≤ l.length) ∨ x < f ∨ g ≤ x) : wordAt (fillL l f g) x = wordAt l x := by
  unfold fillL
  split
  · rename_i h1
    have hl : (laid 0 (g - f - 1) (g - f).toNat).length = (g - f).toNat := laid_length _ _ _ (by omega)
    rw [put_word (by omega), if_neg (by omega)]
  · rfl
end Go.Proofs.YtgbclfhgpkmcnaaGreatDoor

/-
  Blocks one behind the other, and where references stand, without memory. No Go is walked here.
-/
namespace Go.Proofs.YtgbclfhgpkmcnaaGreatDoor
set_option linter.unusedVariables false

/-- Blocks one behind the other, from a place to another one. -/
def conn : Int → List Blk → Int → Prop
  | t, [], u => t = u
  | t, b :: bs, u => b.t = t ∧ 1 ≤ b.s ∧ conn (t + b.s) bs u
theorem conn_snoc : ∀ (bs : List Blk) (t u : Int) (b : Blk), conn t bs u → b.t = u → 1 ≤ b.s → conn t (bs ++ [b]) (u + b.s)
  | [], t, u, b, h, hb, hs => by
    have h : t = u := h
    subst h
    exact ⟨hb, hs, rfl⟩
  | c :: bs, t, u, b, ⟨h1, h2, h3⟩, hb, hs => ⟨h1, h2, conn_snoc bs _ u b h3 hb hs⟩
theorem conn_le : ∀ (bs : List Blk) (t u : Int), conn t bs u → t ≤ u ∧ ∀ b, b ∈ bs → t ≤ b.t ∧ b.t + b.s ≤ u ∧ 1 ≤ b.s
  | [], t, u, h => by
    have h : t = u := h
    subst h
    exact ⟨Int.le_refl _, fun b hb => by cases hb⟩
  | c :: bs, t, u, ⟨h1, h2, h3⟩ => by
    obtain ⟨h4, h5⟩ := conn_le bs _ u h3
    refine ⟨by omega, fun b hb => ?_⟩
    rcases List.mem_cons.1 hb with rfl | hb
    · exact ⟨by omega, by omega, h2⟩
    · have := h5 b hb
      exact ⟨by omega, this.2⟩
theorem conn_apart : ∀ (bs : List Blk) (t u : Int), conn t bs u → bs.Pairwise (fun a b => a.t + a.s ≤ b.t)
  | [], t, u, h => List.Pairwise.nil
  | c :: bs, t, u, ⟨h1, h2, h3⟩ => List.pairwise_cons.2 ⟨fun b hb => by have := ((conn_le bs _ u h3).2 b hb).1; omega, conn_apart bs _ u h3⟩
theorem pair_mem {bs : List Blk} (h : bs.Pairwise (fun a b => a.t + a.s ≤ b.t)) : ∀ a b, a ∈ bs → b ∈ bs → a = b ∨ a.t + a.s ≤ b.t ∨ b.t + b.s ≤ a.t := by
  induction bs with
  | nil => intro a b ha; cases ha
  | cons c bs ih =>
    obtain ⟨h1, h2⟩ := List.pairwise_cons.1 h
    intro a b ha hb
    rcases List.mem_cons.1 ha with ea | ha2
    · rcases List.mem_cons.1 hb with eb | hb2
      · exact .inl (by rw [ea, eb])
      · subst ea; exact .inr (.inl (h1 b hb2))
    · rcases List.mem_cons.1 hb with eb | hb2
      · subst eb; exact .inr (.inr (h1 a ha2))
      · exact ih h2 a b ha2 hb2

/-- References stand within their object. -/
theorem refs_within {cs : List Cls} {k n : Int} (h : (sizeOf cs k n).2 = 0) : refsOf cs k n + 1 ≤ (sizeOf cs k n).1 := by
  unfold refsOf sizeOf told at *
  split at h
  · simp at h
  · rename_i c hc
    split at h
    · rename_i hn
      have := clsAt_few hc hn
      simp only [if_pos hn, gSize, gRefs]
      omega
    · simp at h
theorem refWords_length (l : List Int) (cs : List Cls) (b : Blk) : ((refWords l cs b).length : Int) ≤ refsOf cs b.k b.n := by
  have h := refsOf_range cs b.k b.n
  unfold refWords
  have h1 := List.length_filterMap_le (fun i => wordAt l (b.t + i)) (rowTo (refsOf cs b.k b.n).toNat)
  rw [rowTo_length] at h1
  omega
theorem refWords_mem {l : List Int} {cs : List Cls} {b : Blk} {y : Int} (h : y ∈ refWords l cs b) : ∃ i : Int, 1 ≤ i ∧ i ≤ refsOf cs b.k b.n ∧ wordAt l (b.t + i) = some y := by
  unfold refWords at h
  obtain ⟨i, hi, hy⟩ := List.mem_filterMap.1 h
  have hr := refsOf_range cs b.k b.n
  unfold rowTo at hi
  obtain ⟨j, hj, rfl⟩ := List.mem_map.1 hi
  simp at hj
  exact ⟨(j : Int) + 1, by omega, by omega, hy⟩

end Go.Proofs.YtgbclfhgpkmcnaaGreatDoor

/-
  The heap of layer 11's statements (ballastref11.Heap), without memory: things laid one behind the other, then their words. No Go is walked here.
-/
namespace Go.Proofs.YtgbclfhgpkmcnaaGreatDoor
open Go.RowKit
set_option linter.unusedVariables false

/-- A thing to be laid. -/
structure Th where
  c : Int
  n : Int
  refs : List Int
/-- The classes that things are of. -/
def four : List Cls := [⟨2, 1, 0⟩, ⟨0, 0, 1⟩, ⟨0, 0, 2⟩, ⟨0, 1, 0⟩]
def Th.k (t : Th) : Int := 1 + t.c % 4
def Th.len (t : Th) : Int := if t.k = 2 ∨ t.k = 3 then t.n % 8 else 0
theorem Th.k_in (t : Th) : 1 ≤ t.k ∧ t.k ≤ 4 := by unfold Th.k; omega
theorem Th.len_in (t : Th) : 0 ≤ t.len ∧ t.len ≤ 7 := by unfold Th.len; split <;> omega

/-- While things are laid: the words, the addresses, where the next one goes. -/
structure Lay where
  l : List Int
  at_ : List Int
  top : Int
def Lay.fits (s : Lay) (t : Th) : Prop := layE s.l four s.top t.k t.len = 0
instance (s : Lay) (t : Th) : Decidable (s.fits t) := by unfold Lay.fits; infer_instance
def Lay.next (s : Lay) (t : Th) : Lay := ⟨layL s.l four s.top t.k t.len, s.at_ ++ [s.top], s.top + layS s.l four s.top t.k t.len⟩
def Lay.stop (s : Lay) (t : Th) : Lay := ⟨layL s.l four s.top t.k t.len, s.at_, s.top⟩
def layAll : Lay → List Th → Lay
  | s, [] => s
  | s, t :: ts => if s.fits t then layAll (s.next t) ts else s.stop t
theorem layAll_fits {s : Lay} {t : Th} {ts : List Th} (h : s.fits t) : layAll s (t :: ts) = layAll (s.next t) ts := by rw [layAll, if_pos h]
theorem layAll_not {s : Lay} {t : Th} {ts : List Th} (h : ¬ s.fits t) : layAll s (t :: ts) = s.stop t := by rw [layAll, if_neg h]

/-- What holds of a row of words and addresses. -/
structure Laid (N : Nat) (s : Lay) : Prop where
  len : s.l.length = N
  inn : AllIn s.l
  top : 1 ≤ s.top ∧ s.top ≤ N
  at_ : ∀ x, x ∈ s.at_ → 0 ≤ x ∧ x ≤ N
theorem layS_in (l : List Int) (cs : List Cls) (t k n : Int) (h : t ≤ l.length) : 0 ≤ layS l cs t k n ∧ t + layS l cs t k n ≤ l.length := by
  unfold layS
  split
  · rename_i h1
    have := sizeOf_ok h1.1
    omega
  · omega
theorem Laid.next {N : Nat} {s : Lay} (h : Laid N s) (t : Th) : Laid N (s.next t) := by
  have h1 := layS_in s.l four s.top t.k t.len (by rw [h.len]; exact h.top.2)
  rw [h.len] at h1
  refine ⟨by unfold Lay.next; rw [layL_length]; exact h.len, h.inn.lay _ _ _ _, ⟨?_, ?_⟩, fun x hx => ?_⟩
  · show 1 ≤ s.top + _
    have := h.top.1
    omega
  · exact h1.2
  · simp only [Lay.next, List.mem_append, List.mem_singleton] at hx
    rcases hx with hx | rfl
    · exact h.at_ x hx
    · have := h.top
      omega
theorem Laid.stop {N : Nat} {s : Lay} (h : Laid N s) (t : Th) : Laid N (s.stop t) :=
  ⟨by unfold Lay.stop; rw [layL_length]; exact h.len, h.inn.lay _ _ _ _, h.top, h.at_⟩

/-- One word behind a header: a number of its own, a reference, or nothing. -/
def setK (at_ refs : List Int) (i R : Nat) (t : Nat) (l : List Int) (k : Nat) : List Int :=
  if R < k then l.set (t + k) (100000 + 64 * (i : Int) + k) else
  match refs[k - 1]? with
  | some r => if 0 < r then l.set (t + k) (at_.getD (r.toNat % at_.length) 0) else l
  | none => l
def setRow (at_ refs : List Int) (i R t : Nat) : Nat → Nat → List Int → List Int
  | 0, _, l => l
  | m + 1, k, l => setRow at_ refs i R t m (k + 1) (setK at_ refs i R t l k)
/-- What is read at an address. -/
def blkAt (l : List Int) (t : Int) : Blk := (readOf l four t).getD Blk.zero
def refsOne (at_ : List Int) (l : List Int) (i : Nat) (t : Th) : List Int :=
  setRow at_ t.refs i (refWords l four (blkAt l (at_.getD i 0))).length (blkAt l (at_.getD i 0)).t.toNat ((blkAt l (at_.getD i 0)).s - 1).toNat 1 l
def refsAll (at_ : List Int) : List Th → Nat → Nat → List Int → List Int
  | t :: ts, i, m + 1, l => refsAll at_ ts (i + 1) m (refsOne at_ l i t)
  | _, _, _, l => l
/-- The words, and the addresses. -/
def heapOf (ths : List Th) (N : Nat) : List Int × List Int :=
  let s := layAll ⟨List.replicate N 0, [], 1⟩ ths
  (fillL (refsAll s.at_ ths 0 s.at_.length s.l) s.top N, s.at_)

theorem setK_length (at_ refs : List Int) (i R t : Nat) (l : List Int) (k : Nat) : (setK at_ refs i R t l k).length = l.length := by
  unfold setK
  split
  · simp
  · split
    · split <;> simp
    · rfl
theorem set_in {l : List Int} (h : AllIn l) (i : Nat) {x : Int} (hx : In64 x) : AllIn (l.set i x) := fun y hy => by
  rcases List.mem_or_eq_of_mem_set hy with h1 | rfl
  · exact h y h1
  · exact hx
theorem setK_in {at_ refs : List Int} {i R t : Nat} {l : List Int} {k : Nat} (h : AllIn l) (ha : ∀ x, x ∈ at_ → 0 ≤ x ∧ x ≤ 65536) (hi : i ≤ 65536) (hk : k ≤ 65536) : AllIn (setK at_ refs i R t l k) := by
  unfold setK
  split
  · exact set_in h _ (by unfold In64; omega)
  · split
    · split
      · refine set_in h _ ?_
        rw [List.getD_eq_getElem?_getD]
        cases hq : at_[(_ : Int).toNat % at_.length]? with
        | none => simp [In64]
        | some y =>
          have := ha y (List.mem_of_getElem? hq)
          simp only [Option.getD_some, In64]
          omega
      · exact h
    · exact h
/-- What is read lies within, or is nothing. -/
theorem blkAt_in (l : List Int) (t : Int) (h0 : 0 < l.length) : ∃ tn : Nat, (blkAt l t).t = tn ∧ tn < l.length ∧ 0 ≤ (blkAt l t).s ∧ (tn : Int) + (blkAt l t).s ≤ l.length ∧ In64 (blkAt l t).n := by
  unfold blkAt
  cases hr : readOf l four t with
  | none => exact ⟨0, rfl, h0, Int.le_refl 0, by simp [Blk.zero], by simp [Blk.zero, In64]⟩
  | some b =>
    obtain ⟨h1, h2, h3, h4, h5, h6, h7, x, h8, h9, h10, h11⟩ := readOf_some hr
    refine ⟨t.toNat, ?_, ?_, ?_, ?_, ?_⟩
    · simp only [Option.getD_some]; omega
    · omega
    · simp only [Option.getD_some]; omega
    · simp only [Option.getD_some]; omega
    · simp only [Option.getD_some]; rw [h11]; exact part_in64 x
end Go.Proofs.YtgbclfhgpkmcnaaGreatDoor

/-
  The heap of things is well formed, without memory: it can be walked as its objects and a filler, and what they refer to is among them. No Go is walked here.
-/
namespace Go.Proofs.YtgbclfhgpkmcnaaGreatDoor
set_option linter.unusedVariables false

/-- Objects one behind the other from 1 on; what they refer to is among them. -/
structure Ch (N : Nat) (L : List Int) (top : Int) (bs : List Blk) : Prop where
  len : L.length = N
  chain : conn 1 bs top
  low : top ≤ N
  read : ∀ b, b ∈ bs → readOf L four b.t = some b ∧ 1 ≤ b.k
  refs : ∀ b, b ∈ bs → ∀ i : Int, 1 ≤ i → i ≤ refsOf four b.k b.n → ∀ y, wordAt L (b.t + i) = some y → y = 0 ∨ ∃ c, c ∈ bs ∧ y = c.t

theorem ch_nil {N : Nat} (h : 1 ≤ N) : Ch N (List.replicate N 0) 1 [] :=
  ⟨List.length_replicate, rfl, by omega, fun b hb => (by cases hb), fun b hb => (by cases hb)⟩
section
variable {N : Nat} {L : List Int} {top : Int} {bs : List Blk}
theorem Ch.top1 (h : Ch N L top bs) : 1 ≤ top := (conn_le _ _ _ h.chain).1
theorem Ch.lay (h : Ch N L top bs) {k n m : Int} (hs : sizeOf four k n = (m, 0)) (hk : 1 ≤ k ∧ k ≤ 4) (hn : 0 ≤ n ∧ n ≤ 7) (hm : top + m ≤ N) :
    Ch N (putL L top (laid k n m.toNat)) (top + m) (bs ++ [⟨top, k, n, m⟩]) := by
  have h1 := h.top1
  have h2 := sizeOf_ok (cs := four) (k := k) (n := n) (by rw [hs])
  rw [hs] at h2
  simp only at h2
  have hl := h.len
  have hll : (laid k n m.toNat).length = m.toNat := laid_length _ _ _ (by omega)
  have w1 := fun x => put_word (l := L) (m := laid k n m.toNat) (t := top) (by omega) x
  obtain ⟨c1, c2⟩ := conn_le _ _ _ h.chain
  have hnew : readOf (putL L top (laid k n m.toNat)) four top = some ⟨top, k, n, m⟩ := read_laid hs (by omega) (by omega) (by omega)
  refine ⟨by rw [putL_length, hl], ?_, hm, fun b hb => ?_, fun b hb i hi1 hi2 y hy2 => ?_⟩
  · exact conn_snoc bs 1 top ⟨top, k, n, m⟩ h.chain rfl h2.1
  · rcases List.mem_append.1 hb with hb | hb
    · have := c2 b hb
      exact ⟨read_keep (h.read b hb).1 (putL_length _ _ _) (by rw [w1, if_neg (by omega)]), (h.read b hb).2⟩
    · simp at hb
      subst hb
      exact ⟨hnew, hk.1⟩
  · rcases List.mem_append.1 hb with hb | hb
    · have hc := c2 b hb
      have hr := readOf_some (h.read b hb).1
      have hw := refs_within hr.2.2.2.2.2.1
      rw [w1, if_neg (by omega)] at hy2
      rcases h.refs b hb i hi1 hi2 y hy2 with h5 | ⟨c, h5, h6⟩
      · exact .inl h5
      · exact .inr ⟨c, by simp [h5], h6⟩
    · simp at hb
      subst hb
      simp only at hi2 hy2
      have hw := refs_within (cs := four) (k := k) (n := n) (by rw [hs])
      rw [hs] at hw
      simp only at hw
      rw [w1, if_pos (by omega), laid_word (by omega) _ (by omega), if_neg (by omega)] at hy2
      injection hy2 with hy2
      exact .inl hy2.symm
theorem wordAt_set {l : List Int} {i : Nat} {x : Int} (hi : i < l.length) (t : Int) : wordAt (l.set i x) t = if t = i then some x else wordAt l t := by
  unfold wordAt
  by_cases h0 : 0 ≤ t
  · rw [if_pos h0, if_pos h0, List.getElem?_set]
    by_cases h1 : t = i
    · rw [if_pos (by omega), if_pos h1, if_pos hi]
    · rw [if_neg (by omega), if_neg h1]
  · rw [if_neg h0, if_neg h0, if_neg (by omega)]
/-- A word within an object is put: it is no reference, or refers to one of them. -/
theorem Ch.set (h : Ch N L top bs) {b : Blk} (hb : b ∈ bs) {i : Nat} {x : Int} (hx : b.t < i ∧ (i : Int) < b.t + b.s) (hv : refsOf four b.k b.n < i - b.t ∨ ∃ c, c ∈ bs ∧ x = c.t) : Ch N (L.set i x) top bs := by
  obtain ⟨c1, c2⟩ := conn_le _ _ _ h.chain
  have ha := conn_apart _ _ _ h.chain
  have hl := h.len
  have h3 := c2 b hb
  have hlow := h.low
  have w1 := fun z => wordAt_set (l := L) (i := i) (x := x) (by omega) z
  have hne : ∀ d, d ∈ bs → d.t ≠ i := fun d hd => by
    have h4 := c2 d hd
    rcases pair_mem ha d b hd hb with rfl | h5 | h5 <;> omega
  refine ⟨by rw [List.length_set, hl], h.chain, h.low, fun d hd => ?_, fun d hd j hj1 hj2 y hy2 => ?_⟩
  · exact ⟨read_keep (h.read d hd).1 (by simp) (by rw [w1, if_neg (by have := hne d hd; omega)]), (h.read d hd).2⟩
  · rw [w1] at hy2
    split at hy2
    · rename_i hz
      injection hy2 with hy2
      subst hy2
      have hr := readOf_some (h.read d hd).1
      have hw := refs_within hr.2.2.2.2.2.1
      have h4 := c2 d hd
      rcases pair_mem ha d b hd hb with rfl | h5 | h5
      · rcases hv with hv | hv
        · omega
        · exact .inr hv
      · omega
      · omega
    · exact h.refs d hd j hj1 hj2 y hy2
end

theorem th_size (t : Th) : (sizeOf four t.k t.len).2 = 0 := by
  have h1 := t.k_in
  unfold Th.len
  have hc : t.k = 1 ∨ t.k = 2 ∨ t.k = 3 ∨ t.k = 4 := by omega
  have hn : 0 ≤ t.n % 8 ∧ t.n % 8 ≤ 7 := by omega
  generalize t.n % 8 = n at *
  have hn2 : n = 0 ∨ n = 1 ∨ n = 2 ∨ n = 3 ∨ n = 4 ∨ n = 5 ∨ n = 6 ∨ n = 7 := by omega
  rcases hc with h | h | h | h <;> rw [h]
  · rw [if_neg (by omega)]; decide
  · rcases hn2 with rfl | rfl | rfl | rfl | rfl | rfl | rfl | rfl <;> decide
  · rcases hn2 with rfl | rfl | rfl | rfl | rfl | rfl | rfl | rfl <;> decide
  · rw [if_neg (by omega)]; decide
/-- What is laid down. -/
theorem layAll_ch {N : Nat} : ∀ (ts : List Th) (s : Lay) (bs : List Blk), Ch N s.l s.top bs → s.at_ = bs.map Blk.t → ∃ bs', Ch N (layAll s ts).l (layAll s ts).top bs' ∧ (layAll s ts).at_ = bs'.map Blk.t
  | [], s, bs, h, ha => ⟨bs, h, ha⟩
  | t :: ts, s, bs, h, ha => by
    have h0 := th_size t
    have h1 := sizeOf_ok h0
    have hk := t.k_in
    have hn := t.len_in
    have ht := h.top1
    have hl := h.len
    have hll : (laid t.k t.len (sizeOf four t.k t.len).1.toNat).length = (sizeOf four t.k t.len).1.toNat := laid_length _ _ _ (by omega)
    rw [layAll]
    split
    · rename_i hf
      unfold Lay.fits layE at hf
      rw [if_pos h0] at hf
      unfold putE at hf
      split at hf
      · rename_i hin
        have hm : s.top + (sizeOf four t.k t.len).1 ≤ N := by omega
        have e : s.next t = ⟨putL s.l s.top (laid t.k t.len (sizeOf four t.k t.len).1.toNat), s.at_ ++ [s.top], s.top + (sizeOf four t.k t.len).1⟩ := by
          unfold Lay.next layL layS
          rw [if_pos h0, if_pos ⟨h0, by omega, by omega⟩]
        refine layAll_ch ts (s.next t) (bs ++ [⟨s.top, t.k, t.len, (sizeOf four t.k t.len).1⟩]) ?_ ?_
        · rw [e]
          exact h.lay (m := (sizeOf four t.k t.len).1) (by rw [← h0]) hk hn hm
        · rw [e]
          simp [ha]
      · exact absurd hf (by decide)
    · rename_i hf
      refine ⟨bs, ?_, ha⟩
      have e : s.stop t = s := by
        unfold Lay.fits layE at hf
        rw [if_pos h0] at hf
        unfold Lay.stop layL
        rw [if_pos h0]
        unfold putE at hf
        unfold putL
        split at hf
        · exact absurd rfl hf
        · rename_i hin
          rw [if_neg hin]
      rw [e]
      exact h

section
variable {N : Nat} {L at_ : List Int} {top : Int} {bs : List Blk}
theorem Ch.refWords_len (h : Ch N L top bs) {b : Blk} (hb : b ∈ bs) : ((refWords L four b).length : Int) = refsOf four b.k b.n := by
  obtain ⟨c1, c2⟩ := conn_le _ _ _ h.chain
  have hr := readOf_some (h.read b hb).1
  have hw := refs_within hr.2.2.2.2.2.1
  have hg := refsOf_range four b.k b.n
  have key : ∀ m : Nat, (m : Int) ≤ refsOf four b.k b.n → ((rowTo m).filterMap fun i => wordAt L (b.t + i)).length = m := by
    intro m
    induction m with
    | zero => intro _; rfl
    | succ m ih =>
      intro hm
      have e : rowTo (m + 1) = rowTo m ++ [(m : Int) + 1] := by simp [rowTo, List.range_succ]
      rw [e, List.filterMap_append, List.length_append, ih (by omega)]
      have : ∃ y, wordAt L (b.t + ((m : Int) + 1)) = some y := by
        cases hy : wordAt L (b.t + ((m : Int) + 1)) with
        | some y => exact ⟨y, rfl⟩
        | none => have := wordAt_none hy; omega
      obtain ⟨y, hy⟩ := this
      simp [hy]
  unfold refWords
  rw [key _ (by omega)]
  omega
theorem Ch.setK (h : Ch N L top bs) {b : Blk} (hb : b ∈ bs) {refs : List Int} (hat : at_ = bs.map Blk.t) {i k tn : Nat} (ht : b.t = tn) (hk : 1 ≤ k ∧ (k : Int) < b.s) :
    Ch N (Go.Proofs.YtgbclfhgpkmcnaaGreatDoor.setK at_ refs i (refWords L four b).length tn L k) top bs := by
  have hR := h.refWords_len hb
  unfold Go.Proofs.YtgbclfhgpkmcnaaGreatDoor.setK
  split
  · refine h.set hb (by omega) (.inl ?_)
    omega
  · split
    · split
      · refine h.set hb (by omega) (.inr ?_)
        have hne : 0 < at_.length := by rw [hat, List.length_map]; exact List.length_pos_of_mem hb
        rename_i r hr h0
        have hlt : r.toNat % at_.length < at_.length := Nat.mod_lt _ hne
        have h5 : at_.getD (r.toNat % at_.length) 0 ∈ at_ := by
          rw [List.getD_eq_getElem?_getD, List.getElem?_eq_getElem hlt]
          exact List.getElem_mem hlt
        rw [hat] at h5
        obtain ⟨c, h6, h7⟩ := List.mem_map.1 h5
        exact ⟨c, h6, by rw [hat]; exact h7.symm⟩
      · exact h
    · exact h
theorem Ch.setRow (hat : at_ = bs.map Blk.t) {b : Blk} (hb : b ∈ bs) {refs : List Int} {i R tn : Nat} (ht : b.t = tn) (hR : (R : Int) = refsOf four b.k b.n) : ∀ (m k : Nat) (L : List Int), Ch N L top bs → 1 ≤ k → (k : Int) + m ≤ b.s → Ch N (Go.Proofs.YtgbclfhgpkmcnaaGreatDoor.setRow at_ refs i R tn m k L) top bs
  | 0, _, L, h, _, _ => h
  | m + 1, k, L, h, h1, h2 => by
    rw [Go.Proofs.YtgbclfhgpkmcnaaGreatDoor.setRow]
    have e : R = (refWords L four b).length := by have := h.refWords_len hb; omega
    refine Ch.setRow hat hb ht hR m (k + 1) _ ?_ (by omega) (by omega)
    rw [e]
    exact h.setK hb hat ht ⟨h1, by omega⟩
theorem Ch.refsOne (h : Ch N L top bs) (hat : at_ = bs.map Blk.t) {i : Nat} (hi : i < at_.length) (t : Th) : Ch N (Go.Proofs.YtgbclfhgpkmcnaaGreatDoor.refsOne at_ L i t) top bs := by
  have hi2 : i < bs.length := by rw [hat] at hi; simpa using hi
  have hb : bs[i] ∈ bs := List.getElem_mem hi2
  have e : at_.getD i 0 = bs[i].t := by
    rw [hat, List.getD_eq_getElem?_getD, List.getElem?_map, List.getElem?_eq_getElem hi2]
    rfl
  generalize hbb : bs[i] = b at hb e
  have hr := h.read b hb
  have h5 := readOf_some hr.1
  obtain ⟨tn, htn⟩ : ∃ tn : Nat, b.t = tn := ⟨b.t.toNat, by omega⟩
  unfold Go.Proofs.YtgbclfhgpkmcnaaGreatDoor.refsOne
  have e2 : blkAt L (at_.getD i 0) = b := by
    rw [e]
    unfold blkAt
    rw [hr.1]
    rfl
  rw [e2]
  refine Ch.setRow hat hb (by omega) (h.refWords_len hb) _ _ _ h (by omega) (by omega)
theorem Ch.refsAll (hat : at_ = bs.map Blk.t) : ∀ (ts : List Th) (i m : Nat) (L : List Int), Ch N L top bs → i + m ≤ at_.length → Ch N (Go.Proofs.YtgbclfhgpkmcnaaGreatDoor.refsAll at_ ts i m L) top bs
  | [], _, 0, L, h, _ => h
  | [], _, _ + 1, L, h, _ => h
  | _ :: _, _, 0, L, h, _ => h
  | t :: ts, i, m + 1, L, h, h1 => by
    rw [Go.Proofs.YtgbclfhgpkmcnaaGreatDoor.refsAll]
    exact Ch.refsAll hat ts (i + 1) m _ (h.refsOne hat (by omega) t) (by omega)
end

/-- The filler behind all objects. -/
def tail4 (N : Nat) (top : Int) : List Blk := if top < N then [⟨top, 0, N - top - 1, N - top⟩] else []
structure Hd (N : Nat) (L : List Int) (top : Int) (bs : List Blk) : Prop where
  chain : Ch N L top bs
  fill : top < N → readOf L four top = some ⟨top, 0, N - top - 1, N - top⟩
section
variable {N : Nat} {L : List Int} {top : Int} {bs : List Blk}
theorem Ch.fill (h : Ch N L top bs) (hN : N ≤ 65536) : Hd N (fillL L top N) top bs := by
  obtain ⟨c1, c2⟩ := conn_le _ _ _ h.chain
  have hl := h.len
  have w1 := fun x (hx : x < top) => fill_word (l := L) (f := top) (g := N) x (.inr (.inl hx))
  refine ⟨⟨by rw [fillL_length, hl], h.chain, h.low, fun b hb => ?_, fun b hb i hi1 hi2 y hy2 => ?_⟩, fun ht => ?_⟩
  · have := c2 b hb
    exact ⟨read_keep (h.read b hb).1 (fillL_length _ _ _) (w1 _ (by omega)), (h.read b hb).2⟩
  · have hc := c2 b hb
    have hr := readOf_some (h.read b hb).1
    have hw := refs_within hr.2.2.2.2.2.1
    rw [w1 _ (by omega)] at hy2
    exact h.refs b hb i hi1 hi2 y hy2
  · exact read_fill (l := L) (cs := four) (f := top) (g := N) (by omega) (by omega)
theorem walk_conn4 {tail : List Blk} {g : Int} : ∀ (bs : List Blk) (t top : Int), conn t bs top → (∀ b, b ∈ bs → readOf L four b.t = some b) → top ≤ g → walkOf L four g top = some tail → walkOf L four g t = some (bs ++ tail)
  | [], t, top, h, _, _, hw => by
    have h : t = top := h
    subst h
    exact hw
  | b :: bs, t, top, ⟨h1, h2, h3⟩, hr, hg, hw => by
    have h4 := (conn_le _ _ _ h3).1
    have h5 := hr b (by simp)
    rw [h1] at h5
    rw [walkOf_step (by omega) h5 (by omega), walk_conn4 bs _ top h3 (fun c hc => hr c (by simp [hc])) hg hw]
    rfl
theorem Hd.walk (h : Hd N L top bs) : walkOf L four N 1 = some (bs ++ tail4 N top) := by
  refine walk_conn4 bs 1 top h.chain.chain (fun b hb => (h.chain.read b hb).1) h.chain.low ?_
  unfold tail4
  split
  · rename_i ht
    exact walk_one (h.fill ht) (by simp only; omega)
  · have := h.chain.low
    exact walkOf_end (by omega)
/-- An address of an object leads to it. -/
theorem Hd.obj (h : Hd N L top bs) {b : Blk} (hb : b ∈ bs) : objOf (bs ++ tail4 N top) b.t = some b := by
  have h1 := h.chain.top1
  have h2 := h.chain.low
  have hw := walkOf_facts (by omega) h.walk
  exact objOf_mem _ _ hw.apart b (by simp [hb]) (by have := (h.chain.read b hb).2; omega)
theorem Hd.objs (h : Hd N L top bs) {x : Int} {b : Blk} (hx : objOf (bs ++ tail4 N top) x = some b) : b ∈ bs ∧ x = b.t := by
  obtain ⟨h1, h2, h3⟩ := objOf_some hx
  refine ⟨?_, h3⟩
  rcases List.mem_append.1 h1 with h4 | h4
  · exact h4
  · unfold tail4 at h4
    split at h4
    · simp at h4
      subst h4
      exact absurd rfl h2
    · cases h4
theorem Hd.refs (h : Hd N L top bs) {b : Blk} (hb : b ∈ bs) {y : Int} (hy : y ∈ refWords L four b) : y = 0 ∨ ∃ c, c ∈ bs ∧ y = c.t := by
  obtain ⟨i, h1, h2, h3⟩ := refWords_mem hy
  exact h.chain.refs b hb i h1 h2 y h3
/-- What is reached is an object. -/
theorem Hd.closed (h : Hd N L top bs) {rs : List Int} (hr : ∀ r, r ∈ rs → r = 0 ∨ ∃ b, b ∈ bs ∧ r = b.t) {x : Int} (hx : Rch (objOf (bs ++ tail4 N top)) (refWords L four) rs x) : ∃ b, b ∈ bs ∧ x = b.t := by
  refine rch_closed (fun x => ∃ b, b ∈ bs ∧ x = b.t) (fun r hr2 h0 => (hr r hr2).resolve_left h0) (fun x b hx hb y hy h0 => ?_) hx
  obtain ⟨c, hc, rfl⟩ := hx
  rw [h.obj hc] at hb
  injection hb with hb
  subst hb
  exact (h.refs hc hy).resolve_left h0
theorem Hd.found (h : Hd N L top bs) {rs : List Int} (hr : ∀ r, r ∈ rs → r = 0 ∨ ∃ b, b ∈ bs ∧ r = b.t) : ¬ Lost (objOf (bs ++ tail4 N top)) (refWords L four) rs := fun ⟨x, h1, h2⟩ => by
  obtain ⟨b, hb, rfl⟩ := h.closed hr h1
  rw [h.obj hb] at h2
  cases h2
end
theorem heapOf_hd (ths : List Th) (N : Nat) (hN : 1 ≤ N ∧ N ≤ 65536) : ∃ top bs, Hd N (heapOf ths N).1 top bs ∧ (heapOf ths N).2 = bs.map Blk.t := by
  obtain ⟨bs, h1, h2⟩ := layAll_ch ths ⟨List.replicate N 0, [], 1⟩ [] (ch_nil hN.1) rfl
  refine ⟨(layAll ⟨List.replicate N 0, [], 1⟩ ths).top, bs, ?_, h2⟩
  unfold heapOf
  exact (Ch.refsAll h2 ths 0 _ _ h1 (by omega)).fill hN.2
end Go.Proofs.YtgbclfhgpkmcnaaGreatDoor

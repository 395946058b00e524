/-
  Texts of the proof, several in one: CellsPutAny, BlocksPure, BlocksMem, BlocksLayW, BlocksAllIn, BlocksRefsP, BlocksRead, MarkDocP, BlocksFlat.
-/
import Derived.Test.YthpjlhfijkeciaaGreatDoorPack7
import Derived.Test.YthpjlhfijkeciaaGreatDoorPack5
import Derived.Test.YthpjlhfijkeciaaGreatDoorPack2
import Derived.Test.YthpjlhfijkeciaaGreatDoorPack12
/-
  Put of package cells, at whatever place and with whatever words that came in.
-/
namespace Go.Proofs.YthpjlhfijkeciaaGreatDoor
open Go.RowKit

theorem over_get (l : List Int) (k : Nat) (m : List Int) (h : k + m.length ≤ l.length) (i : Nat) : (over l k m)[i]? = if k ≤ i ∧ i < k + m.length then m[i - k]? else l[i]? := by
  unfold over
  have h1 : (l.take k).length = k := by simp; omega
  by_cases c1 : i < k
  · rw [if_neg (by omega), List.append_assoc, List.getElem?_append_left (by omega), List.getElem?_take_of_lt c1]
  · by_cases c2 : i < k + m.length
    · rw [if_pos ⟨by omega, c2⟩, List.getElem?_append_left (by simp; omega), List.getElem?_append_right (by omega), h1]
    · rw [if_neg (by omega), List.getElem?_append_right (by simp; omega), List.getElem?_drop]
      congr 1
      simp; omega

/-- What Put leaves: the words laid over, or all as it was. -/
def putL (l : List Int) (t : Int) (m : List Int) : List Int := if 0 ≤ t ∧ t + m.length ≤ l.length then over l t.toNat m else l
def putE (l : List Int) (t : Int) (m : List Int) : Int := if 0 ≤ t ∧ t + m.length ≤ l.length then 0 else 10
theorem putL_length (l : List Int) (t : Int) (m : List Int) : (putL l t m).length = l.length := by
  unfold putL
  split
  · exact over_length _ _ _ (by omega)
  · rfl

theorem put_any (p q : Nat) (l : List Int) (s t : Int) (a : Option Addr) (len cap : Nat) (zs : List Int) (w : World) (hl : l.length ≤ 65536) (h : Mem w p q l s) (hr : IsRow .i64 w a len cap zs) :
    Calls Tryz.prog 32 #[.pointer (some ⟨p, 0, none⟩), .int .i64 t, .slice a len cap] w fun e w' => e = .returned (.int .i64 (putE l t (zs.take len))) ∧ Mem w' p q (putL l t (zs.take len)) s ∧ Turned [p, q] w w' := by
  have hlen : (zs.take len).length = len := by
    rcases hr with ⟨_, h1, _, h2⟩ | ⟨x, _, h1, _, h2, _⟩
    · simp [h1]
    · simp; omega
  by_cases hf : 0 ≤ t ∧ t + len ≤ l.length
  · have e1 : putE l t (zs.take len) = 0 := by unfold putE; rw [hlen, if_pos hf]
    have e2 : putL l t (zs.take len) = over l t.toNat (zs.take len) := by unfold putL; rw [hlen, if_pos hf]
    rw [e1, e2]
    obtain ⟨k, rfl⟩ := Int.eq_ofNat_of_zero_le hf.1
    rw [Int.toNat_natCast]
    rcases hr.cases with h0 | ⟨b, off, rfl, hz, _, hb, hc, _⟩
    · subst h0
      refine (put_none p q l s k a cap w hl (by omega) h).mono fun e w' ⟨he, hw⟩ => ?_
      subst he hw
      refine ⟨rfl, ?_, Turned.refl _ _⟩
      have : over l k (zs.take 0) = l := by simp [over]
      rw [this]
      exact h
    · by_cases h0 : len = 0
      · subst h0
        refine (put_none p q l s k _ cap w hl (by omega) h).mono fun e w' ⟨he, hw⟩ => ?_
        subst he hw
        refine ⟨rfl, ?_, Turned.refl _ _⟩
        have : over l k (zs.take 0) = l := by simp [over]
        rw [this]
        exact h
      · have hp := put_in p q l s k b off cap (zs.take len) w hl (by omega) (by omega) h (fun j x hx => by
          have hj : j < len := by have := (List.getElem?_eq_some_iff.1 hx).1; omega
          rw [List.getElem?_take_of_lt hj] at hx
          rw [hc j hj, List.getD_eq_getElem?_getD, hx]
          rfl)
        rw [hlen] at hp
        exact hp
  · have e1 : putE l t (zs.take len) = 10 := by unfold putE; rw [hlen, if_neg hf]
    have e2 : putL l t (zs.take len) = l := by unfold putL; rw [hlen, if_neg hf]
    rw [e1, e2]
    refine (put_out p _ l.length _ t a len cap w hl h.c0 (by omega)).mono fun e w' ⟨he, hw⟩ => ?_
    subst he hw
    exact ⟨rfl, h, Turned.refl _ _⟩
end Go.Proofs.YthpjlhfijkeciaaGreatDoor

/-
  Blocks without memory: what is laid, read and walked in a list of words, as the document says it. No Go is walked here.
-/
namespace Go.Proofs.YthpjlhfijkeciaaGreatDoor
open Go.RowKit
set_option linter.unusedVariables false

theorem sizeOf_ok {cs : List Cls} {k n : Int} (h : (sizeOf cs k n).2 = 0) : 1 ≤ (sizeOf cs k n).1 ∧ (sizeOf cs k n).1 ≤ 65536 := by
  unfold sizeOf told at *
  split at h
  · simp at h
  · rename_i c hc
    split at h
    · rename_i hn
      have := clsAt_few hc hn
      simp only [if_pos hn, gSize]
      omega
    · simp at h
theorem sizeOf_bad {cs : List Cls} {k n : Int} (h : ¬ (sizeOf cs k n).2 = 0) : (sizeOf cs k n).1 = 0 ∧ ((sizeOf cs k n).2 = 11 ∨ (sizeOf cs k n).2 = 12) := by
  unfold sizeOf told at *
  split at h
  · simp
  · rename_i c hc
    split at h
    · simp at h
    · rename_i hn
      simp [if_neg hn]

/-- A block: its address, its class, its length, its size. -/
structure Blk where
  t : Int
  k : Int
  n : Int
  s : Int
  deriving DecidableEq
def Blk.cells (b : Blk) : List Value := [.int .i64 b.t, .int .i64 b.k, .int .i64 b.n, .int .i64 b.s]
def Blk.zero : Blk := ⟨0, 0, 0, 0⟩

/-- The word at a place, if there is a cell. -/
def wordAt (l : List Int) (t : Int) : Option Int := if 0 ≤ t then l[t.toNat]? else none
theorem wordAt_some {l : List Int} {t x : Int} (h : wordAt l t = some x) : ∃ i : Nat, t = i ∧ i < l.length ∧ l[i]? = some x := by
  unfold wordAt at h
  split at h
  · exact ⟨t.toNat, by omega, (List.getElem?_eq_some_iff.1 h).1, h⟩
  · cases h
theorem wordAt_none {l : List Int} {t : Int} (h : wordAt l t = none) : t < 0 ∨ (l.length : Int) ≤ t := by
  unfold wordAt at h
  split at h
  · have := List.getElem?_eq_none_iff.1 h
    omega
  · omega
theorem wordAt_nat {l : List Int} {i : Nat} : wordAt l (i : Int) = l[i]? := by
  unfold wordAt
  rw [if_pos (by omega), Int.toNat_natCast]

/-- What is laid: a header and zeros. -/
def laid (k n : Int) (s : Nat) : List Int := headOf k n :: List.replicate (s - 1) 0
theorem laid_length (k n : Int) (s : Nat) (h : 1 ≤ s) : (laid k n s).length = s := by simp [laid]; omega
/-- The words behind a lay, and what it tells: its size, its error. -/
def layL (l : List Int) (cs : List Cls) (t k n : Int) : List Int := if (sizeOf cs k n).2 = 0 then putL l t (laid k n (sizeOf cs k n).1.toNat) else l
def layS (l : List Int) (cs : List Cls) (t k n : Int) : Int := if (sizeOf cs k n).2 = 0 ∧ 0 ≤ t ∧ t + (sizeOf cs k n).1 ≤ l.length then (sizeOf cs k n).1 else 0
def layE (l : List Int) (cs : List Cls) (t k n : Int) : Int := if (sizeOf cs k n).2 = 0 then putE l t (laid k n (sizeOf cs k n).1.toNat) else (sizeOf cs k n).2
theorem layL_length (l : List Int) (cs : List Cls) (t k n : Int) : (layL l cs t k n).length = l.length := by
  unfold layL
  split
  · exact putL_length _ _ _
  · rfl

/-- What is read. -/
def readOf (l : List Int) (cs : List Cls) (t : Int) : Option Blk :=
  match wordAt l t with
  | none => none
  | some h => if isHead h = true ∧ (sizeOf cs (partC h) (partL h)).2 = 0 ∧ (sizeOf cs (partC h) (partL h)).1 ≤ l.length - t then some ⟨t, partC h, partL h, (sizeOf cs (partC h) (partL h)).1⟩ else none
def readE (l : List Int) (cs : List Cls) (t : Int) : Int := if (wordAt l t).isNone then 10 else if (readOf l cs t).isNone then 13 else 0
theorem readOf_some {l : List Int} {cs : List Cls} {t : Int} {b : Blk} (h : readOf l cs t = some b) :
    b.t = t ∧ 0 ≤ t ∧ 1 ≤ b.s ∧ b.s ≤ 65536 ∧ t + b.s ≤ l.length ∧ (sizeOf cs b.k b.n).2 = 0 ∧ b.s = (sizeOf cs b.k b.n).1 ∧ ∃ x, wordAt l t = some x ∧ isHead x = true ∧ b.k = partC x ∧ b.n = partL x := by
  unfold readOf at h
  split at h
  · cases h
  · rename_i x hx
    split at h
    · rename_i hc
      injection h with h
      subst h
      obtain ⟨i, rfl, hi, _⟩ := wordAt_some hx
      have := sizeOf_ok hc.2.1
      exact ⟨rfl, by omega, this.1, this.2, by simp only; omega, hc.2.1, rfl, x, hx, hc.1, rfl, rfl⟩
    · cases h

/-- What is walked: all blocks up to a place. -/
def walkN (l : List Int) (cs : List Cls) (to : Int) : Nat → Int → Option (List Blk)
  | 0, t => if t < to then none else some []
  | n + 1, t => if t < to then
      match readOf l cs t with
      | none => none
      | some b => if b.s ≤ to - t then (walkN l cs to n (t + b.s)).map (b :: ·) else none
    else some []
def walkOf (l : List Int) (cs : List Cls) (to t : Int) : Option (List Blk) := walkN l cs to (to - t).toNat t
theorem walkN_more (l : List Int) (cs : List Cls) (to : Int) : ∀ (n m : Nat) (t : Int), (to - t).toNat ≤ n → n ≤ m → walkN l cs to m t = walkN l cs to n t
  | 0, 0, t, _, _ => rfl
  | 0, m + 1, t, h, _ => by
    have h1 : ¬ t < to := by omega
    unfold walkN
    simp [h1]
  | n + 1, 0, t, _, h2 => by omega
  | n + 1, m + 1, t, h, h2 => by
    unfold walkN
    split
    · split
      · rfl
      · rename_i b hb
        have := (readOf_some hb).2.2.1
        split
        · rw [walkN_more l cs to n m (t + b.s) (by omega) (by omega)]
        · rfl
    · rfl
theorem walkOf_end {l : List Int} {cs : List Cls} {to t : Int} (h : ¬ t < to) : walkOf l cs to t = some [] := by
  unfold walkOf walkN
  split
  · simp [h]
  · simp [h]
theorem walkOf_step {l : List Int} {cs : List Cls} {to t : Int} {b : Blk} (h : t < to) (hb : readOf l cs t = some b) (hs : b.s ≤ to - t) : walkOf l cs to t = (walkOf l cs to (t + b.s)).map (b :: ·) := by
  have h1 := (readOf_some hb).2.2.1
  unfold walkOf
  obtain ⟨n, hn⟩ : ∃ n, (to - t).toNat = n + 1 := ⟨(to - t).toNat - 1, by omega⟩
  rw [hn]
  conv => lhs; unfold walkN
  simp only [if_pos h, hb, if_pos hs]
  rw [walkN_more l cs to (to - (t + b.s)).toNat n (t + b.s) (Nat.le_refl _) (by omega)]
theorem walkOf_stop {l : List Int} {cs : List Cls} {to t : Int} (h : t < to) (hb : ∀ b, readOf l cs t = some b → to - t < b.s) : walkOf l cs to t = none := by
  unfold walkOf
  obtain ⟨n, hn⟩ : ∃ n, (to - t).toNat = n + 1 := ⟨(to - t).toNat - 1, by omega⟩
  rw [hn]
  unfold walkN
  simp only [if_pos h]
  split
  · rfl
  · rename_i b hb2
    rw [if_neg (by have := hb b hb2; omega)]
end Go.Proofs.YthpjlhfijkeciaaGreatDoor

/-
  A memory, nil or not, for package blocks: Len, Words, Put; and what word and within tell.
-/
namespace Go.Proofs.YthpjlhfijkeciaaGreatDoor
open Go.RowKit
set_option linter.unusedVariables false

/-- A memory that holds these words: a nil one holds none. -/
def AnyMem (w : World) (v : Value) (l : List Int) : Prop := (v = .pointer none ∧ l = []) ∨ ∃ p q s, v = .pointer (some ⟨p, 0, none⟩) ∧ Mem w p q l s
theorem AnyMem.turned {w w' : World} {v : Value} {l : List Int} (h : AnyMem w v l) (ht : Turned [] w w') : AnyMem w' v l := by
  rcases h with h | ⟨p, q, s, h1, h2⟩
  · exact .inl h
  · exact .inr ⟨p, q, s, h1, h2.turned ht (by simp) (by simp)⟩
theorem Mem.any {w : World} {p q : Nat} {l : List Int} {s : Int} (h : Mem w p q l s) : AnyMem w (.pointer (some ⟨p, 0, none⟩)) l := .inr ⟨p, q, s, rfl, h⟩
theorem anyMem_nil (w : World) : AnyMem w (.pointer none) [] := .inl ⟨rfl, rfl⟩

theorem len_amem (v : Value) (l : List Int) (w : World) (h : AnyMem w v l) :
    Calls Tryz.prog 44 #[v] w fun e w' => e = .returned (.int .i64 l.length) ∧ w' = w := by
  rcases h with ⟨rfl, rfl⟩ | ⟨p, q, s, rfl, h⟩
  · exact len_nil w
  · exact len_mem p q l s w h

theorem words_amem (v : Value) (l : List Int) (f g : Int) (w : World) (hl : l.length ≤ 65536) (h : AnyMem w v l) :
    Calls Tryz.prog 23 #[v, .int .i64 f, .int .i64 g] w fun e w' =>
      ∃ v, e = .returned v ∧ w'.ownsRow w.heap.size 2 1 v ((l.take (min (max g 0) l.length).toNat).drop (min (max f 0) l.length).toNat).length (((l.take (min (max g 0) l.length).toNat).drop (min (max f 0) l.length).toNat).map (Value.int .i64)) ∧ Turned [] w w' := by
  rcases h with ⟨rfl, rfl⟩ | ⟨p, q, s, rfl, h⟩
  · refine (words_nil f g w).mono ?_
    rintro e w1 ⟨rfl, rfl⟩
    refine ⟨_, rfl, ?_, Turned.refl _ _⟩
    simp only [List.take_nil, List.drop_nil, List.map_nil, List.length_nil]
    exact World.ownsRow_nil _ _ _ _
  · exact words_mem p q l s f g w hl h

theorem one_word {l : List Int} {i : Nat} {x : Int} (h : l[i]? = some x) : (l.take (min (max ((i : Int) + 1) 0) l.length).toNat).drop (min (max (i : Int) 0) l.length).toNat = [x] := by
  obtain ⟨h1, h2⟩ := List.getElem?_eq_some_iff.1 h
  rw [show (min (max ((i : Int) + 1) 0) (l.length : Int)).toNat = i + 1 by omega, show (min (max (i : Int) 0) (l.length : Int)).toNat = i by omega]
  rw [List.take_succ_eq_append_getElem h1, List.drop_append_of_le_length (by simp; omega), List.drop_eq_nil_of_le (by simp; omega), h2]
  rfl
theorem no_word {l : List Int} {t : Int} (h : t < 0 ∨ (l.length : Int) ≤ t) (h64 : In64 t) : (l.take (min (max (wrap64 (t + 1)) 0) l.length).toNat).drop (min (max t 0) l.length).toNat = [] := by
  unfold In64 at h64
  rcases h with h | h
  · rw [show (min (max (wrap64 (t + 1)) 0) (l.length : Int)).toNat = 0 by unfold wrap64; omega]
    simp
  · rw [show (min (max t 0) (l.length : Int)).toNat = l.length by omega]
    apply List.drop_eq_nil_of_le
    simp
    omega

theorem word_some (v : Value) (l : List Int) (t x : Int) (w : World) (hl : l.length ≤ 65536) (h : AnyMem w v l) (hx : wordAt l t = some x) :
    Calls Tryz.prog 186 #[v, .int .i64 t] w fun e w' => e = .returned (.tuple #[.int .i64 x, .bool true]) ∧ Turned [] w w' := by
  obtain ⟨i, rfl, hi, hx⟩ := wordAt_some hx
  have HW := hide (words_amem v l i ((i : Int) + 1) w hl h)
  rw [one_word hx] at HW
  have hi2 : i < 65536 := by omega
  clear hx h hi hl
  go_enter Tryz.func186, Tryz.ntmps186
  go_wp2_with fail
  refine HW.out.mono ?_
  rintro e w1 ⟨v', rfl, hown, ht⟩
  obtain ⟨g, cap, rfl, -, -, -, hc, -⟩ := ownsInts_open hown (by simp)
  have hc0 := hc 0 x rfl
  have HT := hide ht
  clear hown hc ht HW
  go_wp2_with fail
  go_ret2
  exact ⟨rfl, HT.out⟩

theorem word_none (v : Value) (l : List Int) (t : Int) (w : World) (hl : l.length ≤ 65536) (ht : In64 t) (h : AnyMem w v l) (hx : wordAt l t = none) :
    Calls Tryz.prog 186 #[v, .int .i64 t] w fun e w' => e = .returned (.tuple #[.int .i64 0, .bool false]) ∧ Turned [] w w' := by
  have HW := hide (words_amem v l t (wrap64 (t + 1)) w hl h)
  rw [no_word (wordAt_none hx) ht] at HW
  clear hx h hl ht
  go_enter Tryz.func186, Tryz.ntmps186
  go_wp2_with fail
  refine HW.out.mono ?_
  rintro e w1 ⟨v', rfl, hown, ht⟩
  obtain ⟨-, ao, cap, rfl, -⟩ := ownsInts_any hown
  have HT := hide ht
  clear hown ht HW
  go_wp2_with fail
  go_ret2
  exact ⟨rfl, HT.out⟩

end Go.Proofs.YthpjlhfijkeciaaGreatDoor

/-
  What Lay and Fill do to a memory.
-/
namespace Go.Proofs.YthpjlhfijkeciaaGreatDoor
open Go.RowKit
set_option linter.unusedVariables false

theorem laid_row (w : World) (g m : Nat) (k n : Int) (hm : 1 ≤ m) (hm2 : m ≤ 65536) (h : w.heap[g]? = some (.cells (((laid k n m).map (Value.int .i64)).toArray) 2)) : IsRow .i64 w (some ⟨g, 0, none⟩) m m (laid k n m) := by
  have hl := laid_length k n m hm
  refine .inr ⟨_, rfl, Nat.le_refl _, by unfold maxLen; omega, hl, fun i hi => ?_, fun x hx => ?_⟩
  · rw [show Addr.add ⟨g, 0, none⟩ i = ⟨g, i, none⟩ by simp [Addr.add]; intro e; omega, cell_of_heap h]
    rw [List.getElem?_toArray, List.getElem?_map, List.getD_eq_getElem?_getD, List.getElem?_eq_getElem hi]
    rfl
  · have hr := headOf_range k n
    have : x = headOf k n ∨ x = 0 := by
      unfold laid at hx
      rcases List.mem_cons.1 hx with h1 | h1
      · exact .inl h1
      · exact .inr (List.eq_of_mem_replicate h1)
    rcases this with rfl | rfl
    · exact WalkArith.wf_i64 (by omega)
    · rfl

theorem made_laid (m : Nat) (k n : Int) (hm : 1 ≤ m) : (madeCells #[Value.int .i64 0] m).setIfInBounds 0 (.int .i64 (headOf k n)) = ((laid k n m).map (Value.int .i64)).toArray := by
  obtain ⟨j, rfl⟩ : ∃ j, m = j + 1 := ⟨m - 1, by omega⟩
  rw [madeCells_zeros]
  simp [laid, List.replicate_succ]

theorem layS_eq (l : List Int) (cs : List Cls) (t k n : Int) (m : Nat) (he : (sizeOf cs k n).2 = 0) (hm : (sizeOf cs k n).1 = m) (h1 : 1 ≤ m) : layS l cs t k n = if putE l t (laid k n m) = 0 then (m : Int) else 0 := by
  unfold layS putE
  rw [laid_length k n m h1, hm]
  by_cases hf : 0 ≤ t ∧ t + (m : Int) ≤ l.length
  · rw [if_pos ⟨he, hf⟩, if_pos hf, if_pos rfl]
  · rw [if_neg (fun h => hf h.2), if_neg hf, if_neg (by decide)]

theorem sizeOf_filler (n : Int) (cs : List Cls) (h : 0 ≤ n ∧ n ≤ 65535) : sizeOf cs 0 n = (1 + n, 0) := by
  unfold sizeOf told
  simp only [clsAt, if_true]
  rw [if_pos (by exact h)]
  simp [gSize, Cls.rN, Cls.wN]
theorem crd_nil (w : World) : CRd w none 0 [] := ⟨rfl, by omega, fun i c h => by simp at h, fun c h => by simp at h⟩

/-- The words behind a fill. -/
def fillL (l : List Int) (f g : Int) : List Int := if 0 ≤ f ∧ f < g ∧ g ≤ l.length then putL l f (laid 0 (g - f - 1) (g - f).toNat) else l
def fillE (l : List Int) (f g : Int) : Int := if 0 ≤ f ∧ f ≤ g ∧ g ≤ l.length then 0 else 10
theorem fillL_length (l : List Int) (f g : Int) : (fillL l f g).length = l.length := by
  unfold fillL
  split
  · exact putL_length _ _ _
  · rfl

end Go.Proofs.YthpjlhfijkeciaaGreatDoor

/-
  Words that can be: each of 64 bits. No Go is walked here.
-/
namespace Go.Proofs.YthpjlhfijkeciaaGreatDoor
open Go.RowKit
set_option linter.unusedVariables false

def AllIn (l : List Int) : Prop := ∀ x, x ∈ l → In64 x
theorem allIn_zeros (n : Nat) : AllIn (List.replicate n 0) := fun x hx => by
  rw [List.eq_of_mem_replicate hx]
  unfold In64
  omega
theorem allIn_laid (k n : Int) (s : Nat) : AllIn (laid k n s) := fun x hx => by
  have hr := headOf_range k n
  unfold laid at hx
  rcases List.mem_cons.1 hx with rfl | h1
  · unfold In64
    omega
  · exact allIn_zeros _ x h1
theorem AllIn.put {l m : List Int} (h : AllIn l) (hm : AllIn m) (t : Int) : AllIn (putL l t m) := fun x hx => by
  unfold putL at hx
  split at hx
  · unfold over at hx
    rcases List.mem_append.1 hx with h1 | h1
    · rcases List.mem_append.1 h1 with h2 | h2
      · exact h x (List.mem_of_mem_take h2)
      · exact hm x h2
    · exact h x (List.mem_of_mem_drop h1)
  · exact h x hx
theorem AllIn.lay {l : List Int} (h : AllIn l) (cs : List Cls) (t k n : Int) : AllIn (layL l cs t k n) := by
  unfold layL
  split
  · exact h.put (allIn_laid _ _ _) t
  · exact h
theorem AllIn.fill {l : List Int} (h : AllIn l) (f g : Int) : AllIn (fillL l f g) := by
  unfold fillL
  split
  · exact h.put (allIn_laid _ _ _) f
  · exact h
end Go.Proofs.YthpjlhfijkeciaaGreatDoor

/-
  A block's references, as words. No Go is walked here.
-/
namespace Go.Proofs.YthpjlhfijkeciaaGreatDoor
open Go.RowKit
/-- What a block's references are. -/
def refWords (l : List Int) (cs : List Cls) (b : Blk) : List Int := (rowTo (refsOf cs b.k b.n).toNat).filterMap fun i => wordAt l (b.t + i)
end Go.Proofs.YthpjlhfijkeciaaGreatDoor

/-
  What Read tells.
-/
namespace Go.Proofs.YthpjlhfijkeciaaGreatDoor
open Go.RowKit
set_option linter.unusedVariables false

def Blk.val (b : Blk) : Value := .agg #[.int .i64 b.t, .int .i64 b.k, .int .i64 b.n, .int .i64 b.s]

theorem part_in64 (x : Int) : In64 (partL x) := by
  unfold In64 partL
  omega

theorem read_some (v : Value) (l : List Int) (ao : Option Addr) (len cap : Nat) (cs : List Cls) (t : Int) (b : Blk) (w : World) (hl : l.length ≤ 65536) (hv : AnyMem w v l) (hc : CRd w ao len cs) (h : readOf l cs t = some b) :
    Calls Tryz.prog 184 #[v, .slice ao len cap, .int .i64 t] w fun e w' => e = .returned (.tuple #[.agg #[.int .i64 b.t, .int .i64 b.k, .int .i64 b.n, .int .i64 b.s], .int .i64 0]) ∧ Turned [] w w' := by
  obtain ⟨h1, h2, h3, h4, h5, h6, h7, x, h8, h9, h10, h11⟩ := readOf_some h
  obtain ⟨w0, hw0⟩ : ∃ w0, w0 = w.alloc (.cells #[.int .i64 0, .int .i64 0, .int .i64 0, .int .i64 0] 54) := ⟨_, rfl⟩
  have ht0 : Turned [] w w0 := by rw [hw0]; exact (Turned.refl [] w).alloc _
  have hb0 : w0.heap[w.heap.size]? = some (.cells #[.int .i64 0, .int .i64 0, .int .i64 0, .int .i64 0] 54) := by rw [hw0]; exact heap_alloc_new _ _
  have HW := hide (word_some v l t x w0 hl (hv.turned ht0) h8)
  have HP := hide (fun w => parts_yes x w h9)
  have HS := hide (fun w' (ht : Turned [] w0 w') => sizes_any ao len cap cs b.k b.n w' (by rw [h11]; exact part_in64 x) (hc.turned (ht0.trans ht)))
  rw [← h10, ← h11] at HP
  rw [h6, ← h7] at HS
  have HV := hide (fun w' (ht : Turned [] w0 w') => len_amem v l w' (hv.turned (ht0.trans ht)))
  have HE := hide (fun w' (ht : Turned [] w0 w') => And.intro (ht0.trans ht) (show w'.heap[w.heap.size]? = some (.cells #[.int .i64 0, .int .i64 0, .int .i64 0, .int .i64 0] 54) by rw [ht.block _ (lt_of_heap hb0) (by simp)]; exact hb0))
  obtain ⟨bt, bk, bn, bs⟩ := b
  simp only at *
  subst h1
  clear h h6 h7 h8 h9 h10 h11 hv hc ht0 hb0
  go_enter Tryz.func184, Tryz.ntmps184
  go_wp2_with fail
  rw [← hw0]
  clear hw0
  refine HW.out.mono ?_
  rintro e w1 ⟨rfl, ht1⟩
  have HT1 := hide ht1
  clear ht1 HW
  go_wp2_with fail
  refine (HP.out _).mono ?_
  rintro e w2 ⟨rfl, rfl⟩
  go_wp2_with fail
  refine (HS.out _ HT1.out).mono ?_
  rintro e w3 ⟨rfl, ht3⟩
  have HT3 := hide (HT1.out.trans ht3)
  obtain ⟨htE, hbx⟩ := HE.out _ HT3.out
  have x0 := cell_of_heap hbx 0
  have x1 := cell_of_heap hbx 1
  have x2 := cell_of_heap hbx 2
  have x3 := cell_of_heap hbx 3
  have xf : ∀ i, w3.frozen? ⟨w.heap.size, i, none⟩ = false := fun i => by simp [World.frozen?, hbx]
  have xf0 := xf 0
  have xf1 := xf 1
  have xf2 := xf 2
  have xf3 := xf 3
  have HTE := hide htE
  clear ht3 HS HP HT1 hbx xf htE HE
  go_wp2_with (go_at_call 44; refine (HV.out _ HT3.out).mono ?_; rintro e w' ⟨rfl, rfl⟩)
  refine bodyPost_ret (v := .tuple #[.agg #[.int .i64 bt, .int .i64 bk, .int .i64 bn, .int .i64 bs], .int .i64 0]) (by simp [results, Tryz.results184, go_sem, x0, x1, x2, x3]) rfl ⟨rfl, ?_⟩
  exact (((HTE.out.setCell (.inr (Nat.le_refl _)) _).setCell (.inr (Nat.le_refl _)) _).setCell (.inr (Nat.le_refl _)) _).setCell (.inr (Nat.le_refl _)) _

theorem read_out (v : Value) (l : List Int) (ao : Option Addr) (len cap : Nat) (t : Int) (w : World) (hl : l.length ≤ 65536) (hv : AnyMem w v l) (ht : In64 t) (h : wordAt l t = none) :
    Calls Tryz.prog 184 #[v, .slice ao len cap, .int .i64 t] w fun e w' => e = .returned (.tuple #[.agg #[.int .i64 0, .int .i64 0, .int .i64 0, .int .i64 0], .int .i64 10]) ∧ Turned [] w w' := by
  obtain ⟨w0, hw0⟩ : ∃ w0, w0 = w.alloc (.cells #[.int .i64 0, .int .i64 0, .int .i64 0, .int .i64 0] 54) := ⟨_, rfl⟩
  have ht0 : Turned [] w w0 := by rw [hw0]; exact (Turned.refl [] w).alloc _
  have hb0 : w0.heap[w.heap.size]? = some (.cells #[.int .i64 0, .int .i64 0, .int .i64 0, .int .i64 0] 54) := by rw [hw0]; exact heap_alloc_new _ _
  have HE := hide (fun w' (ht : Turned [] w0 w') => And.intro (ht0.trans ht) (show w'.heap[w.heap.size]? = some (.cells #[.int .i64 0, .int .i64 0, .int .i64 0, .int .i64 0] 54) by rw [ht.block _ (lt_of_heap hb0) (by simp)]; exact hb0))
  have HW := hide (word_none v l t w0 hl ht (hv.turned ht0) h)
  clear h hv ht0 hb0 ht
  go_enter Tryz.func184, Tryz.ntmps184
  go_wp2_with fail
  rw [← hw0]
  clear hw0
  refine HW.out.mono ?_
  rintro e w1 ⟨rfl, ht1⟩
  have HT1 := hide ht1
  clear ht1 HW
  obtain ⟨htE, hbx⟩ := HE.out _ HT1.out
  have x0 := cell_of_heap hbx 0
  have x1 := cell_of_heap hbx 1
  have x2 := cell_of_heap hbx 2
  have x3 := cell_of_heap hbx 3
  have xf := fun i => show World.frozen? w1 ⟨w.heap.size, i, none⟩ = false by simp [World.frozen?, hbx]
  have xf0 := xf 0
  have xf1 := xf 1
  have xf2 := xf 2
  have xf3 := xf 3
  have HTE := hide htE
  clear hbx xf htE HE
  go_wp2_with fail
  refine bodyPost_ret (v := .tuple #[.agg #[.int .i64 0, .int .i64 0, .int .i64 0, .int .i64 0], .int .i64 10]) (by simp [results, Tryz.results184, go_sem, x0, x1, x2, x3]) rfl ⟨rfl, ?_⟩
  first | exact HTE.out | exact (((HTE.out.setCell (.inr (Nat.le_refl _)) _).setCell (.inr (Nat.le_refl _)) _).setCell (.inr (Nat.le_refl _)) _).setCell (.inr (Nat.le_refl _)) _

theorem read_word (v : Value) (l : List Int) (ao : Option Addr) (len cap : Nat) (t x : Int) (w : World) (hl : l.length ≤ 65536) (hv : AnyMem w v l) (h : wordAt l t = some x) (hx : isHead x = false) :
    Calls Tryz.prog 184 #[v, .slice ao len cap, .int .i64 t] w fun e w' => e = .returned (.tuple #[.agg #[.int .i64 0, .int .i64 0, .int .i64 0, .int .i64 0], .int .i64 13]) ∧ Turned [] w w' := by
  obtain ⟨w0, hw0⟩ : ∃ w0, w0 = w.alloc (.cells #[.int .i64 0, .int .i64 0, .int .i64 0, .int .i64 0] 54) := ⟨_, rfl⟩
  have ht0 : Turned [] w w0 := by rw [hw0]; exact (Turned.refl [] w).alloc _
  have hb0 : w0.heap[w.heap.size]? = some (.cells #[.int .i64 0, .int .i64 0, .int .i64 0, .int .i64 0] 54) := by rw [hw0]; exact heap_alloc_new _ _
  have HE := hide (fun w' (ht : Turned [] w0 w') => And.intro (ht0.trans ht) (show w'.heap[w.heap.size]? = some (.cells #[.int .i64 0, .int .i64 0, .int .i64 0, .int .i64 0] 54) by rw [ht.block _ (lt_of_heap hb0) (by simp)]; exact hb0))
  have HW := hide (word_some v l t x w0 hl (hv.turned ht0) h)
  have HP := hide (fun w => parts_no x w hx)
  clear h hv ht0 hb0 hx
  go_enter Tryz.func184, Tryz.ntmps184
  go_wp2_with fail
  rw [← hw0]
  clear hw0
  refine HW.out.mono ?_
  rintro e w1 ⟨rfl, ht1⟩
  have HT1 := hide ht1
  clear ht1 HW
  obtain ⟨htE, hbx⟩ := HE.out _ HT1.out
  have x0 := cell_of_heap hbx 0
  have x1 := cell_of_heap hbx 1
  have x2 := cell_of_heap hbx 2
  have x3 := cell_of_heap hbx 3
  have xf := fun i => show World.frozen? w1 ⟨w.heap.size, i, none⟩ = false by simp [World.frozen?, hbx]
  have xf0 := xf 0
  have xf1 := xf 1
  have xf2 := xf 2
  have xf3 := xf 3
  have HTE := hide htE
  clear hbx xf htE HE
  go_wp2_with fail
  refine (HP.out _).mono ?_
  rintro e w2 ⟨rfl, rfl⟩
  go_wp2_with fail
  refine bodyPost_ret (v := .tuple #[.agg #[.int .i64 0, .int .i64 0, .int .i64 0, .int .i64 0], .int .i64 13]) (by simp [results, Tryz.results184, go_sem, x0, x1, x2, x3]) rfl ⟨rfl, ?_⟩
  first | exact HTE.out | exact (((HTE.out.setCell (.inr (Nat.le_refl _)) _).setCell (.inr (Nat.le_refl _)) _).setCell (.inr (Nat.le_refl _)) _).setCell (.inr (Nat.le_refl _)) _

theorem read_size (v : Value) (l : List Int) (ao : Option Addr) (len cap : Nat) (cs : List Cls) (t x : Int) (w : World) (hl : l.length ≤ 65536) (hv : AnyMem w v l) (hc : CRd w ao len cs) (h : wordAt l t = some x) (hx : isHead x = true) (hs : ¬ (sizeOf cs (partC x) (partL x)).2 = 0) :
    Calls Tryz.prog 184 #[v, .slice ao len cap, .int .i64 t] w fun e w' => e = .returned (.tuple #[.agg #[.int .i64 0, .int .i64 0, .int .i64 0, .int .i64 0], .int .i64 13]) ∧ Turned [] w w' := by
  obtain ⟨w0, hw0⟩ : ∃ w0, w0 = w.alloc (.cells #[.int .i64 0, .int .i64 0, .int .i64 0, .int .i64 0] 54) := ⟨_, rfl⟩
  have ht0 : Turned [] w w0 := by rw [hw0]; exact (Turned.refl [] w).alloc _
  have hb0 : w0.heap[w.heap.size]? = some (.cells #[.int .i64 0, .int .i64 0, .int .i64 0, .int .i64 0] 54) := by rw [hw0]; exact heap_alloc_new _ _
  have HE := hide (fun w' (ht : Turned [] w0 w') => And.intro (ht0.trans ht) (show w'.heap[w.heap.size]? = some (.cells #[.int .i64 0, .int .i64 0, .int .i64 0, .int .i64 0] 54) by rw [ht.block _ (lt_of_heap hb0) (by simp)]; exact hb0))
  have HW := hide (word_some v l t x w0 hl (hv.turned ht0) h)
  have HP := hide (fun w => parts_yes x w hx)
  have HS := hide (fun w' (ht : Turned [] w0 w') => sizes_any ao len cap cs (partC x) (partL x) w' (part_in64 x) (hc.turned (ht0.trans ht)))
  generalize sizeOf cs (partC x) (partL x) = y at *
  obtain ⟨y1, y2⟩ := y
  simp only at hs HS
  generalize partC x = a at *
  generalize partL x = c at *
  clear h hv ht0 hb0 hx hc
  go_enter Tryz.func184, Tryz.ntmps184
  go_wp2_with fail
  rw [← hw0]
  clear hw0
  refine HW.out.mono ?_
  rintro e w1 ⟨rfl, ht1⟩
  have HT1 := hide ht1
  clear ht1 HW
  go_wp2_with fail
  refine (HP.out _).mono ?_
  rintro e w2 ⟨rfl, rfl⟩
  go_wp2_with fail
  refine (HS.out _ HT1.out).mono ?_
  rintro e w3 ⟨rfl, ht3⟩
  have HT3 := hide (HT1.out.trans ht3)
  clear ht3 HT1
  obtain ⟨htE, hbx⟩ := HE.out _ HT3.out
  have x0 := cell_of_heap hbx 0
  have x1 := cell_of_heap hbx 1
  have x2 := cell_of_heap hbx 2
  have x3 := cell_of_heap hbx 3
  have xf := fun i => show World.frozen? w3 ⟨w.heap.size, i, none⟩ = false by simp [World.frozen?, hbx]
  have xf0 := xf 0
  have xf1 := xf 1
  have xf2 := xf 2
  have xf3 := xf 3
  have HTE := hide htE
  clear hbx xf htE HE
  go_wp2_with fail
  refine bodyPost_ret (v := .tuple #[.agg #[.int .i64 0, .int .i64 0, .int .i64 0, .int .i64 0], .int .i64 13]) (by simp [results, Tryz.results184, go_sem, x0, x1, x2, x3]) rfl ⟨rfl, ?_⟩
  first | exact HTE.out | exact (((HTE.out.setCell (.inr (Nat.le_refl _)) _).setCell (.inr (Nat.le_refl _)) _).setCell (.inr (Nat.le_refl _)) _).setCell (.inr (Nat.le_refl _)) _

theorem read_room (v : Value) (l : List Int) (ao : Option Addr) (len cap : Nat) (cs : List Cls) (t x : Int) (w : World) (hl : l.length ≤ 65536) (hv : AnyMem w v l) (hc : CRd w ao len cs) (h : wordAt l t = some x) (hx : isHead x = true) (hs : (sizeOf cs (partC x) (partL x)).2 = 0) (hr : l.length - t < (sizeOf cs (partC x) (partL x)).1) :
    Calls Tryz.prog 184 #[v, .slice ao len cap, .int .i64 t] w fun e w' => e = .returned (.tuple #[.agg #[.int .i64 0, .int .i64 0, .int .i64 0, .int .i64 0], .int .i64 13]) ∧ Turned [] w w' := by
  obtain ⟨w0, hw0⟩ : ∃ w0, w0 = w.alloc (.cells #[.int .i64 0, .int .i64 0, .int .i64 0, .int .i64 0] 54) := ⟨_, rfl⟩
  have ht0 : Turned [] w w0 := by rw [hw0]; exact (Turned.refl [] w).alloc _
  have hb0 : w0.heap[w.heap.size]? = some (.cells #[.int .i64 0, .int .i64 0, .int .i64 0, .int .i64 0] 54) := by rw [hw0]; exact heap_alloc_new _ _
  have HE := hide (fun w' (ht : Turned [] w0 w') => And.intro (ht0.trans ht) (show w'.heap[w.heap.size]? = some (.cells #[.int .i64 0, .int .i64 0, .int .i64 0, .int .i64 0] 54) by rw [ht.block _ (lt_of_heap hb0) (by simp)]; exact hb0))
  have HW := hide (word_some v l t x w0 hl (hv.turned ht0) h)
  have HP := hide (fun w => parts_yes x w hx)
  have HS := hide (fun w' (ht : Turned [] w0 w') => sizes_any ao len cap cs (partC x) (partL x) w' (part_in64 x) (hc.turned (ht0.trans ht)))
  have HV := hide (fun w' (ht : Turned [] w0 w') => len_amem v l w' (hv.turned (ht0.trans ht)))
  have hz := sizeOf_ok hs
  have hti : 0 ≤ t ∧ t < l.length := by obtain ⟨i, rfl, hi, _⟩ := wordAt_some h; omega
  generalize sizeOf cs (partC x) (partL x) = y at *
  obtain ⟨y1, y2⟩ := y
  simp only at hs HS hr hz
  subst hs
  generalize partC x = a at *
  generalize partL x = c at *
  clear h hv ht0 hb0 hx hc
  go_enter Tryz.func184, Tryz.ntmps184
  go_wp2_with fail
  rw [← hw0]
  clear hw0
  refine HW.out.mono ?_
  rintro e w1 ⟨rfl, ht1⟩
  have HT1 := hide ht1
  clear ht1 HW
  go_wp2_with fail
  refine (HP.out _).mono ?_
  rintro e w2 ⟨rfl, rfl⟩
  go_wp2_with fail
  refine (HS.out _ HT1.out).mono ?_
  rintro e w3 ⟨rfl, ht3⟩
  have HT3 := hide (HT1.out.trans ht3)
  clear ht3 HT1
  obtain ⟨htE, hbx⟩ := HE.out _ HT3.out
  have x0 := cell_of_heap hbx 0
  have x1 := cell_of_heap hbx 1
  have x2 := cell_of_heap hbx 2
  have x3 := cell_of_heap hbx 3
  have xf := fun i => show World.frozen? w3 ⟨w.heap.size, i, none⟩ = false by simp [World.frozen?, hbx]
  have xf0 := xf 0
  have xf1 := xf 1
  have xf2 := xf 2
  have xf3 := xf 3
  have HTE := hide htE
  clear hbx xf htE HE
  go_wp2_with (go_at_call 44; refine (HV.out _ HT3.out).mono ?_; rintro e w' ⟨rfl, rfl⟩)
  refine bodyPost_ret (v := .tuple #[.agg #[.int .i64 0, .int .i64 0, .int .i64 0, .int .i64 0], .int .i64 13]) (by simp [results, Tryz.results184, go_sem, x0, x1, x2, x3]) rfl ⟨rfl, ?_⟩
  first | exact HTE.out | exact (((HTE.out.setCell (.inr (Nat.le_refl _)) _).setCell (.inr (Nat.le_refl _)) _).setCell (.inr (Nat.le_refl _)) _).setCell (.inr (Nat.le_refl _)) _

/-- Whatever stands there. -/
theorem read_none (v : Value) (l : List Int) (ao : Option Addr) (len cap : Nat) (cs : List Cls) (t : Int) (w : World) (hl : l.length ≤ 65536) (hv : AnyMem w v l) (hc : CRd w ao len cs) (ht : In64 t) (h : readOf l cs t = none) :
    Calls Tryz.prog 184 #[v, .slice ao len cap, .int .i64 t] w fun e w' => e = .returned (.tuple #[.agg #[.int .i64 0, .int .i64 0, .int .i64 0, .int .i64 0], .int .i64 (readE l cs t)]) ∧ Turned [] w w' := by
  unfold readE
  rw [h]
  cases hx : wordAt l t with
  | none =>
    simp only [Option.isNone_none, if_true]
    exact read_out v l ao len cap t w hl hv ht hx
  | some x =>
    simp only [Option.isNone_some, Option.isNone_none, if_true]
    rw [if_neg (by simp)]
    unfold readOf at h
    simp only [hx] at h
    by_cases h1 : isHead x = true
    · by_cases h2 : (sizeOf cs (partC x) (partL x)).2 = 0
      · refine read_room v l ao len cap cs t x w hl hv hc hx h1 h2 ?_
        by_cases h3 : (sizeOf cs (partC x) (partL x)).1 ≤ l.length - t
        · rw [if_pos ⟨h1, h2, h3⟩] at h
          cases h
        · omega
      · exact read_size v l ao len cap cs t x w hl hv hc hx h1 h2
    · exact read_word v l ao len cap t x w hl hv hx (by simpa using h1)
end Go.Proofs.YthpjlhfijkeciaaGreatDoor

/-
  The heap of layer 11's statements (ballastref11.Heap), without memory: things laid one behind the other, then their words. No Go is walked here.
-/
namespace Go.Proofs.YthpjlhfijkeciaaGreatDoor
open Go.RowKit
set_option linter.unusedVariables false

/-- A thing to be laid. -/
structure Th where
  c : Int
  n : Int
  refs : List Int
/-- The classes that things are of. -/
def four : List Cls := [⟨2, 1, 0⟩, ⟨0, 0, 1⟩, ⟨0, 0, 2⟩, ⟨0, 1, 0⟩]
def Th.k (t : Th) : Int := 1 + t.c % 4
def Th.len (t : Th) : Int := if t.k = 2 ∨ t.k = 3 then t.n % 8 else 0
theorem Th.k_in (t : Th) : 1 ≤ t.k ∧ t.k ≤ 4 := by unfold Th.k; omega
theorem Th.len_in (t : Th) : 0 ≤ t.len ∧ t.len ≤ 7 := by unfold Th.len; split <;> omega

/-- While things are laid: the words, the addresses, where the next one goes. -/
structure Lay where
  l : List Int
  at_ : List Int
  top : Int
def Lay.fits (s : Lay) (t : Th) : Prop := layE s.l four s.top t.k t.len = 0
instance (s : Lay) (t : Th) : Decidable (s.fits t) := by unfold Lay.fits; infer_instance
def Lay.next (s : Lay) (t : Th) : Lay := ⟨layL s.l four s.top t.k t.len, s.at_ ++ [s.top], s.top + layS s.l four s.top t.k t.len⟩
def Lay.stop (s : Lay) (t : Th) : Lay := ⟨layL s.l four s.top t.k t.len, s.at_, s.top⟩
def layAll : Lay → List Th → Lay
  | s, [] => s
  | s, t :: ts => if s.fits t then layAll (s.next t) ts else s.stop t
theorem layAll_fits {s : Lay} {t : Th} {ts : List Th} (h : s.fits t) : layAll s (t :: ts) = layAll (s.next t) ts := by rw [layAll, if_pos h]
theorem layAll_not {s : Lay} {t : Th} {ts : List Th} (h : ¬ s.fits t) : layAll s (t :: ts) = s.stop t := by rw [layAll, if_neg h]

/-- What holds of a row of words and addresses. -/
structure Laid (N : Nat) (s : Lay) : Prop where
  len : s.l.length = N
  inn : AllIn s.l
  top : 1 ≤ s.top ∧ s.top ≤ N
  at_ : ∀ x, x ∈ s.at_ → 0 ≤ x ∧ x ≤ N
theorem layS_in (l : List Int) (cs : List Cls) (t k n : Int) (h : t ≤ l.length) : 0 ≤ layS l cs t k n ∧ t + layS l cs t k n ≤ l.length := by
  unfold layS
  split
  · rename_i h1
    have := sizeOf_ok h1.1
    omega
  · omega
theorem Laid.next {N : Nat} {s : Lay} (h : Laid N s) (t : Th) : Laid N (s.next t) := by
  have h1 := layS_in s.l four s.top t.k t.len (by rw [h.len]; exact h.top.2)
  rw [h.len] at h1
  refine ⟨by unfold Lay.next; rw [layL_length]; exact h.len, h.inn.lay _ _ _ _, ⟨?_, ?_⟩, fun x hx => ?_⟩
  · show 1 ≤ s.top + _
    have := h.top.1
    omega
  · exact h1.2
  · simp only [Lay.next, List.mem_append, List.mem_singleton] at hx
    rcases hx with hx | rfl
    · exact h.at_ x hx
    · have := h.top
      omega
theorem Laid.stop {N : Nat} {s : Lay} (h : Laid N s) (t : Th) : Laid N (s.stop t) :=
  ⟨by unfold Lay.stop; rw [layL_length]; exact h.len, h.inn.lay _ _ _ _, h.top, h.at_⟩

/-- One word behind a header: a number of its own, a reference, or nothing. -/
def setK (at_ refs : List Int) (i R : Nat) (t : Nat) (l : List Int) (k : Nat) : List Int :=
  if R < k then l.set (t + k) (100000 + 64 * (i : Int) + k) else
  match refs[k - 1]? with
  | some r => if 0 < r then l.set (t + k) (at_.getD (r.toNat % at_.length) 0) else l
  | none => l
def setRow (at_ refs : List Int) (i R t : Nat) : Nat → Nat → List Int → List Int
  | 0, _, l => l
  | m + 1, k, l => setRow at_ refs i R t m (k + 1) (setK at_ refs i R t l k)
/-- What is read at an address. -/
def blkAt (l : List Int) (t : Int) : Blk := (readOf l four t).getD Blk.zero
def refsOne (at_ : List Int) (l : List Int) (i : Nat) (t : Th) : List Int :=
  setRow at_ t.refs i (refWords l four (blkAt l (at_.getD i 0))).length (blkAt l (at_.getD i 0)).t.toNat ((blkAt l (at_.getD i 0)).s - 1).toNat 1 l
def refsAll (at_ : List Int) : List Th → Nat → Nat → List Int → List Int
  | t :: ts, i, m + 1, l => refsAll at_ ts (i + 1) m (refsOne at_ l i t)
  | _, _, _, l => l
/-- The words, and the addresses. -/
def heapOf (ths : List Th) (N : Nat) : List Int × List Int :=
  let s := layAll ⟨List.replicate N 0, [], 1⟩ ths
  (fillL (refsAll s.at_ ths 0 s.at_.length s.l) s.top N, s.at_)

theorem setK_length (at_ refs : List Int) (i R t : Nat) (l : List Int) (k : Nat) : (setK at_ refs i R t l k).length = l.length := by
  unfold setK
  split
  · simp
  · split
    · split <;> simp
    · rfl
theorem set_in {l : List Int} (h : AllIn l) (i : Nat) {x : Int} (hx : In64 x) : AllIn (l.set i x) := fun y hy => by
  rcases List.mem_or_eq_of_mem_set hy with h1 | rfl
  · exact h y h1
  · exact hx
theorem setK_in {at_ refs : List Int} {i R t : Nat} {l : List Int} {k : Nat} (h : AllIn l) (ha : ∀ x, x ∈ at_ → 0 ≤ x ∧ x ≤ 65536) (hi : i ≤ 65536) (hk : k ≤ 65536) : AllIn (setK at_ refs i R t l k) := by
  unfold setK
  split
  · exact set_in h _ (by unfold In64; omega)
  · split
    · split
      · refine set_in h _ ?_
        rw [List.getD_eq_getElem?_getD]
        cases hq : at_[(_ : Int).toNat % at_.length]? with
        | none => simp [In64]
        | some y =>
          have := ha y (List.mem_of_getElem? hq)
          simp only [Option.getD_some, In64]
          omega
      · exact h
    · exact h
/-- What is read lies within, or is nothing. -/
theorem blkAt_in (l : List Int) (t : Int) (h0 : 0 < l.length) : ∃ tn : Nat, (blkAt l t).t = tn ∧ tn < l.length ∧ 0 ≤ (blkAt l t).s ∧ (tn : Int) + (blkAt l t).s ≤ l.length ∧ In64 (blkAt l t).n := by
  unfold blkAt
  cases hr : readOf l four t with
  | none => exact ⟨0, rfl, h0, Int.le_refl 0, by simp [Blk.zero], by simp [Blk.zero, In64]⟩
  | some b =>
    obtain ⟨h1, h2, h3, h4, h5, h6, h7, x, h8, h9, h10, h11⟩ := readOf_some hr
    refine ⟨t.toNat, ?_, ?_, ?_, ?_, ?_⟩
    · simp only [Option.getD_some]; omega
    · omega
    · simp only [Option.getD_some]; omega
    · simp only [Option.getD_some]; omega
    · simp only [Option.getD_some]; rw [h11]; exact part_in64 x
end Go.Proofs.YthpjlhfijkeciaaGreatDoor

/-
  Blocks, cell by cell ('flat'). No Go is walked here.
-/
namespace Go.Proofs.YthpjlhfijkeciaaGreatDoor
open Go.RowKit
set_option linter.unusedVariables false

theorem Tryz.infoBlock : (Tryz.prog.info? 54).map (fun i => (i.zero, i.size, i.bytes)) = some (some (.agg #[.int .i64 0, .int .i64 0, .int .i64 0, .int .i64 0]), 4, 32) := by kernel_rfl

def flat (bs : List Blk) : List Value := bs.flatMap Blk.cells
theorem flat_snoc (bs : List Blk) (b : Blk) : flat (bs ++ [b]) = flat bs ++ b.cells := by simp [flat]
theorem flat_length (bs : List Blk) : (flat bs).length = bs.length * 4 := by
  induction bs with
  | nil => rfl
  | cons b bs ih =>
    show (b.cells ++ flat bs).length = _
    rw [List.length_append, ih, List.length_cons]
    simp [Blk.cells]
    omega
theorem Blk.cells_one (b : Blk) : ∀ u ∈ b.cells, u.oneCell' = true := by
  intro u hu
  simp [Blk.cells] at hu
  rcases hu with rfl | rfl | rfl | rfl <;> rfl
end Go.Proofs.YthpjlhfijkeciaaGreatDoor

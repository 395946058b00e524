/-
  A gang in the model's heap ('Gg'), and what New, Phase, Arrive and Goes do to it; slices.Index and slices.Contains of a slice of numbers that can be read.
-/
import Derived.Test.YtdjeilombaclmaaCellsPutAny
namespace Go.Proofs.Ytdjeilombaclmaa
open Go.RowKit
set_option linter.unusedVariables false

def ptr (a : Nat) : Value := .pointer (some ⟨a, 0, none⟩)

/-- A slice of numbers that can be read. -/
structure IRd (w : World) (ao : Option Addr) (len : Nat) (l : List Int) : Prop where
  size : l.length = len
  cell : ∀ i x, l[i]? = some x → ∃ g off, ao = some ⟨g, off, none⟩ ∧ w.cell? ⟨g, off + i, none⟩ = some (.int .i64 x)
theorem IRd.turned {w w' : World} {ao : Option Addr} {len : Nat} {l : List Int} {S : List Nat} (h : IRd w ao len l) (ht : Turned S w w') (hS : ∀ g off i x, ao = some ⟨g, off, none⟩ → w.cell? ⟨g, off + i, none⟩ = some (.int .i64 x) → g ∉ S) : IRd w' ao len l :=
  ⟨h.size, fun i x hx => by
    obtain ⟨g, off, h1, h2⟩ := h.cell i x hx
    exact ⟨g, off, h1, by rw [ht.cell (block_lt h2) (hS g off i x h1 h2)]; exact h2⟩⟩
theorem IRd.turned0 {w w' : World} {ao : Option Addr} {len : Nat} {l : List Int} (h : IRd w ao len l) (ht : Turned [] w w') : IRd w' ao len l := h.turned ht (fun _ _ _ _ _ _ => by simp)
theorem IRd.nil (w : World) (ao : Option Addr) : IRd w ao 0 [] := ⟨rfl, fun i x hx => by simp at hx⟩

/-- The first place of a number; -1 where there is none. -/
def idxI (l : List Int) (x : Int) : Int := if x ∈ l then (l.idxOf x : Int) else -1

theorem idx_at {l : List Int} {k : Nat} {x : Int} (h : l[k]? = some x) (hn : x ∉ l.take k) : idxI l x = k := by
  obtain ⟨h1, h2⟩ := List.getElem?_eq_some_iff.1 h
  have hm : x ∈ l := h2 ▸ List.getElem_mem h1
  unfold idxI
  rw [if_pos hm]
  have e : l = l.take k ++ x :: l.drop (k + 1) := by
    conv => lhs; rw [← List.take_append_drop k l]
    rw [List.drop_eq_getElem_cons h1, h2]
  have : l.idxOf x = k := by
    rw [e, List.idxOf_append, if_neg hn, List.length_take, List.idxOf_cons_self]
    omega
  rw [this]
theorem idx_none {l : List Int} {x : Int} (h : x ∉ l) : idxI l x = -1 := by unfold idxI; rw [if_neg h]
theorem idx_range (l : List Int) (x : Int) : -1 ≤ idxI l x ∧ idxI l x < l.length := by
  unfold idxI
  split
  · rename_i h
    have := List.idxOf_lt_length_of_mem h
    omega
  · omega
theorem idx_neg {l : List Int} {x : Int} : idxI l x < 0 ↔ x ∉ l := by
  unfold idxI
  split
  · rename_i h; simp [h]
  · rename_i h; simp [h]

theorem take_snoc {α : Type} {l : List α} {k : Nat} {x : α} (h : l[k]? = some x) : l.take (k + 1) = l.take k ++ [x] := by
  obtain ⟨h1, h2⟩ := List.getElem?_eq_some_iff.1 h
  rw [List.take_succ_eq_append_getElem h1, h2]

theorem index_any (w : World) (ao : Option Addr) (len cap : Nat) (l : List Int) (x : Int) (h : IRd w ao len l) (hb : len ≤ 9223372036854775807) :
    Calls Try.prog 44 #[.slice ao len cap, .int .i64 x] w fun e w' => e = .returned (.int .i64 (idxI l x)) ∧ w' = w := by
  have HL := hide h.size
  have H := hide h
  obtain ⟨y, hy⟩ : ∃ y, y = idxI l x := ⟨_, rfl⟩
  rw [← hy]
  have HY := hide hy
  clear hy h
  go_enter Try.func44, Try.ntmps44
  go_wp2_with fail
  go_loopw [8] (fun i wr => ∃ (j : Nat), j ≤ len ∧ i = .int .i64 j ∧ Hid (x ∉ l.take j) ∧ Hid (wr = w)) (fun i _ => len - (intOf i).toNat)
  case atStart => exact ⟨0, Nat.zero_le _, rfl, (show x ∉ l.take 0 by simp), rfl⟩
  case round =>
    obtain ⟨j, hj, rfl, HF, HW⟩ := hrel
    have hW : wr = w := HW.out
    subst hW
    by_cases hlt : j < len
    · obtain ⟨z, hz⟩ : ∃ z, l[j]? = some z := ⟨_, List.getElem?_eq_getElem (by have := HL.out; omega)⟩
      obtain ⟨b, off, rfl, c0⟩ := H.out.cell j z hz
      by_cases h1 : x = z
      · have HJ : Hid (y = (j : Int)) := by rw [HY.out]; exact idx_at (h1 ▸ hz) HF.out
        subst h1
        clear hz
        obtain rfl : y = (j : Int) := HJ
        go_wp2_with fail
        go_ret
        exact ⟨rfl, rfl⟩
      · have HF2 : Hid (x ∉ l.take (j + 1)) := by
          show x ∉ _
          rw [take_snoc hz]
          simp [h1]
          exact HF.out
        clear hz HF
        go_wp2_with fail
        go_roundw
        case rel => exact ⟨j + 1, by omega, by go_num, HF2, by first | exact rfl | exact trivial⟩
        case measure => simp [intOf]; omega
    · have HJ : Hid (y = -1) := by
        rw [HY.out]
        have h1 : l.take j = l := List.take_of_length_le (by have := HL.out; omega)
        have h2 := HF.out
        rw [h1] at h2
        exact idx_none h2
      obtain rfl : y = -1 := HJ
      go_wp2_with fail
      go_ret
      exact ⟨rfl, rfl⟩

theorem contains_any (w : World) (ao : Option Addr) (len cap : Nat) (l : List Int) (x : Int) (h : IRd w ao len l) (hb : len ≤ 9223372036854775807) :
    Calls Try.prog 35 #[.slice ao len cap, .int .i64 x] w fun e w' => e = .returned (.bool (decide (x ∈ l))) ∧ w' = w := by
  have HI := hide (index_any w ao len cap l x h hb)
  have hr := idx_range l x
  have HN := hide (@idx_neg l x)
  generalize idxI l x = y at *
  clear h
  go_enter Try.func35, Try.ntmps35
  go_wp2_with fail
  refine HI.out.mono ?_
  rintro e w' ⟨rfl, rfl⟩
  go_wp2_with fail
  go_ret
  refine ⟨?_, rfl⟩
  congr 2
  by_cases hm : x ∈ l
  · have : 0 ≤ y := by have := mt HN.out.1 (by simpa using hm); omega
    simp [hm, this]
  · have := HN.out.2 hm
    simp [hm]
    omega

/-- Who has arrived, as a slice of all. -/
def arrV (q came : Nat) : Value := if came = 0 then .slice none 0 0 else .slice (some ⟨q, 0, none⟩) came came
theorem arrV_len (q came : Nat) : ∃ ao, arrV q came = .slice ao came came := by
  unfold arrV
  split
  · rename_i h; subst h; exact ⟨_, rfl⟩
  · exact ⟨_, rfl⟩

/-- A gang: block p is the struct, block q its workers; the first ones have arrived. -/
structure Gg (w : World) (p q : Nat) (ws : List Int) (came : Nat) (ph : Int) : Prop where
  ne : p ≠ q
  most : ws.length ≤ 64
  lt : came < ws.length
  head : w.heap[p]? = some (.cells #[.slice (some ⟨q, 0, none⟩) ws.length ws.length, arrV q came, .int .i64 ph] 73)
  row : w.heap[q]? = some (.cells (ws.map (Value.int .i64)).toArray 3)
section
variable {w : World} {p q : Nat} {ws : List Int} {came : Nat} {ph : Int}
theorem Gg.c0 (h : Gg w p q ws came ph) : w.cell? ⟨p, 0, none⟩ = some (.slice (some ⟨q, 0, none⟩) ws.length ws.length) := by simp [World.cell?, h.head]
theorem Gg.c1 (h : Gg w p q ws came ph) : w.cell? ⟨p, 1, none⟩ = some (arrV q came) := by simp [World.cell?, h.head]
theorem Gg.c2 (h : Gg w p q ws came ph) : w.cell? ⟨p, 2, none⟩ = some (.int .i64 ph) := by simp [World.cell?, h.head]
theorem Gg.f (h : Gg w p q ws came ph) (i : Nat) : w.frozen? ⟨p, i, none⟩ = false := by simp [World.frozen?, h.head]
theorem Gg.fw (h : Gg w p q ws came ph) (i : Nat) : w.frozen? ⟨q, i, none⟩ = false := by simp [World.frozen?, h.row]
theorem Gg.word (h : Gg w p q ws came ph) {i : Nat} {x : Int} (hx : ws[i]? = some x) : w.cell? ⟨q, i, none⟩ = some (.int .i64 x) := by simp [World.cell?, h.row, hx]
theorem Gg.ltp (h : Gg w p q ws came ph) : p < w.heap.size := lt_of_heap h.head
theorem Gg.ltq (h : Gg w p q ws came ph) : q < w.heap.size := lt_of_heap h.row
theorem Gg.turned (h : Gg w p q ws came ph) {S : List Nat} {w' : World} (t : Turned S w w') (hp : p ∉ S) (hq : q ∉ S) : Gg w' p q ws came ph :=
  ⟨h.ne, h.most, h.lt, by rw [t.block p h.ltp hp]; exact h.head, by rw [t.block q h.ltq hq]; exact h.row⟩
theorem Gg.turned0 (h : Gg w p q ws came ph) {w' : World} (t : Turned [] w w') : Gg w' p q ws came ph := h.turned t (by simp) (by simp)
theorem Gg.drewN (h : Gg w p q ws came ph) (n : Nat) : Gg (w.drewN n) p q ws came ph := ⟨h.ne, h.most, h.lt, h.head, h.row⟩
theorem Gg.drew (h : Gg w p q ws came ph) : Gg w.drew p q ws came ph := ⟨h.ne, h.most, h.lt, h.head, h.row⟩
theorem Gg.put (h : Gg w p q ws came ph) (k : Nat) (v : Int) : Gg (w.setCell ⟨q, k, none⟩ (.int .i64 v)) p q (ws.set k v) came ph :=
  ⟨h.ne, by simpa using h.most, by simpa using h.lt, by rw [Below.heap_setCell _ _ _ _ h.ne, List.length_set]; exact h.head, by rw [heap_setCell_at _ _ _ _ _ _ h.row, List.map_set]; simp⟩
theorem Gg.arr (h : Gg w p q ws came ph) (c : Nat) (hc : c < ws.length) : Gg (w.setCell ⟨p, 1, none⟩ (arrV q c)) p q ws c ph :=
  ⟨h.ne, h.most, hc, by rw [heap_setCell_at _ _ _ _ _ _ h.head]; rfl, by rw [Below.heap_setCell _ _ _ _ (Ne.symm h.ne)]; exact h.row⟩
theorem Gg.phs (h : Gg w p q ws came ph) (v : Int) : Gg (w.setCell ⟨p, 2, none⟩ (.int .i64 v)) p q ws came v :=
  ⟨h.ne, h.most, h.lt, by rw [heap_setCell_at _ _ _ _ _ _ h.head]; rfl, by rw [Below.heap_setCell _ _ _ _ (Ne.symm h.ne)]; exact h.row⟩
theorem Gg.rd (h : Gg w p q ws came ph) : IRd w (some ⟨q, 0, none⟩) ws.length ws := ⟨rfl, fun i x hx => ⟨q, 0, rfl, by rw [Nat.zero_add]; exact h.word hx⟩⟩
theorem Gg.back (h : Gg w p q ws came ph) : IRd w (some ⟨q, came, none⟩) (ws.length - came) (ws.drop came) := ⟨by simp, fun i x hx => ⟨q, came, rfl, h.word (by simpa using hx)⟩⟩
end
end Go.Proofs.Ytdjeilombaclmaa

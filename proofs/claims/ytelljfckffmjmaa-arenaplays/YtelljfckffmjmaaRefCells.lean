/-
  The document's own memory (package ballastref01) in the model's heap, and what each of its calls does to it.
-/
import Derived.Test.YtelljfckffmjmaaCellsMore
import Derived.Test.YtelljfckffmjmaaLawKit
namespace Go.Proofs.Ytelljfckffmjmaa
open Go.RowKit

/-- The document's own memory: block p is the struct, block q its words; s accesses were counted. -/
structure Ref (w : World) (p q : Nat) (l : List Int) (s : Int) : Prop where
  ne : p ≠ q
  head : w.heap[p]? = some (.cells #[.slice (some ⟨q, 0, none⟩) l.length l.length, .int .i64 s] 62)
  row : w.heap[q]? = some (.cells (l.map (Value.int .i64)).toArray 2)

section
variable {w : World} {p q : Nat} {l : List Int} {s : Int}
theorem Ref.c0 (h : Ref w p q l s) : w.cell? ⟨p, 0, none⟩ = some (.slice (some ⟨q, 0, none⟩) l.length l.length) := by
  simp [World.cell?, h.head]
theorem Ref.c1 (h : Ref w p q l s) : w.cell? ⟨p, 1, none⟩ = some (.int .i64 s) := by
  simp [World.cell?, h.head]
theorem Ref.f (h : Ref w p q l s) (i : Nat) : w.frozen? ⟨p, i, none⟩ = false := by
  simp [World.frozen?, h.head]
theorem Ref.fw (h : Ref w p q l s) (i : Nat) : w.frozen? ⟨q, i, none⟩ = false := by
  simp [World.frozen?, h.row]
theorem Ref.word (h : Ref w p q l s) {i : Nat} {x : Int} (hx : l[i]? = some x) : w.cell? ⟨q, i, none⟩ = some (.int .i64 x) := by
  simp [World.cell?, h.row, hx]
theorem Ref.ltp (h : Ref w p q l s) : p < w.heap.size := lt_of_heap h.head
theorem Ref.ltq (h : Ref w p q l s) : q < w.heap.size := lt_of_heap h.row
theorem Ref.turned (h : Ref w p q l s) {S : List Nat} {w' : World} (t : Turned S w w') (hp : p ∉ S) (hq : q ∉ S) : Ref w' p q l s :=
  ⟨h.ne, by rw [t.block p h.ltp hp]; exact h.head, by rw [t.block q h.ltq hq]; exact h.row⟩
theorem Ref.alloc (h : Ref w p q l s) (o : Obj) : Ref (w.alloc o) p q l s := h.turned (S := []) ((Turned.refl _ _).alloc o) (by simp) (by simp)
theorem Ref.drew (h : Ref w p q l s) : Ref w.drew p q l s := ⟨h.ne, h.head, h.row⟩
theorem Ref.step (h : Ref w p q l s) (s' : Int) : Ref (w.setCell ⟨p, 1, none⟩ (.int .i64 s')) p q l s' :=
  ⟨h.ne, by rw [heap_setCell_at _ _ _ _ _ _ h.head]; rfl, by rw [Below.heap_setCell _ _ _ _ (Ne.symm h.ne)]; exact h.row⟩
theorem Ref.store (h : Ref w p q l s) (k : Nat) (v : Int) : Ref (w.setCell ⟨q, k, none⟩ (.int .i64 v)) p q (l.set k v) s :=
  ⟨h.ne, by rw [Below.heap_setCell _ _ _ _ h.ne, List.length_set]; exact h.head, by
    rw [heap_setCell_at _ _ _ _ _ _ h.row, List.map_set]; simp⟩
end


set_option maxRecDepth 100000 in
theorem there_in (p q : Nat) (l : List Int) (s : Int) (w : World) (k : Nat) (hk : k < l.length) (h : Ref w p q l s) :
    Calls Try.prog 56 #[.pointer (some ⟨p, 0, none⟩), .int .i64 k] w fun e w' => e = .returned (.bool true) ∧ Ref w' p q l (wrap64 (s + 1)) ∧ Turned [p, q] w w' := by
  have h0 := h.c0
  have h1 := h.c1
  have f1 := h.f 1
  have HE := hide (h.step (wrap64 (s + 1)))
  have HT := hide ((Turned.refl [p, q] w).setCell (p := ⟨p, 1, none⟩) (by simp) (.int .i64 (wrap64 (s + 1))))
  clear h
  go_enter Try.func56, Try.ntmps56
  go_wp2
  go_ret
  exact ⟨rfl, HE.out, HT.out⟩

theorem there_out (p q : Nat) (l : List Int) (s : Int) (w : World) (k : Int) (hk : k < 0 ∨ l.length ≤ k) (h : Ref w p q l s) :
    Calls Try.prog 56 #[.pointer (some ⟨p, 0, none⟩), .int .i64 k] w fun e w' => e = .returned (.bool false) ∧ w' = w := by
  have h0 := h.c0
  clear h
  by_cases hn : k < 0
  · clear hk
    go_enter Try.func56, Try.ntmps56
    go_wp2
    go_ret
    exact ⟨rfl, rfl⟩
  · have hk2 : (l.length : Int) ≤ k := by omega
    clear hk
    go_enter Try.func56, Try.ntmps56
    go_wp2
    go_ret
    exact ⟨rfl, rfl⟩

theorem rnew_k (n : Int) (k : Nat) (w : World) (hk : k = (min (max n 0) 65536).toNat) :
    Calls Try.prog 9 #[.int .i64 n] w fun e w' => e = .returned (.pointer (some ⟨w.heap.size + 1, 0, none⟩)) ∧ Ref w' (w.heap.size + 1) w.heap.size (List.replicate k 0) 0 ∧ Turned [] w w' ∧ w'.heap.size = w.heap.size + 2 := by
  have hk2 : k ≤ 65536 := by omega
  have hmk := run_make_row' (P := Try.prog) 38 2 (.int .i64 0) 8 Try.underlying38 Try.info2 rfl .i64 .i64 k (by omega) (by omega)
  have HF : Hid (∀ w' : World, w' = (w.alloc (.cells (madeCells #[Value.int .i64 0] k) 2)).alloc (.cells #[.slice (some ⟨w.heap.size, 0, none⟩) k k, .int .i64 0] 62) →
      (Ref w' (w.heap.size + 1) w.heap.size (List.replicate k 0) 0 ∧ Turned [] w w' ∧ w'.heap.size = w.heap.size + 2)) := by
    rintro w' rfl
    refine ⟨⟨by omega, ?_, ?_⟩, ((Turned.refl _ _).alloc _).alloc _, by simp⟩
    · have h2 := heap_alloc_new (w.alloc (.cells (madeCells #[Value.int .i64 0] k) 2)) (.cells #[.slice (some ⟨w.heap.size, 0, none⟩) k k, .int .i64 0] 62)
      simpa using h2
    · rw [Below.heap_alloc _ _ _ (by simp), heap_alloc_new, madeCells_zeros]
  by_cases h1 : n < 0
  · have e : (k : Int) = 0 := by omega
    rw [e] at hmk
    clear hk e hk2
    go_enter Try.func9, Try.ntmps9
    go_wp2
    go_ret
    exact ⟨rfl, HF.out _ rfl⟩
  · by_cases h2 : 65536 < n
    · have e : (k : Int) = 65536 := by omega
      rw [e] at hmk
      clear hk e hk2
      go_enter Try.func9, Try.ntmps9
      go_wp2
      go_ret
      exact ⟨rfl, HF.out _ rfl⟩
    · have e : (k : Int) = n := by omega
      rw [e] at hmk
      clear hk e hk2
      go_enter Try.func9, Try.ntmps9
      go_wp2
      go_ret
      exact ⟨rfl, HF.out _ rfl⟩

theorem rnew_any (n : Int) (w : World) :
    Calls Try.prog 9 #[.int .i64 n] w fun e w' => e = .returned (.pointer (some ⟨w.heap.size + 1, 0, none⟩)) ∧ Ref w' (w.heap.size + 1) w.heap.size (List.replicate (min (max n 0) 65536).toNat 0) 0 ∧ Turned [] w w' ∧ w'.heap.size = w.heap.size + 2 :=
  rnew_k n _ w rfl

theorem rload_out (p q : Nat) (l : List Int) (s : Int) (w : World) (k : Int) (hk : k < 0 ∨ l.length ≤ k) (h : Ref w p q l s) :
    Calls Try.prog 40 #[.pointer (some ⟨p, 0, none⟩), .int .i64 k] w fun e w' => e = .returned (.tuple #[.int .i64 0, .int .i64 10]) ∧ w' = w := by
  have HK := hide hk
  have HH := hide h
  clear hk h
  go_enter Try.func40, Try.ntmps40
  go_wp2_with fail
  refine (there_out p q l s w k HK.out HH.out).mono ?_
  rintro e w1 ⟨rfl, rfl⟩
  go_wp2_with fail
  go_ret2
  exact ⟨rfl, rfl⟩

theorem rstore_out (p q : Nat) (l : List Int) (s : Int) (w : World) (k v : Int) (hk : k < 0 ∨ l.length ≤ k) (h : Ref w p q l s) :
    Calls Try.prog 55 #[.pointer (some ⟨p, 0, none⟩), .int .i64 k, .int .i64 v] w fun e w' => e = .returned (.int .i64 10) ∧ w' = w := by
  have HK := hide hk
  have HH := hide h
  clear hk h
  go_enter Try.func55, Try.ntmps55
  go_wp2_with fail
  refine (there_out p q l s w k HK.out HH.out).mono ?_
  rintro e w1 ⟨rfl, rfl⟩
  go_wp2_with fail
  go_ret
  exact ⟨rfl, rfl⟩

theorem rswap_out (p q : Nat) (l : List Int) (s : Int) (w : World) (k o v : Int) (hk : k < 0 ∨ l.length ≤ k) (h : Ref w p q l s) :
    Calls Try.prog 41 #[.pointer (some ⟨p, 0, none⟩), .int .i64 k, .int .i64 o, .int .i64 v] w fun e w' => e = .returned (.tuple #[.bool false, .int .i64 10]) ∧ w' = w := by
  have HK := hide hk
  have HH := hide h
  clear hk h
  go_enter Try.func41, Try.ntmps41
  go_wp2_with fail
  refine (there_out p q l s w k HK.out HH.out).mono ?_
  rintro e w1 ⟨rfl, rfl⟩
  go_wp2_with fail
  go_ret2
  exact ⟨rfl, rfl⟩

set_option maxRecDepth 100000 in
theorem rload_in (p q : Nat) (l : List Int) (s : Int) (w : World) (k : Nat) (x : Int) (hk : l[k]? = some x) (h : Ref w p q l s) :
    Calls Try.prog 40 #[.pointer (some ⟨p, 0, none⟩), .int .i64 k] w fun e w' => e = .returned (.tuple #[.int .i64 x, .int .i64 0]) ∧ Ref w' p q l (wrap64 (s + 1)) ∧ Turned [p, q] w w' := by
  have hlt : k < l.length := (List.getElem?_eq_some_iff.1 hk).1
  have HK := hide hk
  have HH := hide h
  clear hk h
  go_enter Try.func40, Try.ntmps40
  go_wp2_with fail
  refine (there_in p q l s w k hlt HH.out).mono ?_
  rintro e w1 ⟨rfl, hr, ht⟩
  have h0 := hr.c0
  have hw := hr.word HK.out
  have hf := hr.fw k
  have HR := hide hr
  have HT := hide ht
  clear hr ht
  go_wp2
  go_ret2
  exact ⟨rfl, HR.out, HT.out⟩

set_option maxRecDepth 100000 in
theorem rstore_in (p q : Nat) (l : List Int) (s : Int) (w : World) (k : Nat) (x v : Int) (hk : l[k]? = some x) (h : Ref w p q l s) :
    Calls Try.prog 55 #[.pointer (some ⟨p, 0, none⟩), .int .i64 k, .int .i64 v] w fun e w' => e = .returned (.int .i64 0) ∧ Ref w' p q (l.set k (v)) (wrap64 (s + 1)) ∧ Turned [p, q] w w' := by
  have hlt : k < l.length := (List.getElem?_eq_some_iff.1 hk).1
  have HK := hide hk
  have HH := hide h
  clear hk h
  go_enter Try.func55, Try.ntmps55
  go_wp2_with fail
  refine (there_in p q l s w k hlt HH.out).mono ?_
  rintro e w1 ⟨rfl, hr, ht⟩
  have h0 := hr.c0
  have hw := hr.word HK.out
  have hf := hr.fw k
  have HR := hide hr
  have HT := hide ht
  clear hr ht
  go_wp2
  go_ret
  exact ⟨rfl, HR.out.store k _, HT.out.setCell (by simp) _⟩

set_option maxRecDepth 100000 in
theorem rswap_hit (p q : Nat) (l : List Int) (s : Int) (w : World) (k : Nat) (x v : Int) (hk : l[k]? = some x) (h : Ref w p q l s) :
    Calls Try.prog 41 #[.pointer (some ⟨p, 0, none⟩), .int .i64 k, .int .i64 x, .int .i64 v] w fun e w' => e = .returned (.tuple #[.bool true, .int .i64 0]) ∧ Ref w' p q (l.set k (v)) (wrap64 (s + 1)) ∧ Turned [p, q] w w' := by
  have hlt : k < l.length := (List.getElem?_eq_some_iff.1 hk).1
  have HK := hide hk
  have HH := hide h
  clear hk h
  go_enter Try.func41, Try.ntmps41
  go_wp2_with fail
  refine (there_in p q l s w k hlt HH.out).mono ?_
  rintro e w1 ⟨rfl, hr, ht⟩
  have h0 := hr.c0
  have hw := hr.word HK.out
  have hf := hr.fw k
  have HR := hide hr
  have HT := hide ht
  clear hr ht
  go_wp2
  go_ret2
  exact ⟨rfl, HR.out.store k _, HT.out.setCell (by simp) _⟩

set_option maxRecDepth 100000 in
theorem rswap_miss (p q : Nat) (l : List Int) (s : Int) (w : World) (k : Nat) (x o v : Int) (hk : l[k]? = some x) (hne : ¬ x = o) (h : Ref w p q l s) :
    Calls Try.prog 41 #[.pointer (some ⟨p, 0, none⟩), .int .i64 k, .int .i64 o, .int .i64 v] w fun e w' => e = .returned (.tuple #[.bool false, .int .i64 0]) ∧ Ref w' p q l (wrap64 (s + 1)) ∧ Turned [p, q] w w' := by
  have hlt : k < l.length := (List.getElem?_eq_some_iff.1 hk).1
  have HK := hide hk
  have HH := hide h
  clear hk h
  have hb : (x != o) = true := by simpa using hne
  clear hne
  go_enter Try.func41, Try.ntmps41
  go_wp2_with fail
  refine (there_in p q l s w k hlt HH.out).mono ?_
  rintro e w1 ⟨rfl, hr, ht⟩
  have h0 := hr.c0
  have hw := hr.word HK.out
  have hf := hr.fw k
  have HR := hide hr
  have HT := hide ht
  clear hr ht
  go_wp2
  go_ret2
  exact ⟨rfl, HR.out, HT.out⟩

end Go.Proofs.Ytelljfckffmjmaa

/-
  Gangs without memory: workers in a row, of which the first ones have arrived.
-/
import Derived.Test.YtdjeilombaclmaaGangArrive
namespace Go.Proofs.Ytdjeilombaclmaa
open Go.RowKit
set_option linter.unusedVariables false

/-- All workers, each once; not all have arrived. -/
structure GI (n : Nat) (ws : List Int) (came : Nat) : Prop where
  perm : ws.Perm (ids n)
  lt : came < n
theorem GI.len {n : Nat} {ws : List Int} {came : Nat} (h : GI n ws came) : ws.length = n := by rw [h.perm.length_eq, ids_length]
theorem GI.nodup {n : Nat} {ws : List Int} {came : Nat} (h : GI n ws came) : ws.Nodup := h.perm.nodup_iff.2 (ids_nodup n)
theorem GI.mem {n : Nat} {ws : List Int} {came : Nat} (h : GI n ws came) {x : Int} : x ∈ ws ↔ 0 ≤ x ∧ x < n := by rw [h.perm.mem_iff, mem_ids]
theorem GI.start {n : Nat} (h : 0 < n) : GI n (ids n) 0 := ⟨List.Perm.refl _, h⟩

theorem idx_get {ws : List Int} {x : Int} {a : Nat} (h : idxI ws x = a) : ws[a]? = some x := by
  unfold idxI at h
  split at h
  · rename_i hm
    obtain rfl : ws.idxOf x = a := by omega
    rw [List.getElem?_eq_getElem (List.idxOf_lt_length_of_mem hm)]
    simp
  · omega
theorem idx_take {ws : List Int} {x : Int} {a came : Nat} (h : idxI ws x = a) : x ∈ ws.take came ↔ a < came := by
  have hg := idx_get h
  constructor
  · intro hm
    obtain ⟨i, hi, e⟩ := List.getElem_of_mem hm
    rw [List.getElem_take] at e
    rw [List.length_take] at hi
    by_cases hlt : a < came
    · exact hlt
    · exfalso
      have h2 : x ∉ ws.take a := by
        intro hm2
        unfold idxI at h
        rw [if_pos (List.mem_of_mem_take hm)] at h
        have h3 : ws.idxOf x = a := by omega
        have h4 := List.idxOf_lt_length_of_mem hm2
        rw [List.length_take] at h4
        rw [← List.take_append_drop a ws, List.idxOf_append, if_pos hm2] at h3
        omega
      refine h2 ?_
      rw [← e]
      have : ws[i]'(by omega) ∈ ws.take a := by
        rw [List.mem_take_iff_getElem]
        exact ⟨i, by omega, rfl⟩
      exact this
  · intro hlt
    rw [List.mem_take_iff_getElem]
    obtain ⟨h1, h2⟩ := List.getElem?_eq_some_iff.1 hg
    exact ⟨a, by omega, h2⟩

theorem swp_perm {ws : List Int} {a k : Nat} {x : Int} (ha : ws[a]? = some x) (hk : k < ws.length) : (swp ws a k x).Perm ws := by
  obtain ⟨h1, h2⟩ := List.getElem?_eq_some_iff.1 ha
  have h3 := List.set_set_perm h1 hk
  unfold swp
  rw [List.getD_eq_getElem?_getD, List.getElem?_eq_getElem hk]
  rw [h2] at h3
  exact h3
theorem swp_take {ws : List Int} {a k : Nat} {x : Int} (hak : k ≤ a) (hk : k < ws.length) : (swp ws a k x).take (k + 1) = ws.take k ++ [x] := by
  unfold swp
  have h1 : ((ws.set a (ws.getD k 0)).set k x)[k]? = some x := by
    rw [List.getElem?_set_self (by simpa using hk)]
  rw [take_snoc h1, List.take_set_of_le (Nat.le_refl _), List.take_set_of_le hak]

/-- What an arrival does. -/
inductive Arr (n : Nat) (ws : List Int) (came : Nat) (ph x : Int) : Bool → Int → List Int → Nat → Int → Prop
  | task (h : ¬ (0 ≤ x ∧ x < n)) : Arr n ws came ph x false 17 ws came ph
  | state (h : 0 ≤ x ∧ x < n) (hm : x ∈ ws.take came) : Arr n ws came ph x false 16 ws came ph
  | more {ws' : List Int} (h : 0 ≤ x ∧ x < n) (hm : x ∉ ws.take came) (hc : came + 1 < n) (hs : ∀ y, y ∈ ws'.take (came + 1) ↔ y = x ∨ y ∈ ws.take came) : Arr n ws came ph x false 0 ws' (came + 1) ph
  | last {ws' : List Int} (h : 0 ≤ x ∧ x < n) (hm : x ∉ ws.take came) (hc : came + 1 = n) (hs : ∀ y : Int, 0 ≤ y ∧ y < n → y = x ∨ y ∈ ws.take came) : Arr n ws came ph x true 0 ws' 0 (ph + 1)

/-- A gang newer than a law's first world. -/
def Gn (w0 w : World) (p q n : Nat) (ws : List Int) (came : Nat) (ph : Int) : Prop := Gg w p q ws came ph ∧ GI n ws came ∧ Turned [] w0 w ∧ w0.heap.size ≤ p ∧ w0.heap.size ≤ q
section
variable {w0 w w' : World} {p q n : Nat} {ws : List Int} {came : Nat} {ph : Int}
theorem Gn.turn (h : Gn w0 w p q n ws came ph) : Turned [] w0 w := h.2.2.1
theorem Gn.next (h : Gn w0 w p q n ws came ph) (ht : Turned [] w w') : Gn w0 w' p q n ws came ph := ⟨h.1.turned0 ht, h.2.1, h.2.2.1.trans ht, h.2.2.2⟩
theorem Gn.other (h : Gn w0 w p q n ws came ph) {S : List Nat} (ht : Turned S w w') (hp : p ∉ S) (hq : q ∉ S) (hS : ∀ i, i ∈ S → w0.heap.size ≤ i) : Gn w0 w' p q n ws came ph := ⟨h.1.turned ht hp hq, h.2.1, h.2.2.1.trans_new ht (fun i hi => .inr (hS i hi)), h.2.2.2⟩

theorem gn_new (w0 w : World) (ht : Turned [] w0 w) (n : Nat) (h0 : 0 < n) (hn : n ≤ 64) :
    Calls Try.prog 20 #[.int .i64 (n : Int)] w fun e w' => e = .returned (.tuple #[ptr (w.heap.size + 1), .int .i64 0]) ∧ Gn w0 w' (w.heap.size + 1) w.heap.size n (ids n) 0 0 ∧ Turned [] w w' := by
  refine (gnew_ok n h0 hn w).mono ?_
  rintro e w' ⟨rfl, h1, h2⟩
  have := ht.size
  exact ⟨rfl, ⟨h1, GI.start h0, ht.trans h2, by omega, by omega⟩, h2⟩

theorem gn_arrive (h : Gn w0 w p q n ws came ph) (x : Int) (hph : 0 ≤ ph ∧ ph < 1000000000) :
    Calls Try.prog 36 #[ptr p, .int .i64 x] w fun e w' => ∃ b er ws' came' ph', e = .returned (.tuple #[.bool b, .int .i64 er]) ∧ Gn w0 w' p q n ws' came' ph' ∧ Turned [p, q] w w' ∧ Arr n ws came ph x b er ws' came' ph' := by
  obtain ⟨hg, hI, ht, hp, hq⟩ := h
  have hlen := hI.len
  by_cases hx : idxI ws x < came
  · refine (garrive_bad w p q ws came ph x hg hx).mono ?_
    rintro e w' ⟨rfl, k, rfl⟩
    refine ⟨_, _, ws, came, ph, rfl, ⟨hg.drewN k, hI, ht.drewN k, hp, hq⟩, (Turned.refl _ _).drewN k, ?_⟩
    by_cases h0 : idxI ws x < 0
    · rw [if_pos h0]
      exact .task (by rw [← hI.mem]; exact idx_neg.1 h0)
    · rw [if_neg h0]
      have hm : x ∈ ws := by
        have := mt idx_neg.2 h0
        simpa using this
      refine .state (hI.mem.1 hm) ?_
      rw [idx_take (a := (idxI ws x).toNat) (by omega)]
      omega
  · obtain ⟨a, ha⟩ : ∃ a : Nat, idxI ws x = a := ⟨(idxI ws x).toNat, by have := Int.natCast_nonneg came; omega⟩
    have hr := idx_range ws x
    have hm : x ∈ ws := by
      have := mt idx_neg.2 (show ¬ idxI ws x < 0 by omega)
      simpa using this
    have hnt : x ∉ ws.take came := by rw [idx_take ha]; omega
    have hlt := hI.lt
    have hsp : (swp ws a came x).Perm (ids n) := (swp_perm (idx_get ha) (by omega)).trans hI.perm
    have hst := swp_take (x := x) (show came ≤ a by omega) (show came < ws.length by omega)
    refine (garrive_ok w p q ws came ph x hg a ha (by omega) hph).mono ?_
    rintro e w' ⟨rfl, h1, h2⟩
    have ht' : Turned [] w0 w' := ht.trans_new h2 (fun i hi => by simp at hi; rcases hi with rfl | rfl <;> exact .inr (by omega))
    by_cases hc : came + 1 = ws.length
    · rw [if_pos hc, if_pos hc] at h1
      refine ⟨_, _, _, _, _, rfl, ⟨h1, ⟨hsp, by omega⟩, ht', hp, hq⟩, h2, ?_⟩
      rw [decide_eq_true hc]
      refine .last (hI.mem.1 hm) hnt (by omega) fun y hy => ?_
      have h3 : (swp ws a came x).take (came + 1) = swp ws a came x := List.take_of_length_le (by simp [swp]; omega)
      have h4 : y ∈ swp ws a came x := by rw [hsp.mem_iff, mem_ids]; exact hy
      rw [← h3, hst] at h4
      simp at h4
      exact h4.symm
    · rw [if_neg hc, if_neg hc] at h1
      refine ⟨_, _, _, _, _, rfl, ⟨h1, ⟨hsp, by omega⟩, ht', hp, hq⟩, h2, ?_⟩
      rw [decide_eq_false hc]
      refine .more (hI.mem.1 hm) hnt (by omega) fun y => ?_
      rw [hst]
      simp
      exact Or.comm
end

theorem GI.drop {n : Nat} {ws : List Int} {came : Nat} (h : GI n ws came) {x : Int} : x ∈ ws.drop came ↔ (0 ≤ x ∧ x < n) ∧ x ∉ ws.take came := by
  have h1 : x ∈ ws ↔ x ∈ ws.take came ∨ x ∈ ws.drop came := by
    rw [← List.mem_append, List.take_append_drop]
  have h2 := h.nodup
  rw [← List.take_append_drop came ws, List.nodup_append] at h2
  rw [← h.mem, h1]
  constructor
  · intro hm
    exact ⟨.inr hm, fun hm2 => h2.2.2 x hm2 x hm rfl⟩
  · rintro ⟨h3 | h3, h4⟩
    · exact absurd h3 h4
    · exact h3
/-- Somebody has not arrived. -/
theorem GI.one {n : Nat} {ws : List Int} {came : Nat} (h : GI n ws came) : ∃ k : Nat, k < n ∧ (k : Int) ∉ ws.take came := by
  have hl := h.len
  have hlt := h.lt
  have hm : ws[came]'(by omega) ∈ ws.drop came := by
    rw [List.drop_eq_getElem_cons (by omega)]
    exact List.mem_cons_self
  obtain ⟨h1, h2⟩ := h.drop.1 hm
  refine ⟨(ws[came]'(by omega)).toNat, by omega, ?_⟩
  rw [Int.toNat_of_nonneg h1.1]
  exact h2
end Go.Proofs.Ytdjeilombaclmaa

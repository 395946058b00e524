/-
  What find, lay, count and Size tell.
-/
import Derived.Test.YthigmechfcndcaaClassesBase
namespace Go.Proofs.Ythigmechfcndcaa
open Go.RowKit
set_option linter.unusedVariables false

/-- A slice of classes that can be read. -/
structure CRd (w : World) (ao : Option Addr) (len : Nat) (cs : List Cls) : Prop where
  size : cs.length = len
  room : len ≤ 9223372036854775807
  cell : ∀ i c, cs[i]? = some c → ∃ b off, ao = some ⟨b, off, none⟩ ∧ w.cell? ⟨b, off + i * 3, none⟩ = some (.int .i64 c.r) ∧ w.cell? ⟨b, off + i * 3 + 1, none⟩ = some (.int .i64 c.w) ∧ w.cell? ⟨b, off + i * 3 + 2, none⟩ = some (.int .i64 c.a)
  inn : ∀ c, c ∈ cs → c.In
theorem CRd.turned {w w' : World} {ao : Option Addr} {len : Nat} {cs : List Cls} (h : CRd w ao len cs) (ht : Turned [] w w') : CRd w' ao len cs := by
  refine ⟨h.size, h.room, fun i c hc => ?_, h.inn⟩
  obtain ⟨b, off, h0, h1, h2, h3⟩ := h.cell i c hc
  exact ⟨b, off, h0, by rw [ht.cell (block_lt h1) (by simp)]; exact h1, by rw [ht.cell (block_lt h2) (by simp)]; exact h2, by rw [ht.cell (block_lt h3) (by simp)]; exact h3⟩

/-- The class of that number, if it may be. -/
def clsAt (cs : List Cls) (k : Int) : Option Cls :=
  if k = 0 then some ⟨0, 0, 3⟩ else if k < 0 then none else match cs[(k - 1).toNat]? with
  | some c => if c.may then some c else none
  | none => none
def Cls.rN (c : Cls) (n : Int) : Int := if c.a = 1 then n else if c.a = 2 ∨ c.a = 3 then 0 else c.r
def Cls.wN (c : Cls) (n : Int) : Int := if c.a = 1 then 0 else if c.a = 2 ∨ c.a = 3 then n else c.w
def Cls.most (c : Cls) : Int := if c.a = 1 ∨ c.a = 2 then 1024 else if c.a = 3 then 65535 else 0
/-- What count tells, of those words that g takes. -/
def told (g : Int → Int → Int) (cs : List Cls) (k n : Int) : Int × Int :=
  match clsAt cs k with
  | none => (0, 12)
  | some c => if 0 ≤ n ∧ n ≤ c.most then (g (c.rN n) (c.wN n), 0) else (0, 11)

theorem find_none (ao : Option Addr) (len cap : Nat) (cs : List Cls) (k : Int) (w : World) (h : CRd w ao len cs) (hk : clsAt cs k = none) :
    Calls Try.prog 46 #[.slice ao len cap, .int .i64 k] w fun e w' => e = .returned (.tuple #[.agg #[.int .i64 0, .int .i64 0, .int .i64 0], .int .i64 12]) ∧ Turned [] w w' := by
  have hl := h.size
  have hr := h.room
  have hk0 : ¬ k = 0 := by intro e; simp [clsAt, e] at hk
  have HT := hide (fun c => (Turned.refl [] w).alloc (.cells c 91))
  by_cases h1 : k < 0
  · clear hk h
    go_enter Try.func46, Try.ntmps46
    go_wp2_with fail
    refine bodyPost_ret (v := .tuple #[.agg #[.int .i64 0, .int .i64 0, .int .i64 0], .int .i64 12]) (by simp [results, Try.results46, go_sem]) rfl ⟨rfl, HT.out _⟩
  · by_cases h2 : (len : Int) < k
    · clear hk h
      go_enter Try.func46, Try.ntmps46
      go_wp2_with fail
      refine bodyPost_ret (v := .tuple #[.agg #[.int .i64 0, .int .i64 0, .int .i64 0], .int .i64 12]) (by simp [results, Try.results46, go_sem]) rfl ⟨rfl, HT.out _⟩
    · obtain ⟨i, rfl⟩ : ∃ i : Nat, k = (i : Int) + 1 := ⟨(k - 1).toNat, by omega⟩
      obtain ⟨c, hc⟩ : ∃ c, cs[i]? = some c := ⟨_, List.getElem?_eq_getElem (by omega)⟩
      obtain ⟨b, off, rfl, c0, c1, c2⟩ := h.cell i c hc
      have hm : c.may = false := by simpa [clsAt, hk0, h1, hc] using hk
      have hTa : Turned [] w (w.alloc (.cells #[.int .i64 0, .int .i64 0, .int .i64 0] 91)) := (Turned.refl [] w).alloc _
      rw [← hTa.cell (block_lt c0) (by simp)] at c0
      rw [← hTa.cell (block_lt c1) (by simp)] at c1
      rw [← hTa.cell (block_lt c2) (by simp)] at c2
      have HTa := hide hTa
      clear hTa
      have e4 : ((i : Int) + 1 == 0) = false := by simp; omega
      have e3 : wrap64 ((i : Int) + 1 - 1) = (i : Int) := by unfold wrap64; omega
      have HM := hide (fun w => may_any c.r c.w c.a w (h.inn c (List.mem_of_getElem? hc)))
      rw [show (⟨c.r, c.w, c.a⟩ : Cls).may = false from hm] at HM
      clear hk h hc
      go_enter Try.func46, Try.ntmps46
      go_wp2_with fail
      refine (HM.out _).mono ?_
      rintro e w1 ⟨rfl, ht1⟩
      have HT1 := hide (HTa.out.trans ht1)
      have hbx : w1.heap[w.heap.size]? = some (.cells #[.int .i64 0, .int .i64 0, .int .i64 0] 91) := by rw [ht1.block _ (by simp) (by simp), heap_alloc_new]
      have x0 := cell_of_heap hbx 0
      have x1 := cell_of_heap hbx 1
      have x2 := cell_of_heap hbx 2
      have xf : ∀ i, w1.frozen? ⟨w.heap.size, i, none⟩ = false := fun i => by simp [World.frozen?, hbx]
      have xf0 := xf 0
      have xf1 := xf 1
      have xf2 := xf 2
      clear ht1 hbx HM c0 c1 c2 xf
      go_wp2_with fail
      refine bodyPost_ret (v := .tuple #[.agg #[.int .i64 0, .int .i64 0, .int .i64 0], .int .i64 12]) (by simp [results, Try.results46, go_sem, x0, x1, x2]) rfl ⟨rfl, ((HT1.out.setCell (.inr (Nat.le_refl _)) _).setCell (.inr (Nat.le_refl _)) _).setCell (.inr (Nat.le_refl _)) _⟩

theorem find_some (ao : Option Addr) (len cap : Nat) (cs : List Cls) (k : Int) (w : World) (d : Cls) (h : CRd w ao len cs) (hk : clsAt cs k = some d) :
    Calls Try.prog 46 #[.slice ao len cap, .int .i64 k] w fun e w' => e = .returned (.tuple #[.agg #[.int .i64 d.r, .int .i64 d.w, .int .i64 d.a], .int .i64 0]) ∧ Turned [] w w' := by
  have hl := h.size
  have hr := h.room
  have HT := hide (fun c => (Turned.refl [] w).alloc (.cells c 91))
  by_cases h0 : k = 0
  · subst h0
    simp [clsAt] at hk
    subst hk
    clear h
    go_enter Try.func46, Try.ntmps46
    go_wp2_with fail
    refine bodyPost_ret (v := .tuple #[.agg #[.int .i64 0, .int .i64 0, .int .i64 3], .int .i64 0]) (by simp [results, Try.results46, go_sem]) rfl ⟨rfl, HT.out _⟩
  · have h1 : ¬ k < 0 := by intro e; simp [clsAt, e, h0] at hk
    obtain ⟨i, rfl⟩ : ∃ i : Nat, k = (i : Int) + 1 := ⟨(k - 1).toNat, by omega⟩
    cases hc : cs[i]? with
    | none => simp [clsAt, h0, h1, hc] at hk
    | some c =>
      have hm : c.may = true ∧ c = d := by simpa [clsAt, h0, h1, hc] using hk
      obtain ⟨hm, rfl⟩ := hm
      have h2 : i < cs.length := (List.getElem?_eq_some_iff.1 hc).1
      have h3 : ¬ ((len : Int) < (i : Int) + 1) := by omega
      obtain ⟨b, off, rfl, c0, c1, c2⟩ := h.cell i c hc
      have hTa : Turned [] w (w.alloc (.cells #[.int .i64 0, .int .i64 0, .int .i64 0] 91)) := (Turned.refl [] w).alloc _
      rw [← hTa.cell (block_lt c0) (by simp)] at c0
      rw [← hTa.cell (block_lt c1) (by simp)] at c1
      rw [← hTa.cell (block_lt c2) (by simp)] at c2
      have HTa := hide hTa
      clear hTa
      have e4 : ((i : Int) + 1 == 0) = false := by simp; omega
      have e3 : wrap64 ((i : Int) + 1 - 1) = (i : Int) := by unfold wrap64; omega
      have HM := hide (fun w => may_any c.r c.w c.a w (h.inn c (List.mem_of_getElem? hc)))
      rw [show (⟨c.r, c.w, c.a⟩ : Cls).may = true from hm] at HM
      clear hk h hc
      go_enter Try.func46, Try.ntmps46
      go_wp2_with fail
      refine (HM.out _).mono ?_
      rintro e w1 ⟨rfl, ht1⟩
      have HT1 := hide (HTa.out.trans ht1)
      have hbx : w1.heap[w.heap.size]? = some (.cells #[.int .i64 0, .int .i64 0, .int .i64 0] 91) := by rw [ht1.block _ (by simp) (by simp), heap_alloc_new]
      rw [← ht1.cell (block_lt c0) (by simp)] at c0
      rw [← ht1.cell (block_lt c1) (by simp)] at c1
      rw [← ht1.cell (block_lt c2) (by simp)] at c2
      have x0 := cell_of_heap hbx 0
      have x1 := cell_of_heap hbx 1
      have x2 := cell_of_heap hbx 2
      have xf : ∀ i, w1.frozen? ⟨w.heap.size, i, none⟩ = false := fun i => by simp [World.frozen?, hbx]
      have xf0 := xf 0
      have xf1 := xf 1
      have xf2 := xf 2
      clear ht1 hbx HM xf
      go_wp2_with fail
      refine bodyPost_ret (v := .tuple #[.agg #[.int .i64 c.r, .int .i64 c.w, .int .i64 c.a], .int .i64 0]) (by simp [results, Try.results46, go_sem, x0, x1, x2]) rfl ⟨rfl, ((HT1.out.setCell (.inr (Nat.le_refl _)) _).setCell (.inr (Nat.le_refl _)) _).setCell (.inr (Nat.le_refl _)) _⟩

theorem lay_any (c : Cls) (n : Int) (w : World) (hn : In64 n) :
    Calls Try.prog 47 #[.agg #[.int .i64 c.r, .int .i64 c.w, .int .i64 c.a], .int .i64 n] w fun e w' => e = .returned (.tuple #[.agg #[.int .i64 (c.rN n), .int .i64 (c.wN n)], .int .i64 c.most]) ∧ Turned [] w w' := by
  have HT := hide (fun c d => ((Turned.refl [] w).alloc (.cells c 91)).alloc (.cells d 97))
  unfold In64 at hn
  obtain ⟨r, v, a⟩ := c
  by_cases h1 : a = 1
  · subst h1
    simp only [Cls.rN, Cls.wN, Cls.most, if_pos, true_or]
    go_enter Try.func47, Try.ntmps47
    go_wp2_with fail
    refine bodyPost_ret (v := .tuple #[.agg #[.int .i64 n, .int .i64 0], .int .i64 1024]) (by simp [results, Try.results47, go_sem]) rfl ⟨rfl, HT.out _ _⟩
  · by_cases h2 : a = 2
    · subst h2
      simp only [Cls.rN, Cls.wN, Cls.most, if_pos, true_or, or_true, if_neg h1]
      go_enter Try.func47, Try.ntmps47
      go_wp2_with fail
      refine bodyPost_ret (v := .tuple #[.agg #[.int .i64 0, .int .i64 n], .int .i64 1024]) (by simp [results, Try.results47, go_sem]) rfl ⟨rfl, HT.out _ _⟩
    · by_cases h3 : a = 3
      · subst h3
        rw [show Cls.rN ⟨r, v, 3⟩ n = 0 from rfl, show Cls.wN ⟨r, v, 3⟩ n = n from rfl, show Cls.most ⟨r, v, 3⟩ = 65535 from rfl]
        go_enter Try.func47, Try.ntmps47
        go_wp2_with fail
        refine bodyPost_ret (v := .tuple #[.agg #[.int .i64 0, .int .i64 n], .int .i64 65535]) (by simp [results, Try.results47, go_sem]) rfl ⟨rfl, HT.out _ _⟩
      · rw [show Cls.rN ⟨r, v, a⟩ n = r by simp [Cls.rN, h1, h2, h3], show Cls.wN ⟨r, v, a⟩ n = v by simp [Cls.wN, h1, h2, h3], show Cls.most ⟨r, v, a⟩ = 0 by simp [Cls.most, h1, h2, h3]]
        go_enter Try.func47, Try.ntmps47
        go_wp2_with fail
        refine bodyPost_ret (v := .tuple #[.agg #[.int .i64 r, .int .i64 v], .int .i64 0]) (by simp [results, Try.results47, go_sem]) rfl ⟨rfl, HT.out _ _⟩
end Go.Proofs.Ythigmechfcndcaa

/-
  Texts of the proof, several in one: ClsClone.
-/
import Derived.Test.YtgbclfhgpkmcnaaGreatDoorPack2
import Derived.Lib.SliceRun
import Derived.ArgAppend
/-
  A copy of classes, in new memory.
-/
namespace Go.Proofs.YtgbclfhgpkmcnaaGreatDoor
open Go.RowKit
set_option linter.unusedVariables false
theorem Tryz.infoCls : (Tryz.prog.info? 94).map (fun i => (i.zero, i.size, i.bytes)) = some (some (.agg #[.int .i64 0, .int .i64 0, .int .i64 0]), 3, 24) := by kernel_rfl
def Cls.cells (c : Cls) : List Value := [.int .i64 c.r, .int .i64 c.w, .int .i64 c.a]
def flatC (cs : List Cls) : List Value := cs.flatMap Cls.cells
theorem flatC_length (cs : List Cls) : (flatC cs).length = cs.length * 3 := by
  induction cs with
  | nil => rfl
  | cons b bs ih =>
    show (b.cells ++ flatC bs).length = _
    rw [List.length_append, ih, List.length_cons]
    simp [Cls.cells]
    omega
theorem flatC_get {cs : List Cls} : ∀ {i : Nat} {c : Cls}, cs[i]? = some c → ∀ j, j < 3 → (flatC cs)[i * 3 + j]? = c.cells[j]? := by
  induction cs with
  | nil => intro i c h; simp at h
  | cons b bs ih =>
    intro i c h j hj
    show (b.cells ++ flatC bs)[i * 3 + j]? = _
    cases i with
    | zero =>
      simp at h
      subst h
      rw [Nat.zero_mul, Nat.zero_add, List.getElem?_append_left (by simp [Cls.cells]; omega)]
    | succ i =>
      simp at h
      rw [List.getElem?_append_right (by simp [Cls.cells]; omega)]
      have e : (i + 1) * 3 + j - b.cells.length = i * 3 + j := by simp [Cls.cells]; omega
      rw [e]
      exact ih h j hj
theorem flatC_of {cs : List Cls} {k : Nat} {u : Value} (h : (flatC cs)[k]? = some u) : ∃ c, cs[k / 3]? = some c ∧ c.cells[k % 3]? = some u := by
  have hk : k < (flatC cs).length := (List.getElem?_eq_some_iff.1 h).1
  rw [flatC_length] at hk
  obtain ⟨c, hc⟩ : ∃ c, cs[k / 3]? = some c := ⟨cs[k / 3]'(by omega), by simp⟩
  refine ⟨c, hc, ?_⟩
  have := flatC_get hc (k % 3) (by omega)
  rw [show k / 3 * 3 + k % 3 = k by omega] at this
  rw [← this]
  exact h

set_option maxRecDepth 100000 in
/-- A copy of the classes, in new memory. -/
theorem clone_cls (b off n c : Nat) (cs : List Cls) (w : World) (hcs : CRd w (some ⟨b, off, none⟩) n cs) (hn : n ≤ 65536) (h0 : 0 < n) :
    Calls Tryz.prog 51 #[.slice (some ⟨b, off, none⟩) n c] w fun e w' => ∃ g cap, e = .returned (.slice (some ⟨g, 0, none⟩) n cap) ∧ CRow w' (some ⟨g, 0, none⟩) n cs ∧ w.heap.size ≤ g ∧ Turned [] w w' := by
  have und : Tryz.prog.underlying 43 = some (.slice 94) := by kernel_rfl
  have heq := fun w => Lib.run_eql_slice_nil (P := Tryz.prog) w 43 94 (some ⟨b, off, none⟩) n c 0 0 und
  have hbs : ∀ w : World, (Instr.buildSlice 43 0 #[]).run Tryz.prog w = .ok (.slice (some ⟨w.heap.size, 0, none⟩) 0 0) (w.alloc (.cells #[] 94)) := fun _ => by kernel_rfl
  have hl := hcs.size
  have hcl : ∀ j u, (flatC cs)[j]? = some u → (w.alloc (.cells #[] 94)).cell? (Addr.add ⟨b, off, none⟩ j) = some u := by
    intro j u hu
    obtain ⟨k, hk, hu2⟩ := flatC_of hu
    obtain ⟨b', off', e0, c0, c1, c2⟩ := hcs.cell (j / 3) k hk
    cases e0
    rw [show Addr.add ⟨b, off, none⟩ j = ⟨b, off + j, none⟩ by simp [Addr.add]]
    have hb : b < w.heap.size := block_lt c0
    rw [World.cell?_of_block (w := w) (Below.heap_alloc _ _ _ hb)]
    have e3 : j % 3 = 0 ∨ j % 3 = 1 ∨ j % 3 = 2 := by omega
    rcases e3 with e | e | e <;> rw [e] at hu2 <;> simp [Cls.cells] at hu2 <;> subst hu2
    · rw [show off + j = off + j / 3 * 3 by omega]; exact c0
    · rw [show off + j = off + j / 3 * 3 + 1 by omega]; exact c1
    · rw [show off + j = off + j / 3 * 3 + 2 by omega]; exact c2
  have HC : Hid (∀ j u, (flatC cs)[j]? = some u → (w.alloc (.cells #[] 94)).cell? (Addr.add ⟨b, off, none⟩ j) = some u) := hcl
  have HL : Hid ((flatC cs).length = n * 3) := by show _ = _; rw [flatC_length, hl]
  have H1 : Hid (∀ u, u ∈ flatC cs → u.oneCell' = true) := by
    intro u hu
    obtain ⟨j, hj⟩ := List.getElem?_of_mem hu
    obtain ⟨k, hk, hu2⟩ := flatC_of hj
    have := List.mem_of_getElem? hu2
    simp [Cls.cells] at this
    rcases this with rfl | rfl | rfl <;> rfl
  have HIn := hide (And.intro hcs.inn (And.intro hcs.room hl))
  clear hcs hcl hl
  obtain ⟨i0, hi, hi0⟩ := Option.map_eq_some_iff.1 Tryz.infoCls
  simp only [Prod.mk.injEq] at hi0
  obtain ⟨hz0, hz1, hz2⟩ := hi0
  go_enter Tryz.func51, Tryz.ntmps51
  go_wp2_with (at_builtin; (refine wpList_append_grows _ rfl _ _ 43 rfl 94 i0 (.agg #[.int .i64 0, .int .i64 0, .int .i64 0]) 3 24 und hi hz0 hz1 hz2 rfl (by decide) (some ⟨w.heap.size, 0, none⟩) 0 0 [] rfl (by intro h; cases h) rfl (by intro b hb j u hu; simp at hu) ⟨b, off, none⟩ n c (flatC cs) rfl HL.out HC.out H1.out (by omega) (by unfold maxLen; omega) (by omega) ?_); intro v1 w1 hown hgr)
  go_ret
  simp only [Nat.zero_add, List.nil_append] at hown
  rcases hown.2 with ⟨_, h1⟩ | ⟨g, cap, cur, rfl, hg, hh, hc, hm, hs, ht⟩
  · omega
  · refine ⟨g, cap, rfl, ⟨⟨HIn.out.2.2, HIn.out.2.1, fun i k hk => ⟨g, 0, rfl, ?_⟩, HIn.out.1⟩, fun b' off' spot e => by cases e; exact ⟨_, _, hh⟩⟩, by simp at hg; omega, ((Turned.refl _ _).alloc _).grown hgr (fun k hk => by cases hk)⟩
    have key : ∀ j, j < 3 → w1.cell? ⟨g, 0 + i * 3 + j, none⟩ = k.cells[j]? := fun j hj => by
      have h2 := flatC_get hk j hj
      have hi3 : i < n := by have := (List.getElem?_eq_some_iff.1 hk).1; have := HIn.out.2.2; omega
      rw [← ht, List.getElem?_take, if_pos (by omega)] at h2
      rw [cell_of_heap hh, Nat.zero_add, ← h2]
      simp
    exact ⟨key 0 (by omega), key 1 (by omega), key 2 (by omega)⟩

end Go.Proofs.YtgbclfhgpkmcnaaGreatDoor

/-
  Held, stand, and who is let in: the set of those that stand.
-/
import Derived.Test.YtlbcbphkgaoliabMonTab
import Derived.Deep.Cut
namespace Go.Proofs.Ytlbcbphkgaoliab
open Go.RowKit
set_option linter.unusedVariables false
set_option linter.unusedSimpArgs false

theorem St.ofT {F : List Nat} {w w' : World} (t : Turned F w w') (h : ∀ k, k ∈ F → ∀ c fr, w.heap[k]? ≠ some (.cells c 52 fr)) : St (fun k _ => k ∈ F) w w' :=
  ⟨t.os, t.tape, t.output, t.size, fun k hk hn => t.block k hk (hn 0), fun k c hc => ⟨c, t.at hc (fun hk => h k hk _ _ hc), rfl, fun _ _ => rfl⟩⟩
/-- What isn't a table is as it was. -/
def Kp (w w' : World) : Prop := ∀ (k : Nat) (c : Array Value) (e : TypeId), w.heap[k]? = some (.cells c e) → e ≠ 42 → w'.heap[k]? = some (.cells c e)
section
variable {B : Nat} {w w' : World} {b p n : Nat} {x : Int} {m m' : Mon} {g : Int → Option Mon} {S : Int → Bool}
/-- Only the table's own blocks changed. -/
theorem foc_tab {mo mo' so so' : Option Nat} {f : Int → Option MV} {M : MV} {F : List Nat} {n' : Nat} {S' : Int → Bool} (h1 : Tv w p mo so n f S) (h2 : Mo w b M m) (h3 : Oth w x f g M) (h4 : Lo B p mo so x f) (h5 : B ≤ b ∧ ∀ k i, InM M k i → B ≤ k)
    (k1 : Tv w' p mo' so' n' f S') (k2 : Turned F w w') (k3 : ∀ k, k ∈ F → B ≤ k ∧ (k = p ∨ ∃ es cl, w.heap[k]? = some (.map es cl)) ∨ w.heap.size ≤ k) (k4 : (∀ b, mo' = some b → B ≤ b) ∧ ∀ b, so' = some b → B ≤ b) : Foc B w' p x b m n' g S' ∧ Bel B w w' ∧ Kp w w' := by
  have hnp : ∀ k, k ∈ F → ∀ c fr, w.heap[k]? ≠ some (.cells c 52 fr) := fun k hk c fr e => by
    rcases k3 k hk with ⟨_, rfl | ⟨es, cl, g1⟩⟩ | g1
    · have := h1.row
      rw [e] at this
      injection this with this
      injection this with _ q
      exact absurd q (by decide)
    · rw [e] at g1; cases g1
    · have := lt_of_heap e; omega
  have hb : b ∉ F := fun hk => by
    have hr := h2.row
    rcases k3 b hk with ⟨_, rfl | ⟨es, cl, g1⟩⟩ | g1
    · have := h1.row
      rw [hr] at this
      injection this with this
      injection this with _ q
      exact absurd q (by decide)
    · rw [hr] at g1; cases g1
    · have := lt_of_heap hr; omega
  have st := St.ofT k2 hnp
  have nk : ∀ {N : MV} {k : Mon}, Rp w N k → ∀ a i, InM N a i → ¬ a ∈ F := fun hr a i g1 g2 => by
    obtain ⟨c, hc⟩ := InM.party hr g1
    exact hnp a g2 _ _ hc
  refine ⟨⟨mo', so', f, M, k1, ⟨k2.at h2.row hb, h2.rp.keep st (nk h2.rp)⟩, ⟨h3.is, fun y N k hy e1 e2 => (h3.rp y N k hy e1 e2).keep st (nk (h3.rp y N k hy e1 e2)), h3.ap, h3.me⟩, ⟨h4.1, k4.1, k4.2, h4.2.2.2⟩, h5⟩, ⟨⟨k2.os, k2.tape, k2.output, k2.size, fun k hk => ?_⟩, kq_of h1.row k2 (fun k hk => (k3 k hk).imp And.right id)⟩, fun k c e hk he => k2.at hk (fun hm => ?_)⟩
  · have hlt := lt_of_heap h1.row
    have hB := h4.1
    exact k2.block k (by omega) (fun hm => by
      rcases k3 k hm with ⟨q, _⟩ | q <;> omega)
  · rcases k3 k hm with ⟨_, q | ⟨es, cl, q⟩⟩ | q
    · subst q
      rw [h1.row] at hk
      injection hk with hk
      injection hk with _ z
      exact he z.symm
    · rw [q] at hk; cases hk
    · have := lt_of_heap hk; omega
/-- Held. -/
theorem held_any (x : Int) (hx : I64 x) (h : Tb B w p n g S) : Calls Try.prog 30 #[.pointer (some ⟨p, 0, none⟩), .int .i64 x] w fun e w' => e = .returned (.bool (S x)) ∧ Turned [] w w' := by
  obtain ⟨mo, so, f, h1, -⟩ := h.ex
  have c1 : w.cell? ⟨p, 1, none⟩ = some (.map so) := by rw [cell_of_heap h1.row]; rfl
  have hl : (Instr.lookup 40 (.map so) (.int .i64 x) true).run Try.prog w = .ok (.tuple #[.agg #[], .bool (S x)]) w := by
    cases hso : so with
    | none =>
      have := h1.nm
      rw [hso] at this
      rw [show S x = false from this x]
      exact nm_look_nil w hx
    | some k =>
      have := h1.nm
      rw [hso] at this
      exact NM.look this hx
  generalize S x = sx at *
  have HT := hide (((Turned.refl [] w).alloc (.cells #[] 63)))
  clear h h1
  go_enter Try.func30, Try.ntmps30
  go_wp2_with fail
  go_ret
  exact ⟨rfl, HT.out⟩
theorem OM.mono {mo : Option Nat} {f : Int → Option MV} (h : OM w mo n f) {k : Nat} (hk : n ≤ k) : OM w mo k f := by
  cases mo with
  | none => exact h
  | some b => obtain ⟨D, h1, h2⟩ := h; exact ⟨D, h1.mono hk, h2⟩
theorem ON.mono {so : Option Nat} (h : ON w so n S) {k : Nat} (hk : n ≤ k) : ON w so k S := by
  cases so with
  | none => exact h
  | some b => obtain ⟨D, h1, h2⟩ := h; exact ⟨D, h1.mono hk, h2⟩
theorem OM.off {mo : Option Nat} {f : Int → Option MV} (h : OM w mo n f) {F : List Nat} (t : Turned F w w') (hF : ∀ b, mo = some b → b ∉ F) : OM w' mo n f := by
  cases mo with
  | none => exact h
  | some k => exact MM.block h (t.block k (MM.lt h) (hF k rfl))
theorem ON.off {so : Option Nat} (h : ON w so n S) {F : List Nat} (t : Turned F w w') (hF : ∀ b, so = some b → b ∉ F) : ON w' so n S := by
  cases so with
  | none => exact h
  | some k => exact NM.block h (t.block k (NM.lt h) (hF k rfl))
theorem OM.ne {mo : Option Nat} {f : Int → Option MV} (h : OM w mo n f) {c : Array Value} {e : TypeId} {fr : Nat × Nat} (hp : w.heap[p]? = some (.cells c e fr)) : ∀ b, mo = some b → b ≠ p := fun b hb e => by
  subst hb e
  obtain ⟨es, cl, h1⟩ := MM.isMap h
  rw [hp] at h1; cases h1
theorem ON.ne {so : Option Nat} (h : ON w so n S) {c : Array Value} {e : TypeId} {fr : Nat × Nat} (hp : w.heap[p]? = some (.cells c e fr)) : ∀ b, so = some b → b ≠ p := fun b hb e => by
  subst hb e
  obtain ⟨es, cl, h1⟩ := NM.isMap h
  rw [hp] at h1; cases h1
set_option maxRecDepth 100000 in
theorem eq_nil17 (w : World) : (binOp BinOp.eql 40 (.map none) (.map none)).run Try.prog w = .ok (.bool true) w := by kernel_rfl
set_option maxRecDepth 100000 in
theorem eq_some17 (k : Nat) (w : World) : (binOp BinOp.eql 40 (.map (some k)) (.map none)).run Try.prog w = .ok (.bool false) w := by kernel_rfl
set_option maxRecDepth 100000 in
theorem eq_nil17m (w : World) : (binOp BinOp.eql 39 (.map none) (.map none)).run Try.prog w = .ok (.bool true) w := by kernel_rfl
set_option maxRecDepth 100000 in
theorem eq_some17m (k : Nat) (w : World) : (binOp BinOp.eql 39 (.map (some k)) (.map none)).run Try.prog w = .ok (.bool false) w := by kernel_rfl
set_option maxRecDepth 100000 in
theorem run_make17 (w : World) : (Instr.makeMap 40 none).run Try.prog w = .ok (.map (some w.heap.size)) (w.alloc (.map #[] 0)) := by kernel_rfl
set_option maxRecDepth 100000 in
theorem run_make17m (w : World) : (Instr.makeMap 39 none).run Try.prog w = .ok (.map (some w.heap.size)) (w.alloc (.map #[] 0)) := by kernel_rfl
set_option maxRecDepth 100000 in
/-- stand. -/
theorem stand_any (y : Int) (hy : I64 y) (hn : n ≤ 1000000) (h : Foc B w p x b m n g S) : Calls Try.prog 18 #[.pointer (some ⟨p, 0, none⟩), .int .i64 y] w fun e w' => e = .returned (.tuple #[]) ∧ Foc B w' p x b m (n + 1) g (fun z => if z = y then true else S z) ∧ Bel B w w' ∧ Kp w w' := by
  obtain ⟨mo, so, f, M, h1, h2, h3, h4, h5⟩ := h.ex
  have c1 : w.cell? ⟨p, 1, none⟩ = some (.map so) := by rw [cell_of_heap h1.row]; rfl
  have f1 : w.frozen? ⟨p, 1, none⟩ = false := by simp [World.frozen?, h1.row]
  cases hso : so with
  | some k =>
    subst hso
    obtain ⟨w', hrun, k1, k2, k3⟩ := NM.update h1.nm (by unfold maxLen; omega) hy
    have hmk : ∀ b, mo = some b → b ≠ k := fun b hb e => by subst e; exact h1.ne b hb rfl
    have hkp := ON.ne h1.nm h1.row k rfl
    have HF := hide (foc_tab (n' := n + 1) (S' := fun z => if z = y then true else S z) h1 h2 h3 h4 h5 (mo' := mo) (so' := some k) (F := [k]) (w' := w')
      ⟨k2.at h1.row (by simp; exact fun e => hkp e.symm), (h1.mm.off k2 (fun b hb => by simp; exact hmk b hb)).mono (by omega), k1, h1.ne⟩ k2 (fun j hj => by simp at hj; subst hj; exact .inl ⟨h4.2.2.1 j rfl, .inr (NM.isMap h1.nm)⟩) ⟨h4.2.1, h4.2.2.1⟩)
    have heq := eq_some17 k w
    clear h h1 h2 h3 h4 h5 k1 k2 k3 hmk hkp
    go_enter Try.func18, Try.ntmps18
    go_wp2_with fail
    first | refine bodyPost_end (results_none rfl _ _ _) rfl ?_ | refine bodyPost_ret (results_none rfl _ _ _) rfl ?_
    exact ⟨rfl, HF.out⟩
  | none =>
    subst hso
    obtain ⟨q, hq⟩ : ∃ q, q = w.heap.size := ⟨_, rfl⟩
    obtain ⟨w1, hw1⟩ : ∃ w1, w1 = (w.alloc (.map #[] 0)).setCell ⟨p, 1, none⟩ (.map (some q)) := ⟨_, rfl⟩
    have hlt := lt_of_heap h1.row
    have ta : Turned [] w (w.alloc (.map #[] 0)) := (Turned.refl _ _).alloc _
    have t1 : Turned [p] w w1 := by rw [hw1]; exact (ta.mono (by simp)).setCell (p := ⟨p, 1, none⟩) (by simp) _
    have hN : NM w1 q 0 (fun _ => false) := by
      rw [hw1, hq]
      exact NM.block (nm_made w) (Below.heap_setCell _ _ _ _ (show w.heap.size ≠ p by omega))
    obtain ⟨w', hrun, k1, k2, k3⟩ := NM.update hN (by unfold maxLen; omega) hy
    have hr1 : w1.heap[p]? = some (.cells #[.map mo, .map (some q)] 42) := by rw [hw1]; exact heap_setCell_at _ _ 1 _ _ _ (ta.at h1.row (by simp)) _
    have hS : (fun z => if z = y then true else false) = fun z => if z = y then true else S z := by
      funext z
      rw [show S z = false from h1.nm z]
    rw [hS] at k1
    have tw : Turned [p, q] w w' := (t1.mono (fun k hk => by simp at hk; simp [hk])).trans (k2.mono (fun k hk => by simp at hk; simp [hk]))
    have hmq : ∀ b, mo = some b → b ∉ [p, q] := fun b hb => by
      have := OM.ne h1.mm h1.row b hb
      subst hb
      have := MM.lt h1.mm
      simp
      omega
    have HF := hide (foc_tab (n' := n + 1) (S' := fun z => if z = y then true else S z) h1 h2 h3 h4 h5 (mo' := mo) (so' := some q) (F := [p, q]) (w' := w')
      ⟨k2.at hr1 (by simp; omega), (h1.mm.off tw hmq).mono (by omega), ON.mono (so := some q) k1 (by omega), fun b hb hc => by cases hc; exact hmq q hb (by simp)⟩ tw (fun j hj => by simp at hj; rcases hj with rfl | rfl; exact .inl ⟨h4.1, .inl rfl⟩; exact .inr (by omega)) ⟨h4.2.1, fun b hb => by cases hb; have := h4.1; omega⟩)
    have c2 : w1.cell? ⟨p, 1, none⟩ = some (.map (some q)) := by rw [cell_of_heap hr1]; rfl
    have heq := eq_nil17 w
    have hmk := run_make17 w
    have hra := ta.at h1.row (by simp)
    have ca : (w.alloc (.map #[] 0)).cell? ⟨p, 1, none⟩ = some (.map none) := by rw [cell_of_heap hra]; rfl
    have fa : (w.alloc (.map #[] 0)).frozen? ⟨p, 1, none⟩ = false := by simp only [World.frozen?, hra]; rfl
    clear h h1 h2 h3 h4 h5 k1 k2 k3 hmq tw hS hr1 hN t1 ta hlt hra
    go_enter Try.func18, Try.ntmps18
    go_upto_region 2 with fail
    rw [← hq, ← hw1]
    clear hq hw1 ca fa hmk
    go_wp2_with fail
    first | refine bodyPost_end (results_none rfl _ _ _) rfl ?_ | refine bodyPost_ret (results_none rfl _ _ _) rfl ?_
    exact ⟨rfl, HF.out⟩
end
end Go.Proofs.Ytlbcbphkgaoliab

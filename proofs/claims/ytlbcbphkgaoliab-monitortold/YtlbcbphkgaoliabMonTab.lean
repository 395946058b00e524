/-
  The table of monitors: as values ('Tv'), with one monitor in a variable ('Foc'), and whole ('Tb').
-/
import Derived.Test.YtlbcbphkgaoliabMonOne
namespace Go.Proofs.Ytlbcbphkgaoliab
open Go.RowKit
set_option linter.unusedVariables false
set_option linter.unusedSimpArgs false

/-- The monitors' map, or none. -/
def OM (w : World) (o : Option Nat) (n : Nat) (f : Int → Option MV) : Prop := match o with
  | none => ∀ x, f x = none
  | some b => MM w b n f
/-- The set of those that stand, or none. -/
def ON (w : World) (o : Option Nat) (n : Nat) (S : Int → Bool) : Prop := match o with
  | none => ∀ x, S x = false
  | some b => NM w b n S
/-- The table in block p, its monitors as values; mo, so: its maps. -/
structure Tv (w : World) (p : Nat) (mo so : Option Nat) (n : Nat) (f : Int → Option MV) (S : Int → Bool) : Prop where
  row : w.heap[p]? = some (.cells #[.map mo, .map so] 42)
  mm : OM w mo n f
  nm : ON w so n S
  ne : ∀ b, mo = some b → so = some b → False
/-- All but a variable and rows of parties is as it was. -/
def Still (b : Nat) (w w' : World) : Prop := ∀ k o, w.heap[k]? = some o → k ≠ b → (∀ c fr, o ≠ .cells c 52 fr) → w'.heap[k]? = some o
/-- What is neither a table, a monitor, nor a row of parties is as it was. -/
def Kq (w w' : World) : Prop := ∀ (k : Nat) (c : Array Value) (e : TypeId) (fr : Nat × Nat), w.heap[k]? = some (.cells c e fr) → e ≠ 42 → e ≠ 54 → e ≠ 52 → w'.heap[k]? = some (.cells c e fr)
/-- All below B, and all of other types, is as it was. -/
structure Bel (B : Nat) (w w' : World) : Prop where
  b : Below B w w'
  k : Kq w w'
theorem Bel.refl (B : Nat) (w : World) : Bel B w w := ⟨Below.refl _ _, fun k c e fr h _ _ _ => h⟩
theorem Bel.trans {B : Nat} {a b c : World} (h : Bel B a b) (k : Bel B b c) : Bel B a c := ⟨h.b.trans k.b, fun i c e fr h1 h2 h3 h4 => k.k i c e fr (h.k i c e fr h1 h2 h3 h4) h2 h3 h4⟩
theorem Turned.bel {B : Nat} {w w' : World} (t : Turned [] w w') (hB : B ≤ w.heap.size) (_h : ∀ k, k ∈ ([] : List Nat) → B ≤ k) : Bel B w w' := ⟨t.below hB (fun k hk => by cases hk), fun k c e fr h _ _ _ => t.at h (by simp)⟩
theorem kq_of {F : List Nat} {w w' : World} {p : Nat} {c0 : Array Value} (h1 : w.heap[p]? = some (.cells c0 42)) (k2 : Turned F w w') (k3 : ∀ k, k ∈ F → (k = p ∨ ∃ es cl, w.heap[k]? = some (.map es cl)) ∨ w.heap.size ≤ k) : Kq w w' := fun k c e fr hk he _ _ => k2.at hk (fun hm => by
  rcases k3 k hm with (q | ⟨es, cl, q⟩) | q
  · subst q
    rw [h1] at hk
    injection hk with hk
    injection hk with _ z
    exact he z.symm
  · rw [q] at hk; cases hk
  · have := lt_of_heap hk; omega)
section
variable {w w' : World} {b p n : Nat} {mo so : Option Nat} {M : MV} {m m' : Mon} {f : Int → Option MV} {S : Int → Bool}
theorem Turned.still (t : Turned [] w w') : Still b w w' := fun k o h _ _ => t.at h (by simp)
theorem InM.party (h : Rp w M m) {k i : Nat} (g : InM M k i) : ∃ c, w.heap[k]? = some (.cells c 52 (0, 0)) := by
  rcases g with ⟨off, h1, h2, h3⟩ | ⟨off, h1, h2, h3⟩
  · obtain ⟨c, k1, _⟩ := h.q.row k off h1 (by omega)
    exact ⟨c, k1⟩
  · obtain ⟨c, k1, _⟩ := h.a.row k off h1 (by omega)
    exact ⟨c, k1⟩
theorem St.still (t : St (FM b M) w w') (h : Rp w M m) : Still b w w' := fun k o hk hb ho => t.at hk (fun i g => by
  rcases g with g | g
  · exact hb g
  · obtain ⟨c, hc⟩ := InM.party h g
    rw [hk] at hc
    injection hc with hc
    exact ho _ _ hc)
theorem OM.still (h : OM w mo n f) (t : Still b w w') (hb : ∃ c e, w.heap[b]? = some (.cells c e)) : OM w' mo n f := by
  cases mo with
  | none => exact h
  | some k =>
    obtain ⟨es, cl, hk⟩ := MM.isMap h
    obtain ⟨c, e, hc⟩ := hb
    exact MM.block h ((t k _ hk (fun e => by subst e; rw [hk] at hc; cases hc) (fun c fr e => by cases e)).trans hk.symm)
theorem ON.still (h : ON w so n S) (t : Still b w w') (hb : ∃ c e, w.heap[b]? = some (.cells c e)) : ON w' so n S := by
  cases so with
  | none => exact h
  | some k =>
    obtain ⟨es, cl, hk⟩ := NM.isMap h
    obtain ⟨c, e, hc⟩ := hb
    exact NM.block h ((t k _ hk (fun e => by subst e; rw [hk] at hc; cases hc) (fun c fr e => by cases e)).trans hk.symm)
theorem Tv.still (h : Tv w p mo so n f S) (t : Still b w w') (hb : ∃ c, w.heap[b]? = some (.cells c 54)) : Tv w' p mo so n f S := by
  obtain ⟨c, hc⟩ := hb
  refine ⟨t p _ h.row (fun e => ?_) (fun c fr e => ?_), h.mm.still t ⟨c, _, hc⟩, h.nm.still t ⟨c, _, hc⟩, h.ne⟩
  · have := h.row
    rw [e, hc] at this
    injection this with this
    injection this with _ k
    exact absurd k (by decide)
  · injection e with _ k
    exact absurd k (by decide)
theorem OM.turned (h : OM w mo n f) (t : Turned [] w w') : OM w' mo n f := by
  cases mo with
  | none => exact h
  | some k => exact MM.block h (t.block k (MM.lt h) (by simp))
theorem ON.turned (h : ON w so n S) (t : Turned [] w w') : ON w' so n S := by
  cases so with
  | none => exact h
  | some k => exact NM.block h (t.block k (NM.lt h) (by simp))
theorem Tv.turned (h : Tv w p mo so n f S) (t : Turned [] w w') : Tv w' p mo so n f S := ⟨t.at h.row (by simp), h.mm.turned t, h.nm.turned t, h.ne⟩
end

/-- The others' monitors: x's own left out. -/
structure Oth (w : World) (x : Int) (f : Int → Option MV) (g : Int → Option Mon) (M : MV) : Prop where
  is : ∀ y, y ≠ x → (f y).isSome = (g y).isSome
  rp : ∀ y N k, y ≠ x → f y = some N → g y = some k → Rp w N k
  ap : ∀ y z N K, y ≠ x → z ≠ x → y ≠ z → f y = some N → f z = some K → ∀ k i, InM N k i → ¬ InM K k i
  me : ∀ y N, y ≠ x → f y = some N → ∀ k i, InM M k i → ¬ InM N k i
/-- All blocks are at least B. -/
def Lo (B p : Nat) (mo so : Option Nat) (x : Int) (f : Int → Option MV) : Prop := B ≤ p ∧ (∀ b, mo = some b → B ≤ b) ∧ (∀ b, so = some b → B ≤ b) ∧ ∀ y N k i, y ≠ x → f y = some N → InM N k i → B ≤ k
/-- The table, the monitor of x in block b. -/
structure Foc (B : Nat) (w : World) (p : Nat) (x : Int) (b : Nat) (m : Mon) (n : Nat) (g : Int → Option Mon) (S : Int → Bool) : Prop where
  ex : ∃ mo so f M, Tv w p mo so n f S ∧ Mo w b M m ∧ Oth w x f g M ∧ Lo B p mo so x f ∧ (B ≤ b ∧ ∀ k i, InM M k i → B ≤ k)
/-- The table of these monitors; S: who stands somewhere; n: as many changes at most. -/
structure Tb (B : Nat) (w : World) (p n : Nat) (g : Int → Option Mon) (S : Int → Bool) : Prop where
  ex : ∃ mo so f, Tv w p mo so n f S ∧ (∀ y, (f y).isSome = (g y).isSome) ∧ (∀ y N k, f y = some N → g y = some k → Rp w N k) ∧ (∀ y z N K, y ≠ z → f y = some N → f z = some K → ∀ k i, InM N k i → ¬ InM K k i) ∧ (B ≤ p ∧ (∀ b, mo = some b → B ≤ b) ∧ (∀ b, so = some b → B ≤ b) ∧ ∀ y N k i, f y = some N → InM N k i → B ≤ k)
section
variable {B : Nat} {w w' : World} {b p n : Nat} {x : Int} {m m' : Mon} {g : Int → Option Mon} {S : Int → Bool}
theorem Oth.turned {f : Int → Option MV} {M : MV} (h : Oth w x f g M) (t : Turned [] w w') : Oth w' x f g M :=
  ⟨h.is, fun y N k hy h1 h2 => (h.rp y N k hy h1 h2).keep (F := fun _ _ => False) (St.of t) (fun _ _ _ h => h), h.ap, h.me⟩
theorem Foc.turned (h : Foc B w p x b m n g S) (t : Turned [] w w') : Foc B w' p x b m n g S := by
  obtain ⟨mo, so, f, M, h1, h2, h3, h4, h5⟩ := h.ex
  exact ⟨mo, so, f, M, h1.turned t, h2.turned t, h3.turned t, h4, h5⟩
theorem Tb.turned (h : Tb B w p n g S) (t : Turned [] w w') : Tb B w' p n g S := by
  obtain ⟨mo, so, f, h1, h2, h3, h4, h5⟩ := h.ex
  exact ⟨mo, so, f, h1.turned t, h2, fun y N k e1 e2 => (h3 y N k e1 e2).keep (F := fun _ _ => False) (St.of t) (fun _ _ _ h => h), h4, h5⟩
/-- What is done at the monitor in the variable. -/
theorem Foc.did (h : Foc B w p x b m n g S) (hM : ∀ M, Mo w b M m → Did w b M m' w') : Foc B w' p x b m' n g S ∧ Bel B w w' := by
  obtain ⟨mo, so, f, M, h1, h2, h3, h4, h5⟩ := h.ex
  obtain ⟨M', k1, k2, k3⟩ := hM M h2
  have st := k2.still h2.rp
  refine ⟨⟨mo, so, f, M', h1.still st ⟨_, h2.row⟩, k1, ⟨h3.is, fun y N k hy e1 e2 => (h3.rp y N k hy e1 e2).keep k2 (fun a i g1 g2 => ?_), h3.ap, fun y N hy e1 k i g1 g2 => ?_⟩, h4, h5.1, fun k i g1 => ?_⟩, ⟨⟨k2.os, k2.tape, k2.output, k2.size, fun k hk => k2.block k (by have := lt_of_heap h2.row; have := h5.1; omega) (fun i g1 => ?_)⟩, fun k c e fr hk _ he1 he2 => st k _ hk (fun q => by subst q; rw [h2.row] at hk; injection hk with hk; injection hk with _ z; exact he1 z.symm) (fun c' fr' q => by injection q with _ z; exact he2 z)⟩⟩
  · rcases g2 with g2 | g2
    · obtain ⟨c, hc⟩ := InM.party (h3.rp y N k hy e1 e2) g1
      subst g2
      rw [h2.row] at hc
      injection hc with hc
      injection hc with _ e
      exact absurd e (by decide)
    · exact h3.me y N hy e1 a i g2 g1
  · rcases k3 k i g1 with q | q
    · exact h3.me y N hy e1 k i q g2
    · have hs := h3.is y hy
      rw [e1] at hs
      obtain ⟨u, hu⟩ := Option.isSome_iff_exists.1 hs.symm
      obtain ⟨c, hc⟩ := InM.party (h3.rp y N u hy e1 hu) g2
      have := lt_of_heap hc
      omega
  · rcases k3 k i g1 with q | q
    · exact h5.2 k i q
    · have := lt_of_heap h2.row
      have := h5.1
      omega
  · rcases g1 with g1 | g1
    · have := h5.1; omega
    · have := h5.2 k i g1; omega
end
end Go.Proofs.Ytlbcbphkgaoliab

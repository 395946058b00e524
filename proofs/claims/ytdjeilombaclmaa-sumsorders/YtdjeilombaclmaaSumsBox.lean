/-
  Two numbers in a variable of their own; turns back from the end.
-/
import Derived.Test.YtdjeilombaclmaaSumsKit
namespace Go.Proofs.Ytdjeilombaclmaa
open Go.RowKit
set_option linter.unusedVariables false

/-- Two numbers in block O. -/
def Bx (w : World) (O : Nat) (x y : Int) : Prop := w.heap[O]? = some (.cells #[.int .i64 x, .int .i64 y] 35)
section
variable {w w' : World} {O : Nat} {x y : Int}
theorem Bx.c0 (h : Bx w O x y) : w.cell? ⟨O, 0, none⟩ = some (.int .i64 x) := by rw [cell_of_heap h]; rfl
theorem Bx.c1 (h : Bx w O x y) : w.cell? ⟨O, 1, none⟩ = some (.int .i64 y) := by rw [cell_of_heap h]; rfl
theorem Bx.lt (h : Bx w O x y) : O < w.heap.size := lt_of_heap h
theorem Bx.turned (h : Bx w O x y) {S : List Nat} (t : Turned S w w') (hO : O ∉ S) : Bx w' O x y := (t.block O h.lt hO).trans h
theorem Bx.next (h : Bx w O x y) (t : Turned [] w w') : Bx w' O x y := h.turned t (by simp)
end

theorem turn_g (n : Nat) (hn : 0 < n) (j k : Nat) (hk : k < n) (hj : j + n ≤ 10000) : ∃ d, d < n ∧ (10000 - (j + d)) % n = k := by
  refine ⟨(10000 - j - k) % n, Nat.mod_lt _ hn, ?_⟩
  have h1 := Nat.div_add_mod (10000 - j - k) n
  have h2 := Nat.mod_lt (10000 - j - k) hn
  rw [show 10000 - (j + (10000 - j - k) % n) = k + n * ((10000 - j - k) / n) by omega, Nat.add_mul_mod_self_left, Nat.mod_eq_of_lt hk]

/-- By turns from the beginning: the bound for what is left. -/
theorem turn_bound {P : SP} (hs : 0 < P.size) (hn : 0 < P.n ∧ P.n ≤ 8) (hl : P.len ≤ 120) {S : SS} (h : S.left P ≤ 2 * P.len + 3 * P.nb + 3 * P.n) : S.left P * P.n + P.n ≤ 8 * (5 * P.len + 25) := by
  have h1 := SP.nb_le hs
  have h2 : S.left P ≤ 5 * P.len + 24 := by omega
  have h3 := Nat.mul_le_mul h2 hn.2
  omega

theorem wrap_one (r : Nat) (hr : r < 20) : IntKind.i64.wrap (1 + (r : Int)) = 1 + (r : Int) := by
  rw [IntKind.wrap_i64]
  omega

/-- A memory of one cell, new. -/
structure Stg (w w' : World) (cp cq : Nat) : Prop where
  mem : Mem w' cp cq [0] 0
  turn : Turned [] w w'
  ep : cp = w.heap.size + 1
  eq : cq = w.heap.size
theorem cnew12 (w : World) : Calls Try.prog 14 #[.int .i64 1] w fun e w' => ∃ cp cq, e = .returned (.pointer (some ⟨cp, 0, none⟩)) ∧ Stg w w' cp cq := by
  have h := new_any 1 w
  rw [show (min (max (1 : Int) 0) 65536).toNat = 1 by decide] at h
  refine h.mono ?_
  rintro e w' ⟨rfl, hM, t, -⟩
  exact ⟨_, _, rfl, hM, t, rfl, rfl⟩
/-- New sums, new to the world w. -/
structure Nwd (w0 w w' : World) (I : SIds) (P : SP) : Prop where
  sl : Sl w0 w' I P (SS.fresh P) 0
  turn : Turned [] w w'
  all : ∀ i, i ∈ I.all → w.heap.size ≤ i
theorem snew12 (w0 w : World) (hT : Turned [] w0 w) (a : Option Addr) (m cap : Nat) (vals : List Int) (V : IRd w0 a m vals) (hm : m ≤ 300) (hcn : a = none → cap = 0) (n : Nat) (hn : 0 < n ∧ n ≤ 8) (w' : World) (cp cq : Nat) (s : Stg w w' cp cq) (r : Nat) (hr : r < 20) :
    Calls Try.prog 13 #[.pointer (some ⟨cp, 0, none⟩), .slice a m cap, .int .i64 (n : Int), .int .i64 (1 + (r : Int))] w' fun e w'' => ∃ I, e = .returned (.tuple #[.pointer (some ⟨I.s, 0, none⟩), .int .i64 0]) ∧ Nwd w0 w w'' I ⟨vals, szOf m (1 + (r : Int)), n⟩ := by
  obtain ⟨hM, t, rfl, rfl⟩ := s
  have hz := t.size
  refine (sl_new (w0 := w0) (w := w) hT w' hM t a m cap vals (V.turned0 (hT.trans t)) (old_ne (w1 := w') (V.turned0 hT)) (by omega) hcn n (1 + (r : Int)) (by omega) (by omega) (by omega) (by omega)).mono ?_
  rintro e w'' ⟨I, rfl, h1, -, -, -, h5, h6⟩
  exact ⟨I, rfl, h1, t.trans_new h5 (fun i hi => by simp at hi; right; omega), fun i hi => by have := h6 i hi; omega⟩
end Go.Proofs.Ytdjeilombaclmaa

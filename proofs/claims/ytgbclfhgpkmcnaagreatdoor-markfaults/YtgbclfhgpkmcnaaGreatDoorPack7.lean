/-
  Texts of the proof, several in one: CellsPut.
-/
import Derived.Test.YtgbclfhgpkmcnaaGreatDoorPack4
import Derived.Laws.CopyOwn
/-
  What Put of package cells does where all words have a cell.
-/
namespace Go.Proofs.YtgbclfhgpkmcnaaGreatDoor
open Go.RowKit

/-- The words l with those of m laid over them from k on. -/
def over (l : List Int) (k : Nat) (m : List Int) : List Int := l.take k ++ m ++ l.drop (k + m.length)
theorem over_length (l : List Int) (k : Nat) (m : List Int) (h : k + m.length ≤ l.length) : (over l k m).length = l.length := by
  simp [over]; omega

theorem Mem.laid {w : World} {p q : Nat} {l : List Int} {s : Int} (h : Mem w p q l s) (k : Nat) (m : List Int) (hk : k + m.length ≤ l.length) :
    Mem (w.setRow q ((l.map (Value.int .i64)).take k ++ m.map (Value.int .i64) ++ (l.map (Value.int .i64)).drop (k + m.length)).toArray) p q (over l k m) s := by
  refine ⟨h.ne, ?_, ?_⟩
  · rw [setRow_other _ _ _ _ (by have := h.ne; omega), over_length l k m hk]
    exact h.head
  · have h1 : (over l k m).map (Value.int .i64) = (l.map (Value.int .i64)).take k ++ m.map (Value.int .i64) ++ (l.map (Value.int .i64)).drop (k + m.length) := by
      simp [over, List.map_take, List.map_drop]
    rw [h1]
    simp only [World.setRow, Array.getElem?_modify]
    simp [h.row]

theorem Turned.setRow {S : List Nat} {a w : World} (h : Turned S a w) {g : Nat} (hp : g ∈ S ∨ a.heap.size ≤ g) (cs : Array Value) : Turned S a (w.setRow g cs) :=
  h.trans_new (T := [g]) ⟨rfl, rfl, rfl, by simp [World.setRow], fun k _ hn => setRow_other w g k cs (by simp at hn; omega)⟩ (by intro i hi; simp at hi; subst hi; exact hp)

set_option maxRecDepth 100000 in
theorem put_in (p q : Nat) (l : List Int) (s : Int) (k b off d : Nat) (m : List Int) (w : World) (hl : l.length ≤ 65536) (hk : k + m.length ≤ l.length) (h0 : 0 < m.length) (h : Mem w p q l s)
    (hsrc : ∀ j x, m[j]? = some x → w.cell? ⟨b, off + j, none⟩ = some (.int .i64 x)) :
    Calls Tryz.prog 32 #[.pointer (some ⟨p, 0, none⟩), .int .i64 k, .slice (some ⟨b, off, none⟩) m.length d] w fun e w' => e = .returned (.int .i64 0) ∧ Mem w' p q (over l k m) s ∧ Turned [p, q] w w' := by
  have hc0 := h.c0
  have hcl : ∀ j u, (m.map (Value.int .i64))[j]? = some u → w.cell? (Addr.add ⟨b, off, none⟩ j) = some u := by
    intro j u hu
    rw [List.getElem?_map] at hu
    obtain ⟨x, hx, rfl⟩ := Option.map_eq_some_iff.1 hu
    rw [show Addr.add ⟨b, off, none⟩ j = ⟨b, off + j, none⟩ by simp [Addr.add]]
    exact hsrc j x hx
  have hcp := run_copy_row (P := Tryz.prog) w 30 30 3 2 q k (l.length - k) (l.length - k) ⟨b, off, none⟩ m.length d (l.map (Value.int .i64)).toArray 2 (m.map (Value.int .i64)) Tryz.underlying30 (by kernel_rfl) h.row (by rw [List.length_map]; exact (Nat.min_eq_left (by omega)).symm) hcl (by simp; omega) (by intro u hu; obtain ⟨x, _, rfl⟩ := List.mem_map.1 hu; rfl)
  have HE := hide (h.laid k m hk)
  simp only [List.length_map] at hcp
  have HT : Hid (Turned [p, q] w _) := (Turned.refl [p, q] w).setRow (g := q) (by simp) ((l.map (Value.int .i64)).take k ++ m.map (Value.int .i64) ++ (l.map (Value.int .i64)).drop (k + m.length)).toArray
  generalize ((l.map (Value.int .i64)).take k ++ m.map (Value.int .i64) ++ (l.map (Value.int .i64)).drop (k + m.length)).toArray = row at *
  clear hcl hsrc h
  generalize hn : m.length = n at *
  have HN := hide hn
  clear hn
  go_enter Tryz.func32, Tryz.ntmps32
  go_wp2
  go_ret
  exact ⟨rfl, HE.out, HT.out⟩


set_option maxRecDepth 100000 in
theorem put_none (p q : Nat) (l : List Int) (s : Int) (k : Nat) (a : Option Addr) (d : Nat) (w : World) (hl : l.length ≤ 65536) (hk : k ≤ l.length) (h : Mem w p q l s) :
    Calls Tryz.prog 32 #[.pointer (some ⟨p, 0, none⟩), .int .i64 k, .slice a 0 d] w fun e w' => e = .returned (.int .i64 0) ∧ w' = w := by
  have hc0 := h.c0
  have hcp := run_copy_none (P := Tryz.prog) w 30 30 3 2 (some ⟨q, k, none⟩) a (l.length - k) (l.length - k) 0 d Tryz.underlying30 (by kernel_rfl) (Nat.min_eq_left (Nat.zero_le _))
  have hcp2 := run_copy_none (P := Tryz.prog) w 30 30 3 2 (some ⟨q, 0, none⟩) a 0 0 0 d Tryz.underlying30 (by kernel_rfl) rfl
  go_enter Tryz.func32, Tryz.ntmps32
  go_wp2
  all_goals (go_ret; exact ⟨rfl, rfl⟩)
end Go.Proofs.YtgbclfhgpkmcnaaGreatDoor

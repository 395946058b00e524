/-
  count: of how many threads a closure holds, asked one after the other; the closures of Add and End; Add and End. (Text by SafeCount.gen.py.)
-/
import Derived.Test.YtclfeafmlngpnaaSafeFree
namespace Go.Proofs.Ytclfeafmlngpnaa
open Go.RowKit Go.Maps
set_option linter.unusedVariables false

/-- A slice of numbers that can be read. -/
structure IRd (w : World) (ao : Option Addr) (len : Nat) (l : List Int) : Prop where
  size : l.length = len
  in64 : ∀ x, x ∈ l → In64 x
  cell : ∀ i x, l[i]? = some x → ∃ g off, ao = some ⟨g, off, none⟩ ∧ w.cell? ⟨g, off + i, none⟩ = some (.int .i64 x)
theorem IRd.turned {w w' : World} {ao : Option Addr} {len : Nat} {l : List Int} {S : List Nat} (h : IRd w ao len l) (ht : Turned S w w') (hS : ∀ g off i x, ao = some ⟨g, off, none⟩ → w.cell? ⟨g, off + i, none⟩ = some (.int .i64 x) → g ∉ S) : IRd w' ao len l :=
  ⟨h.size, h.in64, fun i x hx => by
    obtain ⟨g, off, h1, h2⟩ := h.cell i x hx
    exact ⟨g, off, h1, by rw [ht.cell (block_lt h2) (hS g off i x h1 h2)]; exact h2⟩⟩
theorem IRd.nil (w : World) (ao : Option Addr) : IRd w ao 0 [] := ⟨rfl, fun _ h => (by cases h), fun i x hx => by simp at hx⟩
/-- A block of numbers is none of the object's. -/
theorem sf_not_int {w : World} {a : Nat} {mo : Option Nat} {L : Th} {ar : Bool} (h : Sf w a mo L ar) {g k : Nat} {x : Int} (hc : w.cell? ⟨g, k, none⟩ = some (.int .i64 x)) : g ∉ blks a mo := by
  intro hm
  rcases mem_own.1 hm with rfl | hb
  · rw [cell_of_heap h.obj] at hc
    have : k = 0 ∨ k = 1 ∨ 2 ≤ k := by omega
    rcases this with rfl | rfl | h2
    · simp at hc
    · simp at hc
    · rw [Array.getElem?_eq_none (by simpa using h2)] at hc
      cases hc
  · obtain ⟨es, clock, h1⟩ := (h.map g hb).isMap
    simp [World.cell?, h1] at hc
theorem sf_not_ptr {w : World} {a : Nat} {mo : Option Nat} {L : Th} {ar : Bool} (h : Sf w a mo L ar) {g k : Nat} {x : Option Addr} (hc : w.cell? ⟨g, k, none⟩ = some (.pointer x)) : g ∉ blks a mo := by
  intro hm
  rcases mem_own.1 hm with rfl | hb
  · rw [cell_of_heap h.obj] at hc
    have : k = 0 ∨ k = 1 ∨ 2 ≤ k := by omega
    rcases this with rfl | rfl | h2
    · simp at hc
    · simp at hc
    · rw [Array.getElem?_eq_none (by simpa using h2)] at hc
      cases hc
  · obtain ⟨es, clock, h1⟩ := (h.map g hb).isMap
    simp [World.cell?, h1] at hc

/-- One after the other: the threads, and how many there were of which it held. -/
def cntF (q : Th → Int → Bool) (F : Th → Int → Th) (p : Th × Nat) (x : Int) : Th × Nat := (F p.1 x, if q p.1 x then p.2 + 1 else p.2)
def cntR (q : Th → Int → Bool) (F : Th → Int → Th) (L : Th) (l : List Int) : Th × Nat := l.foldl (cntF q F) (L, 0)
theorem cntR_snoc (q : Th → Int → Bool) (F : Th → Int → Th) (L : Th) (l : List Int) (x : Int) : cntR q F L (l ++ [x]) = cntF q F (cntR q F L l) x := by simp [cntR, List.foldl_append]
theorem cntR_le (q : Th → Int → Bool) (F : Th → Int → Th) (L : Th) (l : List Int) : (cntR q F L l).2 ≤ l.length := by
  have h : ∀ (l : List Int) (p : Th × Nat), (l.foldl (cntF q F) p).2 ≤ p.2 + l.length := by
    intro l
    induction l with
    | nil => intro p; simp
    | cons x l ih =>
      intro p
      rw [List.foldl_cons]
      refine Nat.le_trans (ih _) ?_
      have : (cntF q F p x).2 ≤ p.2 + 1 := by unfold cntF; dsimp only; split <;> omega
      simp
      omega
  have := h l (L, 0)
  simpa [cntR] using this
theorem take_snoc {α : Type} {l : List α} {k : Nat} {x : α} (h : l[k]? = some x) : l.take (k + 1) = l.take k ++ [x] := by
  obtain ⟨h1, h2⟩ := List.getElem?_eq_some_iff.1 h
  rw [List.take_succ_eq_append_getElem h1, h2]

set_option maxRecDepth 100000 in
theorem count_add (v : Nat) (ao : Option Addr) (len cap : Nat) (l : List Int) (q : Th → Int → Bool) (F : Th → Int → Th) (I : Nat → World → Th → Prop) (L : Th) (w : World) (hlen : len ≤ 4611686018427387904)
    (hI : I 0 w L) (hrd : ∀ k w' M, k ≤ len → I k w' M → IRd w' ao len l)
    (hst : ∀ k w' M x, k < len → l[k]? = some x → I k w' M → Calls Try.prog 33 #[.int .i64 x, ptr v] w' fun e w2 => e = .returned (.bool (q M x)) ∧ I (k + 1) w2 (F M x)) :
    Calls Try.prog 32 #[.slice ao len cap, .func (.func 33) #[] #[ptr v]] w fun e w' => e = .returned (.int .i64 ((cntR q F L l).2 : Int)) ∧ I len w' (cntR q F L l).1 := by
  have HI := hide hI
  have HR := hide hrd
  have HSt := hide hst
  have HL := hide (hrd 0 w L (Nat.zero_le _) hI).size
  clear hI hrd hst
  unfold ptr at HSt ⊢
  go_enter Try.func32, Try.ntmps32
  go_wp2_with fail
  go_loopw [5, 10] (fun s5 s10 wr => ∃ (k : Nat), k ≤ len ∧ s10 = .int .i64 k ∧ s5 = .int .i64 ((cntR q F L (l.take k)).2 : Int) ∧ Hid (I k wr (cntR q F L (l.take k)).1)) (fun _ s10 _ => len - (intOf s10).toNat)
  case atStart => exact ⟨0, Nat.zero_le _, rfl, rfl, HI⟩
  case round =>
    obtain ⟨k, hk, rfl, rfl, HK⟩ := hrel
    by_cases hlt : k < len
    · obtain ⟨x, hx⟩ : ∃ x, l[k]? = some x := ⟨_, List.getElem?_eq_getElem (by rw [HL.out]; exact hlt)⟩
      obtain ⟨g, off, rfl, hc⟩ := (HR.out k wr _ hk HK.out).cell k x hx
      have HS1 := hide (HSt.out k wr _ x hlt hx HK.out)
      have HE : Hid (cntR q F L (l.take (k + 1)) = cntF q F (cntR q F L (l.take k)) x) := by show _ = _; rw [take_snoc hx, cntR_snoc]
      have hb := cntR_le q F L (l.take k)
      rw [List.length_take] at hb
      generalize cntR q F L (l.take k) = p at *
      obtain ⟨M, n⟩ := p
      simp only at *
      have hn : n ≤ k := by omega
      clear hb hx
      go_wp2_with fail
      refine HS1.out.mono ?_
      rintro e w2 ⟨rfl, hi2⟩
      have HI2 := hide hi2
      clear hi2 HS1
      cases hq : q M x
      · go_wp2_with fail
        go_roundw
        case rel => exact ⟨k + 1, by omega, by go_num, by rw [HE.out]; simp [cntF, hq], by rw [HE.out]; exact HI2⟩
        case measure => simp [intOf]; omega
      · go_wp2_with fail
        go_roundw
        case rel => exact ⟨k + 1, by omega, by go_num, by rw [HE.out]; simp [cntF, hq], by rw [HE.out]; exact HI2⟩
        case measure => simp [intOf]; omega
    · have hkl : k = len := by omega
      subst hkl
      have e1 : l.take k = l := List.take_of_length_le (Nat.le_of_eq HL.out)
      rw [e1] at HK ⊢
      clear e1
      go_wp2_with fail
      go_ret
      exact ⟨rfl, HK.out⟩

set_option maxRecDepth 100000 in
theorem count_end (v : Nat) (ao : Option Addr) (len cap : Nat) (l : List Int) (q : Th → Int → Bool) (F : Th → Int → Th) (I : Nat → World → Th → Prop) (L : Th) (w : World) (hlen : len ≤ 4611686018427387904)
    (hI : I 0 w L) (hrd : ∀ k w' M, k ≤ len → I k w' M → IRd w' ao len l)
    (hst : ∀ k w' M x, k < len → l[k]? = some x → I k w' M → Calls Try.prog 35 #[.int .i64 x, ptr v] w' fun e w2 => e = .returned (.bool (q M x)) ∧ I (k + 1) w2 (F M x)) :
    Calls Try.prog 32 #[.slice ao len cap, .func (.func 35) #[] #[ptr v]] w fun e w' => e = .returned (.int .i64 ((cntR q F L l).2 : Int)) ∧ I len w' (cntR q F L l).1 := by
  have HI := hide hI
  have HR := hide hrd
  have HSt := hide hst
  have HL := hide (hrd 0 w L (Nat.zero_le _) hI).size
  clear hI hrd hst
  unfold ptr at HSt ⊢
  go_enter Try.func32, Try.ntmps32
  go_wp2_with fail
  go_loopw [5, 10] (fun s5 s10 wr => ∃ (k : Nat), k ≤ len ∧ s10 = .int .i64 k ∧ s5 = .int .i64 ((cntR q F L (l.take k)).2 : Int) ∧ Hid (I k wr (cntR q F L (l.take k)).1)) (fun _ s10 _ => len - (intOf s10).toNat)
  case atStart => exact ⟨0, Nat.zero_le _, rfl, rfl, HI⟩
  case round =>
    obtain ⟨k, hk, rfl, rfl, HK⟩ := hrel
    by_cases hlt : k < len
    · obtain ⟨x, hx⟩ : ∃ x, l[k]? = some x := ⟨_, List.getElem?_eq_getElem (by rw [HL.out]; exact hlt)⟩
      obtain ⟨g, off, rfl, hc⟩ := (HR.out k wr _ hk HK.out).cell k x hx
      have HS1 := hide (HSt.out k wr _ x hlt hx HK.out)
      have HE : Hid (cntR q F L (l.take (k + 1)) = cntF q F (cntR q F L (l.take k)) x) := by show _ = _; rw [take_snoc hx, cntR_snoc]
      have hb := cntR_le q F L (l.take k)
      rw [List.length_take] at hb
      generalize cntR q F L (l.take k) = p at *
      obtain ⟨M, n⟩ := p
      simp only at *
      have hn : n ≤ k := by omega
      clear hb hx
      go_wp2_with fail
      refine HS1.out.mono ?_
      rintro e w2 ⟨rfl, hi2⟩
      have HI2 := hide hi2
      clear hi2 HS1
      cases hq : q M x
      · go_wp2_with fail
        go_roundw
        case rel => exact ⟨k + 1, by omega, by go_num, by rw [HE.out]; simp [cntF, hq], by rw [HE.out]; exact HI2⟩
        case measure => simp [intOf]; omega
      · go_wp2_with fail
        go_roundw
        case rel => exact ⟨k + 1, by omega, by go_num, by rw [HE.out]; simp [cntF, hq], by rw [HE.out]; exact HI2⟩
        case measure => simp [intOf]; omega
    · have hkl : k = len := by omega
      subst hkl
      have e1 : l.take k = l := List.take_of_length_le (Nat.le_of_eq HL.out)
      rw [e1] at HK ⊢
      clear e1
      go_wp2_with fail
      go_ret
      exact ⟨rfl, HK.out⟩
end Go.Proofs.Ytclfeafmlngpnaa

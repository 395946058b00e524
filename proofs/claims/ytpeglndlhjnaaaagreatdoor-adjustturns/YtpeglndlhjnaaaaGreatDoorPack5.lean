/-
  Texts of the proof, several in one: CellsMore.
-/
import Derived.Test.YtpeglndlhjnaaaaGreatDoorPack3
import Derived.Deep.OwnRows
/-
  What New, Words and Put of package cells do to a memory that lies in the model's heap.
-/
namespace Go.Proofs.YtpeglndlhjnaaaaGreatDoor
open Go.RowKit

theorem madeCells_zeros (m : Nat) : madeCells #[Value.int .i64 0] m = ((List.replicate m (0 : Int)).map (Value.int .i64)).toArray := by
  apply Array.ext
  · simp [madeCells]
  · intro i h1 h2
    simp [madeCells, Nat.mod_one]

theorem Tryz.info2 : (Tryz.prog.info? 2).map (fun i => (i.zero, i.size, i.bytes)) = some (some (.int .i64 0), 1, 8) := by kernel_rfl

theorem new_any (n : Int) (w : World) :
    Calls Tryz.prog 10 #[.int .i64 n] w fun e w' => e = .returned (.pointer (some ⟨w.heap.size + 1, 0, none⟩)) ∧ Mem w' (w.heap.size + 1) w.heap.size (List.replicate (min (max n 0) 65536).toNat 0) 0 ∧ Turned [] w w' ∧ w'.heap.size = w.heap.size + 2 := by
  generalize hm : min (max n 0) 65536 = m
  have h1 : 0 ≤ m ∧ m ≤ 65536 := by omega
  obtain ⟨k, rfl⟩ := Int.eq_ofNat_of_zero_le h1.1
  have hk : ∀ w, Calls Tryz.prog 32 #[.int .i64 n, .int .i64 65536] w fun e w' => e = .returned (.int .i64 (k : Int)) ∧ w' = w := fun w => by rw [← hm]; exact keep_any n 65536 w
  have HK : Hid (∀ w, Calls Tryz.prog 32 #[.int .i64 n, .int .i64 65536] w fun e w' => e = .returned (.int .i64 (k : Int)) ∧ w' = w) := hk
  clear hk hm
  have hmk := run_make_row' (P := Tryz.prog) 28 2 (.int .i64 0) 8 Tryz.underlying28 Tryz.info2 rfl .i64 .i64 k (by omega) (by omega)
  go_enter Tryz.func10, Tryz.ntmps10
  go_wp2_with (go_at_call 32; refine (Hid.out HK _).mono ?_; rintro e w' ⟨rfl, rfl⟩)
  go_ret
  refine ⟨rfl, ⟨by omega, ?_, ?_⟩, ((Turned.refl _ _).alloc _).alloc _, by simp⟩
  · have h2 := heap_alloc_new (w'.alloc (.cells (madeCells #[Value.int .i64 0] k) 2)) (.cells #[.slice (some ⟨w'.heap.size, 0, none⟩) k k, .int .i64 0] 86)
    simpa using h2
  · rw [Below.heap_alloc _ _ _ (by simp), heap_alloc_new, madeCells_zeros]
    simp

theorem clone_some (b off n c : Nat) (l : List Int) (w : World) (hl : l.length = n) (hn : n ≤ 65536) (hc : ∀ i x, l[i]? = some x → w.cell? ⟨b, off + i, none⟩ = some (.int .i64 x)) (h0 : 0 < n) :
    Calls Tryz.prog 44 #[.slice (some ⟨b, off, none⟩) n c] w fun e w' => ∃ v, e = .returned v ∧ w'.ownsRow w.heap.size 2 1 v n (l.map (Value.int .i64)) ∧ Turned [] w w' := by
  have heq := fun w => Lib.run_eql_slice_nil (P := Tryz.prog) w 28 2 (some ⟨b, off, none⟩) n c 0 0 Tryz.underlying28
  have hbs : ∀ w : World, (Instr.buildSlice 28 0 #[]).run Tryz.prog w = .ok (.slice (some ⟨w.heap.size, 0, none⟩) 0 0) (w.alloc (.cells #[] 2)) := fun _ => by kernel_rfl
  have hcl : ∀ j u, (l.map (Value.int .i64))[j]? = some u → (w.alloc (.cells #[] 2)).cell? (Addr.add ⟨b, off, none⟩ j) = some u := by
    intro j u hu
    rw [List.getElem?_map] at hu
    obtain ⟨x, hx, rfl⟩ := Option.map_eq_some_iff.1 hu
    have h1 := hc j x hx
    have h2 := block_lt h1
    rw [show Addr.add ⟨b, off, none⟩ j = ⟨b, off + j, none⟩ by simp [Addr.add]]
    rw [World.cell?_of_block (w := w) (Below.heap_alloc _ _ _ h2)]
    exact h1
  have HC : Hid (∀ j u, (l.map (Value.int .i64))[j]? = some u → (w.alloc (.cells #[] 2)).cell? (Addr.add ⟨b, off, none⟩ j) = some u) := hcl
  have HL : Hid (l.length = n) := hl
  clear hc hl hcl
  obtain ⟨i0, hi, hi0⟩ := Option.map_eq_some_iff.1 Tryz.info2
  simp only [Prod.mk.injEq] at hi0
  obtain ⟨hz0, hz1, hz2⟩ := hi0
  go_enter Tryz.func44, Tryz.ntmps44
  go_wp2_with (at_builtin; (refine wpList_append_grows _ rfl _ _ 28 rfl 2 i0 (.int .i64 0) 1 8 Tryz.underlying28 hi hz0 hz1 hz2 rfl (by decide) (some ⟨w.heap.size, 0, none⟩) 0 0 [] rfl (by intro h; cases h) rfl (by intro b hb j u hu; simp at hu) ⟨b, off, none⟩ n c (l.map (Value.int .i64)) rfl (by simp [Hid.out HL]) HC.out (by intro u hu; obtain ⟨x, _, rfl⟩ := List.mem_map.1 hu; rfl) (by omega) (by unfold maxLen; omega) (by omega) ?_); intro v' w3 hown hgr)
  go_ret
  simp only [Nat.zero_add, List.nil_append] at hown
  exact ⟨_, rfl, ownsRow_mono hown (by simp), ((Turned.refl _ _).alloc _).grown hgr (fun k hk => by cases hk)⟩

/-- Words of a memory: a copy in new memory. -/
theorem words_mem (p q : Nat) (l : List Int) (s : Int) (f g : Int) (w : World) (hl : l.length ≤ 65536) (h : Mem w p q l s) :
    Calls Tryz.prog 17 #[.pointer (some ⟨p, 0, none⟩), .int .i64 f, .int .i64 g] w fun e w' =>
      ∃ v, e = .returned v ∧ w'.ownsRow w.heap.size 2 1 v ((l.take (min (max g 0) l.length).toNat).drop (min (max f 0) l.length).toNat).length (((l.take (min (max g 0) l.length).toNat).drop (min (max f 0) l.length).toNat).map (Value.int .i64)) ∧ Turned [] w w' := by
  have hkf : ∀ w, Calls Tryz.prog 32 #[.int .i64 f, .int .i64 l.length] w fun e w' => e = .returned (.int .i64 (min (max f 0) l.length)) ∧ w' = w := fun w => keep_any f l.length w
  have hkg : ∀ w, Calls Tryz.prog 32 #[.int .i64 g, .int .i64 l.length] w fun e w' => e = .returned (.int .i64 (min (max g 0) l.length)) ∧ w' = w := fun w => keep_any g l.length w
  have b1 : 0 ≤ min (max f 0) (l.length : Int) ∧ min (max f 0) (l.length : Int) ≤ l.length := by omega
  have b2 : 0 ≤ min (max g 0) (l.length : Int) ∧ min (max g 0) (l.length : Int) ≤ l.length := by omega
  generalize min (max f 0) (l.length : Int) = a at *
  generalize min (max g 0) (l.length : Int) = c at *
  obtain ⟨i, rfl⟩ := Int.eq_ofNat_of_zero_le b1.1
  obtain ⟨j, rfl⟩ := Int.eq_ofNat_of_zero_le b2.1
  simp only [Int.toNat_natCast]
  have hi : i ≤ l.length := by omega
  have hj : j ≤ l.length := by omega
  clear b1 b2
  have HF := show Hid _ from hkf
  have HG := show Hid _ from hkg
  clear hkf hkg
  have h0 := h.c0
  have HM : Hid (Mem w p q l s) := h
  clear h
  by_cases hij : i < j
  · have hii : ¬ (j ≤ i) := by omega
    go_enter Tryz.func17, Tryz.ntmps17
    go_wp2_with (go_at_call 34; go_in)
    refine (HF.out _).mono ?_
    rintro e w1 ⟨rfl, rfl⟩
    go_wp2_with (go_at_call 34; go_in)
    refine (HG.out _).mono ?_
    rintro e w2 ⟨rfl, rfl⟩
    go_wp2_with fail
    have hlen : ((l.take j).drop i).length = j - i := by simp; omega
    refine (clone_some q i (j - i) (l.length - i) ((l.take j).drop i) w2 hlen (by omega) ?_ (by omega)).mono ?_
    · intro k x hx
      refine HM.out.word ?_
      rw [List.getElem?_drop] at hx
      have h1 := (List.getElem?_eq_some_iff.1 hx).1
      rw [List.getElem?_take_of_lt (by simp at h1; omega)] at hx
      exact hx
    rintro e w3 ⟨v, rfl, hown, hT⟩
    go_wp2_with fail
    go_ret
    rw [hlen]
    exact ⟨_, rfl, hown, hT⟩
  · have hii : j ≤ i := by omega
    go_enter Tryz.func17, Tryz.ntmps17
    go_wp2_with (go_at_call 34; go_in)
    refine (HF.out _).mono ?_
    rintro e w1 ⟨rfl, rfl⟩
    go_wp2_with (go_at_call 34; go_in)
    refine (HG.out _).mono ?_
    rintro e w2 ⟨rfl, rfl⟩
    go_wp2_with fail
    go_ret
    have hnil : (l.take j).drop i = [] := by simp; omega
    rw [hnil]
    exact ⟨_, rfl, ⟨rfl, .inl ⟨rfl, rfl⟩⟩, Turned.refl _ _⟩

theorem words_nil (f g : Int) (w : World) :
    Calls Tryz.prog 17 #[.pointer none, .int .i64 f, .int .i64 g] w fun e w' => e = .returned (.slice none 0 0) ∧ w' = w := by
  have hkf : ∀ w, Calls Tryz.prog 32 #[.int .i64 f, .int .i64 0] w fun e w' => e = .returned (.int .i64 0) ∧ w' = w := fun w => by
    have h := keep_any f 0 w
    rwa [show min (max f 0) 0 = 0 by omega] at h
  have hkg : ∀ w, Calls Tryz.prog 32 #[.int .i64 g, .int .i64 0] w fun e w' => e = .returned (.int .i64 0) ∧ w' = w := fun w => by
    have h := keep_any g 0 w
    rwa [show min (max g 0) 0 = 0 by omega] at h
  have HF := show Hid _ from hkf
  have HG := show Hid _ from hkg
  clear hkf hkg
  go_enter Tryz.func17, Tryz.ntmps17
  go_wp2_with (go_at_call 34; go_in)
  refine (HF.out _).mono ?_
  rintro e w1 ⟨rfl, rfl⟩
  go_wp2_with (go_at_call 34; go_in)
  refine (HG.out _).mono ?_
  rintro e w2 ⟨rfl, rfl⟩
  go_wp2_with fail
  go_ret
  exact ⟨rfl, rfl⟩

theorem put_nil (k : Int) (a : Option Addr) (m c : Nat) (w : World) :
    Calls Tryz.prog 25 #[.pointer none, .int .i64 k, .slice a m c] w fun e w' => e = .returned (.int .i64 10) ∧ w' = w := by
  go_enter Tryz.func25, Tryz.ntmps25
  go_wp2
  go_ret
  exact ⟨rfl, rfl⟩

theorem put_out (p : Nat) (ao : Option Addr) (n c : Nat) (k : Int) (a : Option Addr) (m d : Nat) (w : World) (hn : n ≤ 65536) (h0 : w.cell? ⟨p, 0, none⟩ = some (.slice ao n c)) (hk : k < 0 ∨ n < k ∨ n - k < m) :
    Calls Tryz.prog 25 #[.pointer (some ⟨p, 0, none⟩), .int .i64 k, .slice a m d] w fun e w' => e = .returned (.int .i64 10) ∧ w' = w := by
  by_cases h1 : k < 0
  · clear hk
    go_enter Tryz.func25, Tryz.ntmps25
    go_wp2
    go_ret
    exact ⟨rfl, rfl⟩
  · by_cases h2 : (n : Int) < k
    · clear hk
      go_enter Tryz.func25, Tryz.ntmps25
      go_wp2
      go_ret
      exact ⟨rfl, rfl⟩
    · have h3 : (n : Int) - k < m := by omega
      clear hk
      go_enter Tryz.func25, Tryz.ntmps25
      go_wp2
      go_ret
      exact ⟨rfl, rfl⟩
end Go.Proofs.YtpeglndlhjnaaaaGreatDoor

/-
  New, Phase, Arrive and Goes of a gang.
-/
import Derived.Test.YtdjeilombaclmaaGangBase
import Derived.Deep.QuietTactic
import Derived.BigQuiet
namespace Go.Proofs.Ytdjeilombaclmaa
open Go.RowKit
set_option linter.unusedVariables false

theorem Try.infoI : (Try.prog.info? 3).map (fun i => (i.zero, i.size, i.bytes)) = some (some (.int .i64 0), 1, 8) := by kernel_rfl

/-- The workers 0, 1 and so on. -/
def ids (n : Nat) : List Int := (List.range n).map (fun i : Nat => Int.ofNat i)
theorem ids_length (n : Nat) : (ids n).length = n := by simp [ids]
theorem ids_succ (n : Nat) : ids (n + 1) = ids n ++ [(n : Int)] := by unfold ids; rw [List.range_succ, List.map_append]; rfl
theorem mem_ids {n : Nat} {x : Int} : x ∈ ids n ↔ 0 ≤ x ∧ x < n := by
  simp only [ids, List.mem_map, List.mem_range]
  constructor
  · rintro ⟨i, hi, rfl⟩; exact ⟨Int.natCast_nonneg i, Int.ofNat_lt.2 hi⟩
  · intro h; exact ⟨x.toNat, by omega, Int.toNat_of_nonneg h.1⟩
theorem ids_nodup (n : Nat) : (ids n).Nodup := by
  unfold ids
  exact List.Pairwise.map _ (fun a b h e => h (Int.ofNat.inj e)) List.nodup_range

theorem gnew_bad (n : Int) (hn : n < 1 ∨ 64 < n) (w : World) :
    Calls Try.prog 20 #[.int .i64 n] w fun e w' => e = .returned (.tuple #[.pointer none, .int .i64 1]) ∧ w' = w := by
  rcases hn with hn | hn
  · have hd : decide (n < 1) = true := decide_eq_true hn
    go_enter Try.func20, Try.ntmps20
    go_wp2_with fail
    go_ret2
    exact ⟨rfl, rfl⟩
  · have hd1 : ¬ n < 1 := by omega
    go_enter Try.func20, Try.ntmps20
    go_wp2_with fail
    go_ret2
    exact ⟨rfl, rfl⟩

set_option maxRecDepth 100000 in
theorem gnew_ok (k : Nat) (h0 : 0 < k) (hk : k ≤ 64) (w : World) :
    Calls Try.prog 20 #[.int .i64 (k : Int)] w fun e w' => e = .returned (.tuple #[ptr (w.heap.size + 1), .int .i64 0]) ∧ Gg w' (w.heap.size + 1) w.heap.size (ids k) 0 0 ∧ Turned [] w w' := by
  have hmk := run_make_row' (P := Try.prog) 36 3 (.int .i64 0) 8 Try.underlying36 Try.infoI rfl .i64 .i64 k (by omega) (by omega)
  have hn1 : ¬ (k : Int) < 1 := by omega
  have hn2 : ¬ 64 < (k : Int) := by omega
  unfold ptr
  go_enter Try.func20, Try.ntmps20
  go_wp2_with fail
  have HT := hide (show Turned [] w ((w.alloc (.cells (madeCells #[Value.int .i64 0] k) 3)).alloc (.cells #[.slice (some ⟨w.heap.size, 0, none⟩) k k, .slice none 0 0, .int .i64 0] 73)) from ((Turned.refl _ _).alloc _).alloc _)
  have HG := hide (show Gg ((w.alloc (.cells (madeCells #[Value.int .i64 0] k) 3)).alloc (.cells #[.slice (some ⟨w.heap.size, 0, none⟩) k k, .slice none 0 0, .int .i64 0] 73)) (w.heap.size + 1) w.heap.size (ids 0 ++ List.replicate (k - 0) 0) 0 0 from by
    refine ⟨by omega, by simp [ids]; omega, by simp [ids]; omega, ?_, ?_⟩
    · have h2 := heap_alloc_new (w.alloc (.cells (madeCells #[Value.int .i64 0] k) 3)) (.cells #[.slice (some ⟨w.heap.size, 0, none⟩) k k, .slice none 0 0, .int .i64 0] 73)
      simpa [ids, arrV] using h2
    · rw [Below.heap_alloc _ _ _ (by simp), heap_alloc_new, madeCells_zeros]
      simp [ids])
  generalize (w.alloc (.cells (madeCells #[Value.int .i64 0] k) 3)).alloc (.cells #[.slice (some ⟨w.heap.size, 0, none⟩) k k, .slice none 0 0, .int .i64 0] 73) = w1 at *
  clear hmk
  generalize hp : w.heap.size + 1 = p at HG ⊢
  have HP := hide hp
  clear hp
  generalize hq : w.heap.size = q at HG ⊢
  have HQ := hide hq
  clear hq
  go_wp2_with fail
  go_loopw [17] (fun i wr => ∃ (j : Nat), j ≤ k ∧ i = .int .i64 j ∧ Hid (Gg wr p q (ids j ++ List.replicate (k - j) 0) 0 0) ∧ Hid (Turned [] w wr)) (fun i _ => k - (intOf i).toNat)
  case atStart => exact ⟨0, Nat.zero_le _, rfl, HG, HT⟩
  case round =>
    obtain ⟨j, hj, rfl, HG2, HT2⟩ := hrel
    clear HG HT
    by_cases hlt : j < k
    · have hx : (ids j ++ List.replicate (k - j) (0 : Int))[j]? = some 0 := by
        rw [List.getElem?_append_right (by rw [ids_length]; exact Nat.le_refl _), ids_length]
        rw [Nat.sub_self, List.getElem?_replicate, if_pos (by omega)]
      have hlen : (ids j ++ List.replicate (k - j) (0 : Int)).length = k := by simp [ids]; omega
      have c0 := HG2.out.c0
      rw [hlen] at c0
      have cq := HG2.out.word hx
      have fq := HG2.out.fw j
      have HS := hide (show Gg (wr.setCell ⟨q, j, none⟩ (.int .i64 (j : Int))) p q (ids (j + 1) ++ List.replicate (k - (j + 1)) 0) 0 0 from by
        have h1 := HG2.out.put j (j : Int)
        have e : (ids j ++ List.replicate (k - j) (0 : Int)).set j (j : Int) = ids (j + 1) ++ List.replicate (k - (j + 1)) 0 := by
          rw [List.set_append_right _ _ (by rw [ids_length]; exact Nat.le_refl _), ids_length, ids_succ, Nat.sub_self]
          obtain ⟨m, hm⟩ : ∃ m, k - j = m + 1 := ⟨k - j - 1, by omega⟩
          rw [hm, show k - (j + 1) = m by omega, List.replicate_succ]
          simp
        rwa [e] at h1)
      have HU := hide (HT2.out.setCell (p := ⟨q, j, none⟩) (.inr (by have := HQ.out; dsimp only; omega)) (.int .i64 (j : Int)))
      clear hx hlen HG2 HT2
      go_wp2_with fail
      go_roundw
      case rel => exact ⟨j + 1, by omega, by go_num, HS, HU⟩
      case measure => simp [intOf]; omega
    · have hjk : j = k := by omega
      go_wp2_with fail
      go_ret2
      obtain rfl := HP.out
      obtain rfl := HQ.out
      refine ⟨rfl, ?_, HT2.out⟩
      · have h1 := HG2.out
        rw [hjk, Nat.sub_self] at h1
        simpa using h1

theorem gphase_any (w : World) (p q : Nat) (ws : List Int) (came : Nat) (ph : Int) (h : Gg w p q ws came ph) :
    Calls Try.prog 30 #[ptr p] w fun e w' => e = .returned (.int .i64 ph) ∧ w' = w := by
  have c2 := h.c2
  clear h
  unfold ptr
  go_enter Try.func30, Try.ntmps30
  go_wp2_with fail
  go_ret
  exact ⟨rfl, rfl⟩

theorem gphase_nil (w : World) :
    Calls Try.prog 30 #[.pointer none] w fun e w' => e = .returned (.int .i64 0) ∧ w' = w := by
  go_enter Try.func30, Try.ntmps30
  go_wp2_with fail
  go_ret
  exact ⟨rfl, rfl⟩

set_option maxRecDepth 100000 in
theorem ggoes_any (w : World) (p q : Nat) (ws : List Int) (came : Nat) (ph x : Int) (h : Gg w p q ws came ph) :
    Calls Try.prog 27 #[ptr p, .int .i64 x] w fun e w' => e = .returned (.bool (decide (x ∈ ws.drop came))) ∧ ∃ n, w' = w.drewN n := by
  have c0 := h.c0
  have c1 := h.c1
  have hlt := h.lt
  have hm := h.most
  obtain ⟨ao, ha⟩ := arrV_len q came
  rw [ha] at c1
  have HC := hide (fun m => contains_any (w.drewN m) (some ⟨q, came, none⟩) (ws.length - came) (ws.length - came) (ws.drop came) x (h.drewN m).back (by omega))
  generalize ws.drop came = l2 at *
  generalize ws.length = n at *
  have hs : ∀ w' : World, (Instr.slice 36 (.slice (some ⟨q, 0, none⟩) n n) (some (.int .i64 (came : Int))) none none).run Try.prog w' = .ok (.slice (some ⟨q, came, none⟩) (n - came) (n - came)) w' := fun w' => by
    rw [run_slice_l (P := Try.prog) w' 36 (some ⟨q, 0, none⟩) n n Try.underlying36 .i64 (came : Int) (by omega) (by omega)]
    show Result.ok (sliced _ (came : Int).toNat n n 1) w' = _
    rw [sliced, if_neg (by omega)]
    simp [Addr.add]
    exact fun e => e.symm
  generalize hk : n - came = k at *
  have HK := hide hk
  clear hk h ha
  unfold ptr
  go_enter Try.func27, Try.ntmps27
  go_wp2_with fail
  go_quiet ((go_at_call 35; exact Calls.quiet_of_same (HC.out _)))
  go_wp2_with fail
  go_ret
  exact ⟨rfl, _, rfl⟩

set_option maxHeartbeats 2000000 in
theorem ggoes_nil (w : World) (x : Int) :
    Calls Try.prog 27 #[.pointer none, .int .i64 x] w fun e w' => e = .returned (.bool false) ∧ ∃ n, w' = w.drewN n := by
  go_enter Try.func27, Try.ntmps27
  go_wp2_with fail
  go_quiet (fail)
  go_wp2_with fail
  go_ret
  exact ⟨rfl, _, rfl⟩
end Go.Proofs.Ytdjeilombaclmaa

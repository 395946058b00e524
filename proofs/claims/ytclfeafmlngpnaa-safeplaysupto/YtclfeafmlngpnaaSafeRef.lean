/-
  The document's object: its block, two rows; find, State, Poll, Hold, Free.
-/
import Derived.Test.YtclfeafmlngpnaaSafeRefP
import Derived.Test.YtclfeafmlngpnaaSafePart
namespace Go.Proofs.Ytclfeafmlngpnaa
open Go.RowKit Go.Maps
set_option linter.unusedVariables false

structure Rf (w : World) (B r : Nat) (v u : Value) (L : Th) (ar : Bool) : Prop where
  obj : w.heap[r]? = some (.cells #[v, u, .bool ar] 29)
  rv : Row w B v (fsts L)
  ru : Row w B u (snds L)
  ap : ∀ k, v.ownBlock = some k → u.ownBlock ≠ some k
  ok : Ok L
  few : L.length < 17592186044416
  lo : B ≤ r
/-- Its blocks. -/
def tb (r : Nat) (v u : Value) : List Nat := r :: (v.ownBlock.toList ++ u.ownBlock.toList)
theorem mem_tb {r : Nat} {v u : Value} {k : Nat} : k ∈ tb r v u ↔ k = r ∨ v.ownBlock = some k ∨ u.ownBlock = some k := by
  simp [tb]
theorem Rf.lt {w : World} {B r : Nat} {v u : Value} {L : Th} {ar : Bool} (h : Rf w B r v u L ar) : r < w.heap.size := lt_of_heap h.obj
theorem Rf.keep {w w' : World} {B r : Nat} {v u : Value} {L : Th} {ar : Bool} (h : Rf w B r v u L ar) (hk : ∀ k, k ∈ tb r v u → w'.heap[k]? = w.heap[k]?) : Rf w' B r v u L ar :=
  ⟨(hk r (mem_tb.2 (.inl rfl))).trans h.obj, ownsRow_keep h.rv (fun k e => hk k (mem_tb.2 (.inr (.inl e)))), ownsRow_keep h.ru (fun k e => hk k (mem_tb.2 (.inr (.inr e)))), h.ap, h.ok, h.few, h.lo⟩
theorem Rf.in_lt {w : World} {B r : Nat} {v u : Value} {L : Th} {ar : Bool} (h : Rf w B r v u L ar) {k : Nat} (hk : k ∈ tb r v u) : k < w.heap.size ∧ B ≤ k := by
  rcases mem_tb.1 hk with rfl | e | e
  · exact ⟨h.lt, h.lo⟩
  · exact ⟨(ownsRow_lt h.rv k e).2.1, (ownsRow_lt h.rv k e).1⟩
  · exact ⟨(ownsRow_lt h.ru k e).2.1, (ownsRow_lt h.ru k e).1⟩
theorem Rf.turned {w w' : World} {B r : Nat} {v u : Value} {L : Th} {ar : Bool} {S : List Nat} (h : Rf w B r v u L ar) (ht : Turned S w w') (hS : ∀ k, k ∈ tb r v u → k ∉ S) : Rf w' B r v u L ar :=
  h.keep (fun k hk => ht.block k (h.in_lt hk).1 (hS k hk))
theorem Rf.c0 {w : World} {B r : Nat} {v u : Value} {L : Th} {ar : Bool} (h : Rf w B r v u L ar) : w.cell? ⟨r, 0, none⟩ = some v := by rw [cell_of_heap h.obj]; rfl
theorem Rf.c1 {w : World} {B r : Nat} {v u : Value} {L : Th} {ar : Bool} (h : Rf w B r v u L ar) : w.cell? ⟨r, 1, none⟩ = some u := by rw [cell_of_heap h.obj]; rfl
theorem Rf.c2 {w : World} {B r : Nat} {v u : Value} {L : Th} {ar : Bool} (h : Rf w B r v u L ar) : w.cell? ⟨r, 2, none⟩ = some (.bool ar) := by rw [cell_of_heap h.obj]; rfl
theorem Rf.fr {w : World} {B r : Nat} {v u : Value} {L : Th} {ar : Bool} (h : Rf w B r v u L ar) (i : Nat) : w.frozen? ⟨r, i, none⟩ = false := by simp [World.frozen?, h.obj]
/-- A row is not the object's own block. -/
theorem row_ne_obj {w : World} {B C r : Nat} {v u x : Value} {l : List Int} {ar : Bool} (h : w.heap[r]? = some (.cells #[v, u, .bool ar] 29)) (hr : Row w C x l) {k : Nat} (hk : x.ownBlock = some k) : k ≠ r := by
  intro e
  obtain ⟨_, _, c, hc⟩ := ownsRow_lt hr k hk
  rw [e, h] at hc
  simp at hc
theorem Rf.vals {w : World} {B r : Nat} {v u : Value} {L : Th} {ar : Bool} (h : Rf w B r v u L ar) : ∃ ao c bo d, v = .slice ao L.length c ∧ u = .slice bo L.length d ∧ IRd w ao L.length (fsts L) ∧ IRd w bo L.length (snds L) := by
  obtain ⟨ao, c, e1, i1⟩ := h.rv.ird (fsts_in64 h.ok)
  obtain ⟨bo, d, e2, i2⟩ := h.ru.ird (snds_in64 h.ok)
  rw [fsts_length] at e1 i1
  rw [snds_length] at e2 i2
  exact ⟨ao, c, bo, d, e1, e2, i1, i2⟩

theorem row_set {w : World} {B g n cap : Nat} {l : List Int} (h : Row w B (.slice (some ⟨g, 0, none⟩) n cap) l) {k : Nat} (hk : k < l.length) (x : Int) : Row (w.setCell ⟨g, k, none⟩ (.int .i64 x)) B (.slice (some ⟨g, 0, none⟩) n cap) (l.set k x) := by
  rcases h.2 with ⟨hv, _⟩ | ⟨g', cap', cur, hv, hg, hb, h1, h2, h3, h4⟩
  · cases hv
  · cases hv
    unfold Row
    rw [List.length_set]
    refine ⟨by simp, .inr ⟨g, cap, _, rfl, hg, heap_setCell_at w g k _ _ _ hb _, h1, h2, by simpa using h3, ?_⟩⟩
    rw [Array.toList_setIfInBounds, List.take_set, h4]
    simp [List.map_set]
/-- A thread's state is set. -/
theorem Rf.set {w : World} {B r g n cap : Nat} {v : Value} {L : Th} {ar : Bool} (h : Rf w B r v (.slice (some ⟨g, 0, none⟩) n cap) L ar) {x s : Int} (hx : st L x ≠ 0) (hs : 1 ≤ s ∧ s ≤ 3) : Rf (w.setCell ⟨g, pos L x, none⟩ (.int .i64 s)) B r v (.slice (some ⟨g, 0, none⟩) n cap) (upd x s L) ar := by
  have hgr : g ≠ r := row_ne_obj (B := B) h.obj h.ru rfl
  refine ⟨(Below.heap_setCell _ _ _ _ (fun e => hgr e.symm)).trans h.obj, ?_, ?_, h.ap, h.ok.upd x hs, by rw [upd_length]; exact h.few, h.lo⟩
  · rw [upd_fsts]
    exact ownsRow_keep h.rv (fun k e => Below.heap_setCell _ _ _ _ (fun e2 => h.ap k e (by rw [e2]; rfl)))
  · rw [upd_pos h.ok hx]
    exact row_set h.ru (by rw [snds_length]; exact pos_lt hx) s
theorem tset {w : World} {r g n cap k : Nat} {v x : Value} : Turned (tb r v (.slice (some ⟨g, 0, none⟩) n cap)) w (w.setCell ⟨g, k, none⟩ x) :=
  (Turned.refl _ w).setCell (p := ⟨g, k, none⟩) (.inl (mem_tb.2 (.inr (.inr rfl)))) _

set_option maxRecDepth 100000 in
theorem find_any (w : World) (B r : Nat) (v u : Value) (L : Th) (ar : Bool) (x : Int) (h : Rf w B r v u L ar) :
    Calls Try.prog 31 #[ptr r, .int .i64 x] w fun e w' => e = .returned (.int .i64 (findI L x)) ∧ w' = w := by
  obtain ⟨ao, c, bo, d, rfl, rfl, i1, i2⟩ := h.vals
  have hc0 := h.c0
  have hfew := h.few
  have HI := hide i1
  have HOk := hide h.ok
  clear i1 i2 h
  unfold ptr
  go_enter Try.func31, Try.ntmps31
  obtain ⟨n, hn⟩ : ∃ n, n = L.length := ⟨_, rfl⟩
  rw [← hn] at HI hc0 hfew
  have HLen : Hid (L.length = n) := hn.symm
  clear hn
  go_wp2_with fail
  go_loopw [5] (fun s5 wr => ∃ (k : Nat), k ≤ n ∧ s5 = .int .i64 k ∧ Hid (∀ (i : Nat) (q : Int × Int), i < k → L[i]? = some q → q.1 ≠ x) ∧ wr = w) (fun s5 _ => n - (intOf s5).toNat)
  case atStart => exact ⟨0, Nat.zero_le _, rfl, fun i q hi => absurd hi (Nat.not_lt_zero _), rfl⟩
  case round =>
    obtain ⟨k, hk, rfl, HK, rfl⟩ := hrel
    by_cases hlt : k < n
    · obtain ⟨p, hp⟩ : ∃ p, L[k]? = some p := ⟨_, List.getElem?_eq_getElem (by rw [HLen.out]; exact hlt)⟩
      obtain ⟨g, off, rfl, hc⟩ := HI.out.cell k p.1 (fsts_get hp)
      obtain ⟨y, s⟩ := p
      simp only at hc
      by_cases hxy : y = x
      · subst hxy
        have HF : Hid (findI L y = (k : Int)) := by
          show _ = _
          obtain ⟨e1, e2⟩ := pos_eq HK.out hp rfl
          unfold findI
          rw [e1]
          by_cases h0 : st L y = 0
          · exfalso
            have h1 := (HOk.out.ok _ (List.mem_of_getElem? hp)).1
            simp only at h1 e2
            omega
          · rw [if_neg h0]
        clear hp HK
        go_wp2_with fail
        go_ret
        exact ⟨by rw [HF.out]; rfl, rfl⟩
      · have b1 : (y == x) = false := by simp [hxy]
        have HK2 : Hid (∀ (i : Nat) (q : Int × Int), i < k + 1 → L[i]? = some q → q.1 ≠ x) := fun i q hi hq => by
          by_cases e : i = k
          · subst e
            rw [hp] at hq
            cases hq
            exact hxy
          · exact HK.out i q (by omega) hq
        clear hp HK
        go_wp2_with fail
        go_roundw
        case rel => exact ⟨k + 1, by omega, by go_num, HK2, trivial⟩
        case measure => simp [intOf]; omega
    · have hkl : k = n := by omega
      subst hkl
      have HF : Hid (findI L x = -1) := by
        show _ = _
        unfold findI
        rw [if_pos (pos_none fun i q hq => HK.out i q (by have := (List.getElem?_eq_some_iff.1 hq).1; rw [HLen.out] at this; exact this) hq)]
      go_wp2_with fail
      go_ret
      exact ⟨by rw [HF.out]; rfl, rfl⟩
end Go.Proofs.Ytclfeafmlngpnaa

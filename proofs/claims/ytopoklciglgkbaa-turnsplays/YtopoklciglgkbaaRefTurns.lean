/-
  The document's own tasks (package ballastref02) in the model's heap, over the same list of tasks; what its Ready tells.
-/
import Derived.Test.YtopoklciglgkbaaTurnsCount
namespace Go.Proofs.Ytopoklciglgkbaa
open Go.RowKit
set_option linter.unusedVariables false

/-- What a task tells, as it came in. -/
structure Sl where
  ao : Option Addr
  len : Nat
  cap : Nat
  l : List Int
def Sl.val (s : Sl) : Value := .slice s.ao s.len s.cap

/-- The document's object: block q is the struct; G: the blocks that its calls may turn; nothing below B is its. -/
structure Rf (B : Nat) (w : World) (q : Nat) (G : List Nat) (ts : List Task) (ls : List Sl) : Prop where
  head : ∃ vt vs vn, w.heap[q]? = some (.cells #[vt, vs, vn] 30) ∧ w.ownsRow B 28 1 vt ts.length (ls.map Sl.val) ∧ w.ownsRow B 3 1 vs ts.length (ts.map fun t => .int .i64 t.st) ∧ w.ownsRow B 3 1 vn ts.length (ts.map fun t => .int .i64 t.n) ∧
    (∀ k, vt.ownBlock = some k ∨ vs.ownBlock = some k ∨ vn.ownBlock = some k → k ∈ G) ∧ ∀ k, vs.ownBlock = some k → vn.ownBlock ≠ some k
  qG : q ∈ G
  len : ls.length = ts.length
  tell : ∀ (i : Nat) t s, ts[i]? = some t → ls[i]? = some s → t.tell = fun n => tellOf s.l n.toNat
  rd : ∀ s, s ∈ ls → s.l.length = s.len ∧ s.len ≤ 65536 ∧ ∀ i x, s.l[i]? = some x → ∃ g off, s.ao = some ⟨g, off, none⟩ ∧ g < B ∧ w.cell? ⟨g, off + i, none⟩ = some (.int .i64 x)
  lo : ∀ k, k ∈ G → B ≤ k ∧ k < w.heap.size
  room : ts.length ≤ 128

section
variable {B : Nat} {w : World} {q : Nat} {G : List Nat} {ts : List Task} {ls : List Sl}
theorem Rf.keep (h : Rf B w q G ts ls) {w' : World} (hk : ∀ k, k ∈ G ∨ k < B → k < w.heap.size → w'.heap[k]? = w.heap[k]?) (hs : w.heap.size ≤ w'.heap.size) : Rf B w' q G ts ls := by
  obtain ⟨vt, vs, vn, h1, h2, h3, h4, h5, h6⟩ := h.head
  have kG : ∀ k, k ∈ G → w'.heap[k]? = w.heap[k]? := fun k hk2 => hk k (.inl hk2) (h.lo k hk2).2
  refine ⟨⟨vt, vs, vn, by rw [kG q h.qG]; exact h1, ownsRow_keep h2 (fun k e => kG k (h5 k (.inl e))), ownsRow_keep h3 (fun k e => kG k (h5 k (.inr (.inl e)))), ownsRow_keep h4 (fun k e => kG k (h5 k (.inr (.inr e)))), h5, h6⟩, h.qG, h.len, h.tell, fun s hs2 => ?_, fun k hk2 => ⟨(h.lo k hk2).1, Nat.lt_of_lt_of_le (h.lo k hk2).2 hs⟩, h.room⟩
  obtain ⟨a1, a2, a3⟩ := h.rd s hs2
  refine ⟨a1, a2, fun i x hx => ?_⟩
  obtain ⟨g, off, b1, b2, b3⟩ := a3 i x hx
  exact ⟨g, off, b1, b2, by rw [World.cell?_of_block (w := w) (hk g (.inr b2) (block_lt b3))]; exact b3⟩
theorem Rf.turned (h : Rf B w q G ts ls) {S : List Nat} {w' : World} (t : Turned S w w') (hG : ∀ k, k ∈ G → k ∉ S) (hB : ∀ k, k ∈ S → B ≤ k) : Rf B w' q G ts ls :=
  h.keep (fun k hk hlt => t.block k hlt (fun hm => by
    rcases hk with hk | hk
    · exact hG k hk hm
    · have := hB k hm; omega)) t.size
theorem Rf.same (h : Rf B w q G ts ls) {w' : World} (t : Turned [] w w') : Rf B w' q G ts ls := h.turned t (by simp) (by simp)
/-- The states' row. -/
theorem Rf.st (h : Rf B w q G ts ls) : ∃ ao cap, w.cell? ⟨q, 1, none⟩ = some (.slice ao ts.length cap) ∧ ∀ (i : Nat) t, ts[i]? = some t → ∃ g, ao = some ⟨g, 0, none⟩ ∧ g ∈ G ∧ w.cell? ⟨g, i, none⟩ = some (.int .i64 t.st) ∧ w.frozen? ⟨g, i, none⟩ = false := by
  obtain ⟨vt, vs, vn, h1, h2, h3, h4, h5, h6⟩ := h.head
  obtain ⟨_, ao, cap, rfl, h7⟩ := ownsRow_any h3
  refine ⟨ao, cap, by rw [cell_of_heap h1]; rfl, fun i t ht => ?_⟩
  obtain ⟨g, e, _, _, h8, h9⟩ := h7 i (.int .i64 t.st) (by rw [List.getElem?_map, ht]; rfl)
  exact ⟨g, e, h5 g (.inr (.inl (by rw [e]; rfl))), h8, h9⟩
end

set_option maxRecDepth 100000 in
theorem rready_any (B : Nat) (w : World) (q : Nat) (G : List Nat) (ts : List Task) (ls : List Sl) (h : Rf B w q G ts ls) :
    Calls Try.prog 22 #[.pointer (some ⟨q, 0, none⟩)] w fun e w' =>
      ∃ v, e = .returned v ∧ w'.ownsRow w.heap.size 3 1 v (readyOf ts).length ((readyOf ts).map (Value.int .i64)) ∧ Turned [] w w' := by
  obtain ⟨ao, cap, h0, hrow⟩ := h.st
  have hroom := h.room
  have HR := hide hrow
  have HQ := hide (h.lo q h.qG).2
  clear h hrow
  obtain ⟨i0, hi, hi0⟩ := Option.map_eq_some_iff.1 Try.infoInt
  simp only [Prod.mk.injEq] at hi0
  obtain ⟨hz0, hz1, hz2⟩ := hi0
  have H0 := hide h0
  go_enter Try.func22, Try.ntmps22
  go_wp2_with fail
  go_loopw [3, 4] (fun v i wr => ∃ k : Nat, k ≤ ts.length ∧ i = .int .i64 k ∧ Hid (wr.ownsRow w.heap.size 3 1 v (thatOf 0 (states (ts.take k)) 0).length ((thatOf 0 (states (ts.take k)) 0).map (Value.int .i64))) ∧ Hid (Turned [] w wr)) (fun _ i _ => ts.length - (intOf i).toNat)
  case atStart => exact ⟨0, Nat.zero_le _, rfl, World.ownsRow_nil _ _ _ _, Turned.refl _ _⟩
  case round =>
    obtain ⟨k, hk, rfl, HO, HTr⟩ := hrel
    have h0r : wr.cell? ⟨q, 1, none⟩ = some (.slice ao ts.length cap) := by rw [HTr.out.cell HQ.out (by simp)]; exact H0.out
    by_cases hlt : k < ts.length
    · obtain ⟨t, ht⟩ : ∃ t, ts[k]? = some t := ⟨_, List.getElem?_eq_getElem hlt⟩
      obtain ⟨g, rfl, -, hg, -⟩ := HR.out k t ht
      have hst : wr.cell? ⟨g, k, none⟩ = some (.int .i64 t.st) := by rw [HTr.out.cell (block_lt hg) (by simp)]; exact hg
      have HS := hide (states_take_succ ts k t ht)
      have HL := hide (states_take_length ts k hk)
      have hsz := HTr.out.size
      have hll := thatOf_length 0 (states (ts.take k)) 0
      rw [HL.out] at hll
      have e1 : wrap64 ((k : Int) + 1) = (k : Int) + 1 := by unfold wrap64; omega
      clear hg ht
      by_cases he : t.st = 0
      · go_wp2_with (at_builtin; (refine wpList_append_own _ rfl _ _ 28 rfl w.heap.size 3 i0 (.int .i64 0) 1 8 Try.underlying28 hi hz0 hz1 hz2 rfl (by decide) _ _ _ rfl (HO.out.alloc _) ⟨wr.heap.size, 0, none⟩ 1 1 [.int .i64 ((k : Int) + 1)] rfl rfl (cell_one_new _ _ _) (fun x hx => by simp at hx; subst hx; rfl) (by unfold maxLen; omega) (by omega) (by simp; omega) ?_); intro v' w3 hown' hgrow3 hnil3)
        have HT3 := hide ((HTr.out.alloc _).grown hgrow3 (fun j hj => .inr (ownsRow_lt HO.out j hj).1))
        have HO3 := hide hown'
        clear hown' hgrow3 hnil3
        go_roundw
        case rel =>
          refine ⟨k + 1, by omega, by go_num, ?_, HT3⟩
          show World.ownsRow _ _ _ _ _ _ _
          rw [HS.out, thatOf_snoc, HL.out, if_pos he, List.map_append, List.length_append]
          simpa using HO3.out
        case measure => simp [intOf]; omega
      · go_wp2_with fail
        go_roundw
        case rel =>
          refine ⟨k + 1, by omega, by go_num, ?_, HTr⟩
          show World.ownsRow _ _ _ _ _ _ _
          rw [HS.out, thatOf_snoc, if_neg he, List.append_nil]
          exact HO.out
        case measure => simp [intOf]; omega
    · have he : k = ts.length := by omega
      subst he
      go_wp2_with fail
      go_ret
      refine ⟨_, rfl, ?_, HTr.out⟩
      have h2 := HO.out
      rw [List.take_length] at h2
      exact h2
end Go.Proofs.Ytopoklciglgkbaa

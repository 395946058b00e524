/-
  The document's gang in the model's heap ('Rg'): Arrive and Waits.
-/
import Derived.Test.YtpaiehieddicmaaGangPart
import Derived.Deep.Grids
namespace Go.Proofs.Ytpaiehieddicmaa
open Go.RowKit
set_option linter.unusedVariables false

/-- The document's gang: block p is the struct, block q who has arrived. -/
structure Rg (w : World) (p q : Nat) (bs : List Bool) (ph : Int) : Prop where
  ne : p ≠ q
  most : bs.length ≤ 64
  pos : 0 < bs.length
  head : w.heap[p]? = some (.cells #[.slice (some ⟨q, 0, none⟩) bs.length bs.length, .int .i64 ph] 31)
  row : w.heap[q]? = some (.cells (bs.map Value.bool).toArray 4)
section
variable {w : World} {p q : Nat} {bs : List Bool} {ph : Int}
theorem Rg.c0 (h : Rg w p q bs ph) : w.cell? ⟨p, 0, none⟩ = some (.slice (some ⟨q, 0, none⟩) bs.length bs.length) := by simp [World.cell?, h.head]
theorem Rg.c1 (h : Rg w p q bs ph) : w.cell? ⟨p, 1, none⟩ = some (.int .i64 ph) := by simp [World.cell?, h.head]
theorem Rg.f (h : Rg w p q bs ph) (i : Nat) : w.frozen? ⟨p, i, none⟩ = false := by simp [World.frozen?, h.head]
theorem Rg.fw (h : Rg w p q bs ph) (i : Nat) : w.frozen? ⟨q, i, none⟩ = false := by simp [World.frozen?, h.row]
theorem Rg.at (h : Rg w p q bs ph) {i : Nat} {x : Bool} (hx : bs[i]? = some x) : w.cell? ⟨q, i, none⟩ = some (.bool x) := by simp [World.cell?, h.row, hx]
theorem Rg.ltp (h : Rg w p q bs ph) : p < w.heap.size := lt_of_heap h.head
theorem Rg.ltq (h : Rg w p q bs ph) : q < w.heap.size := lt_of_heap h.row
theorem Rg.turned (h : Rg w p q bs ph) {S : List Nat} {w' : World} (t : Turned S w w') (hp : p ∉ S) (hq : q ∉ S) : Rg w' p q bs ph :=
  ⟨h.ne, h.most, h.pos, by rw [t.block p h.ltp hp]; exact h.head, by rw [t.block q h.ltq hq]; exact h.row⟩
theorem Rg.turned0 (h : Rg w p q bs ph) {w' : World} (t : Turned [] w w') : Rg w' p q bs ph := h.turned t (by simp) (by simp)
theorem Rg.put (h : Rg w p q bs ph) (k : Nat) (v : Bool) : Rg (w.setCell ⟨q, k, none⟩ (.bool v)) p q (bs.set k v) ph :=
  ⟨h.ne, by simpa using h.most, by simpa using h.pos, by rw [Below.heap_setCell _ _ _ _ h.ne, List.length_set]; exact h.head, by rw [heap_setCell_at _ _ _ _ _ _ h.row, List.map_set]; simp⟩
theorem Rg.phs (h : Rg w p q bs ph) (v : Int) : Rg (w.setCell ⟨p, 1, none⟩ (.int .i64 v)) p q bs v :=
  ⟨h.ne, h.most, h.pos, by rw [heap_setCell_at _ _ _ _ _ _ h.head]; rfl, by rw [Below.heap_setCell _ _ _ _ (Ne.symm h.ne)]; exact h.row⟩
end

theorem rarrive_task (w : World) (p q : Nat) (bs : List Bool) (ph x : Int) (h : Rg w p q bs ph) (hx : ¬ (0 ≤ x ∧ x < bs.length)) :
    Calls Try.prog 12 #[ptr p, .int .i64 x] w fun e w' => e = .returned (.tuple #[.bool false, .int .i64 17]) ∧ w' = w := by
  have c0 := h.c0
  have hm := h.most
  generalize bs.length = n at *
  clear h
  unfold ptr
  by_cases h0 : x < 0
  · go_enter Try.func12, Try.ntmps12
    go_wp2_with fail
    go_ret2
    exact ⟨rfl, rfl⟩
  · have h1 : (n : Int) ≤ x := by omega
    go_enter Try.func12, Try.ntmps12
    go_wp2_with fail
    go_ret2
    exact ⟨rfl, rfl⟩

theorem rarrive_state (w : World) (p q : Nat) (bs : List Bool) (ph : Int) (h : Rg w p q bs ph) (k : Nat) (hk : bs[k]? = some true) :
    Calls Try.prog 12 #[ptr p, .int .i64 (k : Int)] w fun e w' => e = .returned (.tuple #[.bool false, .int .i64 16]) ∧ w' = w := by
  have c0 := h.c0
  have hm := h.most
  have cz := h.at hk
  have hkl := (List.getElem?_eq_some_iff.1 hk).1
  generalize bs.length = n at *
  have h0 : ¬ (k : Int) < 0 := by omega
  have h1 : ¬ (n : Int) ≤ k := by omega
  clear h hk
  unfold ptr
  go_enter Try.func12, Try.ntmps12
  go_wp2_with fail
  go_ret2
  exact ⟨rfl, rfl⟩

/-- Have all? -/
def allT (bs : List Bool) : Bool := bs.all id
def rbs (bs : List Bool) : List Bool := if allT bs then List.replicate bs.length false else bs
def rph (bs : List Bool) (ph : Int) : Int := if allT bs then ph + 1 else ph

set_option maxRecDepth 100000 in
set_option maxHeartbeats 2000000 in
theorem rarrive_ok (w : World) (p q : Nat) (bs : List Bool) (ph : Int) (h : Rg w p q bs ph) (k : Nat) (hk : bs[k]? = some false) (hph : 0 ≤ ph ∧ ph < 1000000000) :
    Calls Try.prog 12 #[ptr p, .int .i64 (k : Int)] w fun e w' => e = .returned (.tuple #[.bool (allT (bs.set k true)), .int .i64 0]) ∧ Rg w' p q (rbs (bs.set k true)) (rph (bs.set k true) ph) ∧ Turned [p, q] w w' := by
  have c0 := h.c0
  have hm := h.most
  have cz := h.at hk
  have fz := h.fw k
  have hkl := (List.getElem?_eq_some_iff.1 hk).1
  have H1 := hide (h.put k true)
  have T1 := hide ((Turned.refl [p, q] w).setCell (p := ⟨q, k, none⟩) (.inl (by simp)) (.bool true))
  have HL := hide (show (bs.set k true).length = bs.length by simp)
  generalize bs.set k true = b2 at *
  generalize hn : bs.length = n at *
  have HN := hide hn
  have h0 : ¬ (k : Int) < 0 := by omega
  have h1 : ¬ (n : Int) ≤ k := by omega
  clear h hk hn
  unfold ptr
  go_enter Try.func12, Try.ntmps12
  go_wp2_with fail
  generalize w.setCell ⟨q, k, none⟩ (.bool true) = w1 at *
  clear c0 cz fz h0 h1 hkl
  go_loopw [6] (fun s6 wr => ∃ (i : Nat), i ≤ n ∧ s6 = .int .i64 (i : Int) ∧ Hid (∀ (m : Nat) (x : Bool), m < i → b2[m]? = some x → x = true) ∧ Hid (wr = w1)) (fun s6 _ => n - (intOf s6).toNat)
  case atStart => exact ⟨0, Nat.zero_le _, rfl, fun m x hm => by omega, rfl⟩
  case round =>
    obtain ⟨i, hi, rfl, HF, HW⟩ := hrel
    have hW : wr = w1 := HW.out
    subst hW
    have c0 := H1.out.c0
    rw [HL.out] at c0
    by_cases hlt : i < n
    · have e1 : (i : Int) < (n : Int) := by omega
      obtain ⟨z, hz⟩ : ∃ z, b2[i]? = some z := ⟨_, List.getElem?_eq_getElem (by have := HL.out; omega)⟩
      have cz := H1.out.at hz
      have HZ := hide hz
      clear hz
      cases z with
      | false =>
        have HAll := hide (show allT b2 = false by
          unfold allT
          rw [List.all_eq_false]
          exact ⟨false, List.mem_of_getElem? HZ.out, by simp⟩)
        go_wp2_with fail
        go_ret2
        rw [show rbs b2 = b2 by unfold rbs; rw [HAll.out]; rfl, show rph b2 ph = ph by unfold rph; rw [HAll.out]; rfl, HAll.out]
        exact ⟨rfl, H1.out, T1.out⟩
      | true =>
        have HF2 := hide (fun (m : Nat) (x : Bool) (hm : m < i + 1) (hx : b2[m]? = some x) => show x = true by
          by_cases hmi : m = i
          · subst hmi; rw [HZ.out] at hx; cases hx; rfl
          · exact HF.out m x (by omega) hx)
        clear HF HZ
        go_wp2_with fail
        go_roundw
        case rel => exact ⟨i + 1, by omega, by go_num, HF2, by first | exact rfl | exact trivial⟩
        case measure => simp [intOf]; omega
    · have e1 : ¬ (i : Int) < (n : Int) := by omega
      have HA := hide (fun (m : Nat) (x : Bool) (hx : b2[m]? = some x) => HF.out m x (by have := (List.getElem?_eq_some_iff.1 hx).1; have := HL.out; omega) hx)
      have H0 := hide (show Rg wr p q (List.replicate 0 false ++ b2.drop 0) ph by simpa using H1.out)
      clear HF HW H1
      go_wp2_with fail
      clear c0
      go_loopw [7] (fun s7 wr => ∃ (i : Nat), i ≤ n ∧ s7 = .int .i64 (i : Int) ∧ Hid (Rg wr p q (List.replicate i false ++ b2.drop i) ph) ∧ Hid (Turned [p, q] w wr)) (fun s7 _ => n - (intOf s7).toNat)
      case atStart => exact ⟨0, Nat.zero_le _, rfl, H0, T1⟩
      case round =>
        obtain ⟨i, hi, rfl, HR, HT⟩ := hrel
        clear H0 T1
        have hl2 : (List.replicate i false ++ b2.drop i).length = n := by have := HL.out; simp; omega
        have c0 := HR.out.c0
        rw [hl2] at c0
        by_cases hlt : i < n
        · have e1 : (i : Int) < (n : Int) := by omega
          obtain ⟨z, hz⟩ : ∃ z, b2[i]? = some z := ⟨_, List.getElem?_eq_getElem (by have := HL.out; omega)⟩
          have cz := HR.out.at (i := i) (x := z) (by rw [List.getElem?_append_right (by simp)]; simpa using hz)
          have fz := HR.out.fw i
          have HR2 := hide (show Rg (wr.setCell ⟨q, i, none⟩ (.bool false)) p q (List.replicate (i + 1) false ++ b2.drop (i + 1)) ph from by
            have h2 := HR.out.put i false
            rw [List.set_append_right _ _ (by simp)] at h2
            rw [List.length_replicate, Nat.sub_self, List.drop_eq_getElem_cons (by have := HL.out; omega), List.set_cons_zero] at h2
            rw [List.replicate_succ', List.append_assoc]
            exact h2)
          have HT2 := hide (HT.out.setCell (p := ⟨q, i, none⟩) (.inl (by simp)) (.bool false))
          clear hz HR HT hl2
          go_wp2_with fail
          go_roundw
          case rel => exact ⟨i + 1, by omega, by go_num, HR2, HT2⟩
          case measure => simp [intOf]; omega
        · have e1 : ¬ (i : Int) < (n : Int) := by omega
          have HR2 := hide (show Rg wr p q (List.replicate n false) ph from by
            have h2 := HR.out
            rw [show i = n by omega, List.drop_of_length_le (by have := HL.out; omega), List.append_nil] at h2
            exact h2)
          have k1 := HR2.out.c1
          have f1 := HR2.out.f 1
          clear HR hl2
          have HAll := hide (show allT b2 = true by
            unfold allT
            rw [List.all_eq_true]
            intro x hx
            obtain ⟨m, hm⟩ := List.getElem?_of_mem hx
            have := HA.out m x hm
            rw [this]; rfl)
          go_wp2_with fail
          go_ret2
          rw [show rbs b2 = List.replicate n false by unfold rbs; rw [HAll.out, HL.out]; rfl, show rph b2 ph = ph + 1 by unfold rph; rw [HAll.out]; rfl, HAll.out]
          exact ⟨rfl, HR2.out.phs (ph + 1), HT.out.setCell (p := ⟨p, 1, none⟩) (.inl (by simp)) _⟩

/-- Who has arrived, rising. -/
def ins (bs : List Bool) (j : Nat) : List Int := (ids j).filter (fun x => bs.getD x.toNat false)
theorem ins_succ (bs : List Bool) (j : Nat) {z : Bool} (hz : bs[j]? = some z) : ins bs (j + 1) = ins bs j ++ (if z then [(j : Int)] else []) := by
  unfold ins
  rw [ids_succ, List.filter_append]
  congr 1
  rw [List.filter_cons, List.filter_nil, Int.toNat_natCast, List.getD_eq_getElem?_getD, hz]
  cases z <;> rfl
theorem ins_length (bs : List Bool) (j : Nat) : (ins bs j).length ≤ j := by
  have := List.length_filter_le (fun x : Int => bs.getD x.toNat false) (ids j)
  rw [ids_length] at this
  exact this

set_option maxRecDepth 100000 in
set_option maxHeartbeats 2000000 in
theorem rwaits_any (w : World) (p q : Nat) (bs : List Bool) (ph : Int) (h : Rg w p q bs ph) :
    Calls Try.prog 14 #[ptr p] w fun e w' => ∃ v, e = .returned v ∧ Row w' w.heap.size v (ins bs bs.length) ∧ Turned [] w w' := by
  have hm := h.most
  have H := hide h
  generalize hn : bs.length = n at *
  have HN := hide hn
  clear h hn
  unfold ptr
  go_enter Try.func14, Try.ntmps14
  go_wp2_with fail
  go_loopw [3, 4] (fun s3 s4 wr => ∃ (i : Nat), i ≤ n ∧ s4 = .int .i64 (i : Int) ∧ Hid (Row wr w.heap.size s3 (ins bs i)) ∧ Hid (Turned [] w wr)) (fun _ s4 _ => n - (intOf s4).toNat)
  case atStart => exact ⟨0, Nat.zero_le _, rfl, row_nil _ _, Turned.refl _ _⟩
  case round =>
    obtain ⟨i, hi, rfl, HR, HT⟩ := hrel
    have H1 := hide (H.out.turned0 HT.out)
    have c0 := H1.out.c0
    rw [HN.out] at c0
    by_cases hlt : i < n
    · have e1 : (i : Int) < (n : Int) := by omega
      obtain ⟨z, hz⟩ : ∃ z, bs[i]? = some z := ⟨_, List.getElem?_eq_getElem (by have := HN.out; omega)⟩
      have cz := H1.out.at hz
      have HS := hide (ins_succ bs i hz)
      have hil := ins_length bs i
      clear hz
      cases z with
      | false =>
        go_wp2_with fail
        go_roundw
        case rel => exact ⟨i + 1, by omega, by go_num, by show Row _ _ _ _; rw [HS.out]; simpa using HR.out, HT⟩
        case measure => simp [intOf]; omega
      | true =>
        have R3 := hide (HR.out.t0 ((Turned.refl [] wr).alloc (.cells #[.int .i64 (i : Int)] 3)))
        have I3 := hide (ird_one wr (i : Int))
        have B3 := hide (show w.heap.size ≤ (wr.alloc (.cells #[.int .i64 (i : Int)] 3)).heap.size by have := HT.out.size; simp; omega)
        have T3 := hide (HT.out.alloc (.cells #[.int .i64 (i : Int)] 3))
        clear HR HT H1
        go_wp2_with (at_builtin; refine wpList_append_part rfl _ _ rfl w.heap.size _ _ rfl R3.out _ _ _ [(i : Int)] rfl I3.out (by intro e; cases e) (by omega) B3.out ?_; intro v' w5 hr5 hg5)
        have R5 := hide (show Row w5 w.heap.size v' (ins bs (i + 1)) by rw [HS.out]; exact hr5)
        have hg6 : World.grownBy _ w5 u3.ownBlock := hg5
        have T5 := hide (T3.out.trans_new (turned_grown hg6) (fun b hb => .inr (ownsRow_lt R3.out b (by simpa using hb)).1))
        clear hr5 hg5 hg6 R3 I3 B3 T3 cz c0
        go_wp2_with fail
        go_roundw
        case rel => exact ⟨i + 1, by omega, by go_num, R5, T5⟩
        case measure => simp [intOf]; omega
    · have e1 : ¬ (i : Int) < (n : Int) := by omega
      have hie : i = n := by omega
      subst hie
      go_wp2_with fail
      go_ret
      exact ⟨_, rfl, HR.out, HT.out⟩
end Go.Proofs.Ytpaiehieddicmaa

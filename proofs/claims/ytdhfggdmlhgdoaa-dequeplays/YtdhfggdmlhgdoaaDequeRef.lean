/-
  The document's own deque (package ballastref06) in the model's heap ('RDq', an operation: 'RB'), and its small functions.
-/
import Derived.Test.YtdhfggdmlhgdoaaDequeSteps
import Derived.Test.YtdhfggdmlhgdoaaRefCells
namespace Go.Proofs.Ytdhfggdmlhgdoaa
open Go.RowKit

/-- The document's deque: block d its struct, p and q its memory. -/
structure RDq (w : World) (d p q : Nat) (C : Cfg) (l : List Int) (s : Int) : Prop where
  ne : d ≠ p ∧ d ≠ q
  cap : 1 ≤ C.cap ∧ C.cap ≤ 64
  over : C.over ≤ 4096
  room : C.base + (4 + C.cap + C.over) ≤ l.length
  most : l.length ≤ 65536
  head : w.heap[d]? = some (.cells #[.pointer (some ⟨p, 0, none⟩), .int .i64 C.base, .int .i64 C.cap, .int .i64 C.over] 56)
  mem : Ref w p q l s

/-- What the document's operation holds. -/
structure RO where
  kind : Int
  at_ : Int
  t : Int
  b : Int
  n : Int
  v : Int
  won : Bool
  ended : Bool
  err : Int

def roCells (d : Nat) (r : RO) : Array Value :=
  #[.pointer (some ⟨d, 0, none⟩), .int .i64 r.kind, .int .i64 r.at_, .int .i64 r.t, .int .i64 r.b, .int .i64 r.n, .int .i64 r.v, .bool r.won, .bool r.ended, .int .i64 r.err]
def RB (w : World) (f d : Nat) (r : RO) : Prop := w.heap[f]? = some (.cells (roCells d r) 44)
def RR9 (w : World) (f : Nat) (c : Array Value) : Prop := w.heap[f]? = some (.cells c 44)

section
variable {w : World} {d p q f : Nat} {C : Cfg} {l : List Int} {s : Int} {r : RO}
theorem RDq.c0 (h : RDq w d p q C l s) : w.cell? ⟨d, 0, none⟩ = some (.pointer (some ⟨p, 0, none⟩)) := by rw [cell_of_heap h.head]; rfl
theorem RDq.c1 (h : RDq w d p q C l s) : w.cell? ⟨d, 1, none⟩ = some (.int .i64 C.base) := by rw [cell_of_heap h.head]; rfl
theorem RDq.c2 (h : RDq w d p q C l s) : w.cell? ⟨d, 2, none⟩ = some (.int .i64 C.cap) := by rw [cell_of_heap h.head]; rfl
theorem RDq.c3 (h : RDq w d p q C l s) : w.cell? ⟨d, 3, none⟩ = some (.int .i64 C.over) := by rw [cell_of_heap h.head]; rfl
theorem RDq.ltd (h : RDq w d p q C l s) : d < w.heap.size := lt_of_heap h.head
theorem RDq.turned (h : RDq w d p q C l s) {S : List Nat} {w' : World} (t : Turned S w w') (hd : d ∉ S) (hp : p ∉ S) (hq : q ∉ S) : RDq w' d p q C l s :=
  ⟨h.ne, h.cap, h.over, h.room, h.most, by rw [t.block d h.ltd hd]; exact h.head, h.mem.turned t hp hq⟩
theorem RDq.acc (h : RDq w d p q C l s) {l' : List Int} {s' : Int} {w' : World} (m : Ref w' p q l' s') (hl : l'.length = l.length) (t : Turned [p, q] w w') : RDq w' d p q C l' s' :=
  ⟨h.ne, h.cap, h.over, by rw [hl]; exact h.room, by rw [hl]; exact h.most, by rw [t.block d h.ltd (by have := h.ne; simp [this.1, this.2])]; exact h.head, m⟩
theorem RDq.drew (h : RDq w d p q C l s) : RDq w.drew d p q C l s := h.turned (Turned.refl [] w).drew (by simp) (by simp) (by simp)
theorem RDq.drewN (h : RDq w d p q C l s) (m : Nat) : RDq (w.drewN m) d p q C l s := h.turned ((Turned.refl [] w).drewN m) (by simp) (by simp) (by simp)
theorem RDq.at (h : RDq w d p q C l s) {k : Nat} (hk : k < 4 + C.cap + C.over) : l[C.base + k]? = some (rd C l k) := by
  have h1 : C.base + k < l.length := by have := h.room; omega
  simp [rd, List.getD, h1]
theorem RB.g0 (h : RB w f d r) : w.cell? ⟨f, 0, none⟩ = some (.pointer (some ⟨d, 0, none⟩)) := by rw [cell_of_heap h]; rfl
theorem RB.g1 (h : RB w f d r) : w.cell? ⟨f, 1, none⟩ = some (.int .i64 r.kind) := by rw [cell_of_heap h]; rfl
theorem RB.g2 (h : RB w f d r) : w.cell? ⟨f, 2, none⟩ = some (.int .i64 r.at_) := by rw [cell_of_heap h]; rfl
theorem RB.g3 (h : RB w f d r) : w.cell? ⟨f, 3, none⟩ = some (.int .i64 r.t) := by rw [cell_of_heap h]; rfl
theorem RB.g4 (h : RB w f d r) : w.cell? ⟨f, 4, none⟩ = some (.int .i64 r.b) := by rw [cell_of_heap h]; rfl
theorem RB.g5 (h : RB w f d r) : w.cell? ⟨f, 5, none⟩ = some (.int .i64 r.n) := by rw [cell_of_heap h]; rfl
theorem RB.g6 (h : RB w f d r) : w.cell? ⟨f, 6, none⟩ = some (.int .i64 r.v) := by rw [cell_of_heap h]; rfl
theorem RB.g7 (h : RB w f d r) : w.cell? ⟨f, 7, none⟩ = some (.bool r.won) := by rw [cell_of_heap h]; rfl
theorem RB.g8 (h : RB w f d r) : w.cell? ⟨f, 8, none⟩ = some (.bool r.ended) := by rw [cell_of_heap h]; rfl
theorem RB.g9 (h : RB w f d r) : w.cell? ⟨f, 9, none⟩ = some (.int .i64 r.err) := by rw [cell_of_heap h]; rfl
theorem RB.fz (h : RB w f d r) (i : Nat) : w.frozen? ⟨f, i, none⟩ = false := by
  unfold RB at h
  simp [World.frozen?, h]
theorem RB.lt (h : RB w f d r) : f < w.heap.size := lt_of_heap h
theorem RB.turned (h : RB w f d r) {S : List Nat} {w' : World} (t : Turned S w w') (hb : f ∉ S) : RB w' f d r := by
  unfold RB at *
  rw [t.block f (lt_of_heap h) hb]
  exact h
theorem RR9.set {c : Array Value} (h : RR9 w f c) (i : Nat) (v : Value) : RR9 (w.setCell ⟨f, i, none⟩ v) f (c.setIfInBounds i v) := by
  unfold RR9 at *
  exact heap_setCell_at _ _ _ _ _ _ h v
end

/-- On the way through a step of the document's. -/
structure RS (w0 w : World) (d p q f : Nat) (C : Cfg) (l : List Int) (s : Int) (c : Array Value) : Prop where
  ne : f ≠ d ∧ f ≠ p ∧ f ≠ q
  dq : RDq w d p q C l s
  op : RR9 w f c
  tu : Turned [p, q, f] w0 w
section
variable {w0 w : World} {d p q f : Nat} {C : Cfg} {l : List Int} {s : Int} {c : Array Value} {r : RO}
theorem RS.of (h : RDq w d p q C l s) (ho : RB w f d r) (hne : f ≠ d ∧ f ≠ p ∧ f ≠ q) : RS w w d p q f C l s (roCells d r) := ⟨hne, h, ho, Turned.refl _ _⟩
theorem RS.acc (h : RS w0 w d p q f C l s c) {l' : List Int} {s' : Int} {w' : World} (m : RDq w' d p q C l' s') (t : Turned [p, q] w w') : RS w0 w' d p q f C l' s' c :=
  ⟨h.ne, m, by have e := t.block f (lt_of_heap h.op) (by simp; exact h.ne.2); unfold RR9; rw [e]; exact h.op, h.tu.trans (t.mono (by intro k hk; simp at hk; rcases hk with rfl | rfl <;> simp))⟩
theorem RS.set (h : RS w0 w d p q f C l s c) (i : Nat) (v : Value) : RS w0 (w.setCell ⟨f, i, none⟩ v) d p q f C l s (c.setIfInBounds i v) :=
  ⟨h.ne, h.dq.turned (S := [f]) ((Turned.refl _ _).setCell (by simp) _) (by simp; exact Ne.symm h.ne.1) (by simp; exact Ne.symm h.ne.2.1) (by simp; exact Ne.symm h.ne.2.2), h.op.set i v, h.tu.setCell (by simp) _⟩
theorem RS.drewN (h : RS w0 w d p q f C l s c) (m : Nat) : RS w0 (w.drewN m) d p q f C l s c := ⟨h.ne, h.dq.drewN m, h.op, h.tu.drewN m⟩
theorem RS.drew (h : RS w0 w d p q f C l s c) : RS w0 w.drew d p q f C l s c := ⟨h.ne, h.dq.drew, h.op, h.tu.drew⟩
theorem RS.rb (h : RS w0 w d p q f C l s c) (e : c = roCells d r) : RB w f d r := by subst e; exact h.op
theorem RS.endd (h : RS w0 w d p q f C l s c) {w' : World} {r' : RO} (ho : RB w' f d r') (t : Turned [f] w w') : RS w0 w' d p q f C l s (roCells d r') :=
  ⟨h.ne, h.dq.turned t (by simp; exact Ne.symm h.ne.1) (by simp; exact Ne.symm h.ne.2.1) (by simp; exact Ne.symm h.ne.2.2), ho, h.tu.trans (t.mono (by simp))⟩
theorem RS.fin (h : RS w0 w d p q f C l s c) (e : c = roCells d r) : RDq w d p q C l s ∧ RB w f d r ∧ Turned [p, q, f] w0 w := ⟨h.dq, h.rb e, h.tu⟩
end

section
variable (w : World) (d p q f : Nat) (C : Cfg) (l : List Int) (s : Int) (r : RO)

set_option maxRecDepth 4000 in
theorem roload_any (k : Nat) (hk : k < 4 + C.cap + C.over) (hne : f ≠ d ∧ f ≠ p ∧ f ≠ q) (h : RDq w d p q C l s) (ho : RB w f d r) :
    Calls Try.prog 66 #[.pointer (some ⟨f, 0, none⟩), .int .i64 k] w fun e w' => e = .returned (.int .i64 (rd C l k)) ∧ RDq w' d p q C l (wrap64 (s + 1)) ∧ Turned [p, q] w w' := by
  have h0 := h.c0
  have h1 := h.c1
  have g0 := ho.g0
  have HH := hide h
  have HO := hide ho
  have hb : C.base + k < 65536 := by have := h.room; have := h.most; omega
  have HL : Hid (∀ w', Ref w' p q l s → Calls Try.prog 80 #[.pointer (some ⟨p, 0, none⟩), .int .i64 (IntKind.i64.wrap ((C.base : Int) + k))] w' fun e w2 => e = .returned (.tuple #[.int .i64 (rd C l k), .int .i64 0]) ∧ Ref w2 p q l (wrap64 (s + 1)) ∧ Turned [p, q] w' w2) := fun w' m => by
    rw [show IntKind.i64.wrap ((C.base : Int) + k) = ((C.base + k : Nat) : Int) by rw [IntKind.wrap_i64]; omega]
    exact rload_in p q l s w' (C.base + k) (rd C l k) (h.at hk) m
  generalize rd C l k = x at *
  clear h hk ho
  go_enter Try.func66, Try.ntmps66
  go_wp2_with fail
  go_region_held3 (fun w' => w'.cell? ⟨d, 0, none⟩ = some (.pointer (some ⟨p, 0, none⟩)) ∧ w'.cell? ⟨d, 1, none⟩ = some (.int .i64 C.base) ∧ w'.cell? ⟨f, 0, none⟩ = some (.pointer (some ⟨d, 0, none⟩))) (go_keep)
    (first
      | (go_at_call 80; refine (HL.out _ HH.out.mem.drew).mono ?_; rintro e w1 ⟨rfl, m1, t1⟩; have k1 := HH.out.drew.acc m1 rfl t1; have k2 := k1.c0; have k3 := k1.c1; have k4 := ((HO.out.turned (Turned.refl [] w).drew (by simp)).turned t1 (by simp; exact hne.2)).g0; have HG := hide k1; have HT := hide ((Turned.refl [p, q] w).drew.trans t1); clear HL m1 t1 k1))
  go_wp2_with fail
  go_ret
  exact ⟨rfl, HG.out, HT.out⟩

set_option maxRecDepth 4000 in
theorem rostore_any (k : Nat) (v : Int) (hk : k < 4 + C.cap + C.over) (hne : f ≠ d ∧ f ≠ p ∧ f ≠ q) (h : RDq w d p q C l s) (ho : RB w f d r) :
    Calls Try.prog 67 #[.pointer (some ⟨f, 0, none⟩), .int .i64 k, .int .i64 v] w fun e w' => e = .returned (.tuple #[]) ∧ RDq w' d p q C (wr C l k v) (wrap64 (s + 1)) ∧ Turned [p, q] w w' := by
  have h0 := h.c0
  have h1 := h.c1
  have g0 := ho.g0
  have HH := hide h
  have HO := hide ho
  have hb : C.base + k < 65536 := by have := h.room; have := h.most; omega
  have HL : Hid (∀ w', Ref w' p q l s → Calls Try.prog 81 #[.pointer (some ⟨p, 0, none⟩), .int .i64 (IntKind.i64.wrap ((C.base : Int) + k)), .int .i64 v] w' fun e w2 => e = .returned (.int .i64 0) ∧ Ref w2 p q (wr C l k v) (wrap64 (s + 1)) ∧ Turned [p, q] w' w2) := fun w' m => by
    rw [show IntKind.i64.wrap ((C.base : Int) + k) = ((C.base + k : Nat) : Int) by rw [IntKind.wrap_i64]; omega]
    exact rstore_in p q l s w' (C.base + k) (rd C l k) v (h.at hk) m
  clear h hk ho
  go_enter Try.func67, Try.ntmps67
  go_wp2_with fail
  go_region_held3 (fun w' => w'.cell? ⟨d, 0, none⟩ = some (.pointer (some ⟨p, 0, none⟩)) ∧ w'.cell? ⟨d, 1, none⟩ = some (.int .i64 C.base) ∧ w'.cell? ⟨f, 0, none⟩ = some (.pointer (some ⟨d, 0, none⟩))) (go_keep)
    (first
      | (go_at_call 81; refine (HL.out _ HH.out.mem.drew).mono ?_; rintro e w1 ⟨rfl, m1, t1⟩; have k1 := HH.out.drew.acc m1 (wr_length _ _ _ _) t1; have k2 := k1.c0; have k3 := k1.c1; have k4 := ((HO.out.turned (Turned.refl [] w).drew (by simp)).turned t1 (by simp; exact hne.2)).g0; have HG := hide k1; have HT := hide ((Turned.refl [p, q] w).drew.trans t1); clear HL m1 t1 k1))
  go_wp2_with fail
  refine bodyPost_end (results_none rfl _ _ _) rfl ?_
  exact ⟨rfl, HG.out, HT.out⟩

/-- A swap of the document's memory at a deque's cell. -/
theorem roswap_any (k : Nat) (x v : Int) (hk : k < 4 + C.cap + C.over) (h : RDq w d p q C l s) :
    Calls Try.prog 65 #[.pointer (some ⟨p, 0, none⟩), .int .i64 ((C.base + k : Nat) : Int), .int .i64 x, .int .i64 v] w fun e w' => e = .returned (.tuple #[.bool (decide (rd C l k = x)), .int .i64 0]) ∧ RDq w' d p q C (if rd C l k = x then wr C l k v else l) (wrap64 (s + 1)) ∧ Turned [p, q] w w' := by
  by_cases hx : rd C l k = x
  · subst hx
    simp only [decide_true, if_true]
    refine (rswap_hit p q l s w (C.base + k) (rd C l k) v (h.at hk) h.mem).mono ?_
    rintro e w' ⟨rfl, m, t⟩
    exact ⟨rfl, h.acc m (wr_length _ _ _ _) t, t⟩
  · rw [decide_eq_false hx, if_neg hx]
    refine (rswap_miss p q l s w (C.base + k) (rd C l k) x v (h.at hk) hx h.mem).mono ?_
    rintro e w' ⟨rfl, m, t⟩
    exact ⟨rfl, h.acc m rfl t, t⟩

theorem rslot_any (n : Int) (h : RDq w d p q C l s) (ho : RB w f d r) :
    Calls Try.prog 54 #[.pointer (some ⟨f, 0, none⟩), .int .i64 n] w fun e w' => e = .returned (.int .i64 ((slotOf C n : Nat) : Int)) ∧ w' = w := by
  have h2 := h.c2
  have g0 := ho.g0
  have hc := h.cap
  have hz : ¬ ((C.cap : Int) = 0) := by omega
  have hm1 : ¬ ((C.cap : Int) = -1) := by omega
  have hb := Int.emod_nonneg n (b := (C.cap : Int)) hz
  have hb2 := Int.emod_lt_of_pos n (b := (C.cap : Int)) (by omega)
  have hs : ((slotOf C n : Nat) : Int) = 4 + n % (C.cap : Int) := by unfold slotOf; omega
  have ht : n.tmod (C.cap : Int) = n % (C.cap : Int) - (if n.tmod (C.cap : Int) < 0 then (C.cap : Int) else 0) := by
    have e := Int.tmod_eq_emod (a := n) (b := (C.cap : Int))
    split
    · rename_i hneg
      rw [e] at hneg ⊢
      split at hneg
      · omega
      · rename_i hd
        rw [if_neg hd]
        simp
    · rename_i hneg
      rw [e] at hneg ⊢
      split at hneg
      · rename_i hd
        simp [hd]
      · rename_i hd
        exfalso
        apply hneg
        have : (((C.cap : Int)).natAbs : Int) = C.cap := by omega
        omega
  have HS := hide hs
  have HT := hide ht
  have HB := hide (And.intro hb hb2)
  have HC := hide hc
  clear h hb hb2 hs ht hc ho
  go_enter Try.func54, Try.ntmps54
  go_wp2_with fail
  · go_ret
    have ht := HT.out
    have hb := HB.out
    have hc := HC.out
    rename_i hx
    refine ⟨?_, rfl⟩
    rw [HS.out]
    rw [if_pos hx] at ht
    generalize n.tmod (C.cap : Int) = y at *
    generalize n % (C.cap : Int) = z at *
    show Ending.returned (Value.int .i64 (wrap64 (4 + wrap64 (y + C.cap)))) = _
    rw [w64 (y + (C.cap : Int)) (by omega), w64 _ (by omega), show 4 + (y + (C.cap : Int)) = 4 + z by omega]
  · go_ret
    have ht := HT.out
    have hb := HB.out
    have hc := HC.out
    rename_i hx
    refine ⟨?_, rfl⟩
    rw [HS.out]
    rw [if_neg (by omega)] at ht
    generalize n.tmod (C.cap : Int) = y at *
    generalize n % (C.cap : Int) = z at *
    show Ending.returned (Value.int .i64 (wrap64 (4 + y))) = _
    rw [w64 _ (by omega), show y = z by omega]

theorem rends_any (n : Int) (ho : RB w f d r) :
    Calls Try.prog 68 #[.pointer (some ⟨f, 0, none⟩), .int .i64 n] w fun e w' => e = .returned (.tuple #[]) ∧ RB w' f d { r with ended := true, err := n, v := if n = 0 then r.v else 0 } ∧ Turned [f] w w' := by
  have z8 := ho.fz 8
  have z9 := ho.fz 9
  have z6 := ho.fz 6
  have g8 := ho.g8
  have g9 := ho.g9
  have g6 := ho.g6
  have hr : RR9 w f (roCells d r) := ho
  have h1 := (hr.set 8 (.bool true)).set 9 (.int .i64 n)
  have h2 := h1.set 6 (.int .i64 0)
  have t1 : Turned [f] w ((w.setCell ⟨f, 8, none⟩ (.bool true)).setCell ⟨f, 9, none⟩ (.int .i64 n)) := ((Turned.refl [f] w).setCell (p := ⟨f, 8, none⟩) (by simp) _).setCell (p := ⟨f, 9, none⟩) (by simp) _
  have t2 := t1.setCell (p := ⟨f, 6, none⟩) (by simp) (.int .i64 0)
  by_cases hn : n = 0
  · subst hn
    have HR := hide (show RB _ f d { r with ended := true, err := 0, v := r.v } from h1)
    have HT := hide t1
    clear ho hr h1 h2 t1 t2
    go_enter Try.func68, Try.ntmps68
    go_wp2_with fail
    refine bodyPost_end (results_none rfl _ _ _) rfl ?_
    exact ⟨rfl, HR.out, HT.out⟩
  · have HR := hide (show RB _ f d { r with ended := true, err := n, v := 0 } from h2)
    have HT := hide t2
    rw [if_neg hn]
    clear ho hr h1 h2 t1 t2
    go_enter Try.func68, Try.ntmps68
    go_wp2_with fail
    refine bodyPost_end (results_none rfl _ _ _) rfl ?_
    exact ⟨rfl, HR.out, HT.out⟩
end
end Go.Proofs.Ytdhfggdmlhgdoaa

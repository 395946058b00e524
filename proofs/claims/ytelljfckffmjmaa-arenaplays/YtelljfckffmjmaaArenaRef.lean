/-
  The document's arena ('Rn'), its ask ('RkB') in the model's heap, how an ask of the program and one of the document stand to each other ('RelA'); fills, Retire, Left, New, ends of the document.
-/
import Derived.Test.YtelljfckffmjmaaArenaAlone
import Derived.Test.YtelljfckffmjmaaRefPut
namespace Go.Proofs.Ytelljfckffmjmaa
open Go.RowKit
set_option linter.unusedVariables false

/-- What an ask of the document holds. -/
structure RkS where
  size : Int
  next : Int
  large : Bool
  t : Int
  want : Int
  ended : Bool
  pos : Int
  err : Int

def AStp.code : AStp → Int
  | .begin => 0
  | .readTop => 1
  | .swapTop => 2

/-- Both are at the same step. -/
structure RelA (A : AC) (k : AkS) (r : RkS) : Prop where
  ended : r.ended = k.done
  told : k.done = true → r.pos = k.pos ∧ r.err = k.errno
  next : k.done = false → r.next = k.at_.code
  size : k.done = false → r.size = k.size
  large : k.done = false → k.at_ ≠ .begin → r.large = lg A k.size
  sw : k.done = false → k.at_ = .swapTop → r.t = k.top ∧ r.want = k.wanted

structure Rn (w : World) (m p q : Nat) (A : AC) (l : List Int) (s : Int) : Prop where
  head : w.heap[m]? = some (.cells #[.pointer (some ⟨p, 0, none⟩), .int .i64 A.top, .int .i64 A.to, .int .i64 A.buf] 99)
  cell : A.top < l.length
  til : A.to ≤ l.length
  most : l.length ≤ 65536
  buf : 2 ≤ A.buf ∧ A.buf ≤ 4096
  mem : Ref w p q l s

def BR (T : TypeId) : Prop := T ≠ 99 ∧ T ≠ 53 ∧ T ≠ 2 ∧ T ≠ 62
def rkCells (m D o : Nat) (r : RkS) : Array Value :=
  #[.pointer (some ⟨m, 0, none⟩), .pointer (some ⟨D, o, none⟩), .int .i64 r.size, .int .i64 r.next, .bool r.large, .int .i64 r.t, .int .i64 r.want, .bool r.ended, .int .i64 r.pos, .int .i64 r.err]
def RkG (w : World) (b : Nat) (c : Array Value) : Prop := w.heap[b]? = some (.cells c 53)
def RkB (w : World) (b m D o : Nat) (r : RkS) : Prop := RkG w b (rkCells m D o r)

section
variable {w w' : World} {m p q D b o : Nat} {T : TypeId} {A : AC} {l bl : List Int} {s : Int} {c : Array Value} {r : RkS} {S : List Nat}
theorem Rn.c0 (h : Rn w m p q A l s) : w.cell? ⟨m, 0, none⟩ = some (.pointer (some ⟨p, 0, none⟩)) := by rw [cell_of_heap h.head]; rfl
theorem Rn.c1 (h : Rn w m p q A l s) : w.cell? ⟨m, 1, none⟩ = some (.int .i64 A.top) := by rw [cell_of_heap h.head]; rfl
theorem Rn.c2 (h : Rn w m p q A l s) : w.cell? ⟨m, 2, none⟩ = some (.int .i64 A.to) := by rw [cell_of_heap h.head]; rfl
theorem Rn.c3 (h : Rn w m p q A l s) : w.cell? ⟨m, 3, none⟩ = some (.int .i64 A.buf) := by rw [cell_of_heap h.head]; rfl
theorem Rn.lt (h : Rn w m p q A l s) : m < w.heap.size := lt_of_heap h.head
theorem Rn.mp (h : Rn w m p q A l s) : m ≠ p := ne_of_type h.head h.mem.head (by decide)
theorem Rn.mq (h : Rn w m p q A l s) : m ≠ q := ne_of_type h.head h.mem.row (by decide)
theorem Rn.at (h : Rn w m p q A l s) : l[A.top]? = some (topOf A l) := by simp [topOf, List.getD, h.cell]
theorem Rn.turned (h : Rn w m p q A l s) (t : Turned S w w') (hm : m ∉ S) (hp : p ∉ S) (hq : q ∉ S) : Rn w' m p q A l s :=
  ⟨by rw [t.block m h.lt hm]; exact h.head, h.cell, h.til, h.most, h.buf, h.mem.turned t hp hq⟩
theorem Rn.drewN (h : Rn w m p q A l s) (n : Nat) : Rn (w.drewN n) m p q A l s := h.turned (S := []) ⟨rfl, rfl, rfl, Nat.le_refl _, fun _ _ _ => rfl⟩ (by simp) (by simp) (by simp)
theorem Rn.drew (h : Rn w m p q A l s) : Rn w.drew m p q A l s := h.turned (Turned.refl [] w).drew (by simp) (by simp) (by simp)
theorem Rn.acc (h : Rn w m p q A l s) {l' : List Int} {s' : Int} (hm : Ref w' p q l' s') (hl : l'.length = l.length) (t : Turned [p, q] w w') : Rn w' m p q A l' s' :=
  ⟨by rw [t.block m h.lt (by simp; exact ⟨h.mp, h.mq⟩)]; exact h.head, by rw [hl]; exact h.cell, by rw [hl]; exact h.til, by rw [hl]; exact h.most, h.buf, hm⟩
theorem RkG.f (h : RkG w b c) (i : Nat) : w.cell? ⟨b, i, none⟩ = c[i]? := cell_of_heap h i
theorem RkG.fz (h : RkG w b c) (i : Nat) : w.frozen? ⟨b, i, none⟩ = false := by unfold RkG at h; simp [World.frozen?, h]
theorem RkG.lt (h : RkG w b c) : b < w.heap.size := lt_of_heap h
theorem RkG.turned (h : RkG w b c) (t : Turned S w w') (hb : b ∉ S) : RkG w' b c := by
  unfold RkG at *
  rw [t.block b (lt_of_heap h) hb]
  exact h
theorem RkG.set (h : RkG w b c) (i : Nat) (x : Value) : RkG (w.setCell ⟨b, i, none⟩ x) b (c.setIfInBounds i x) := by
  unfold RkG at *
  exact heap_setCell_at _ _ _ _ _ _ h x
end

/-- On the way: the arena and the buffers. -/
structure Rb (w0 w : World) (m p q D : Nat) (T : TypeId) (A : AC) (l bl : List Int) (s : Int) : Prop where
  ar : Rn w m p q A l s
  bf : Bf w D T bl
  bt : BR T
  tu : Turned [p, q, D] w0 w
/-- On the way through a step: the ask too. -/
structure Rs (w0 w : World) (m p q D b : Nat) (T : TypeId) (A : AC) (l bl : List Int) (s : Int) (c : Array Value) : Prop where
  ar : Rn w m p q A l s
  bf : Bf w D T bl
  bt : BR T
  ak : RkG w b c
  tu : Turned [p, q, D, b] w0 w

section
variable {w0 w w' : World} {m p q D b o : Nat} {T : TypeId} {A : AC} {l bl : List Int} {s : Int} {c : Array Value} {r : RkS} {S : List Nat}
theorem Rb.nB (h : Rb w0 w m p q D T A l bl s) : D ≠ m ∧ D ≠ p ∧ D ≠ q :=
  ⟨ne_of_type h.bf h.ar.head h.bt.1, ne_of_type h.bf h.ar.mem.head h.bt.2.2.2, ne_of_type h.bf h.ar.mem.row h.bt.2.2.1⟩
theorem Rb.acc (h : Rb w0 w m p q D T A l bl s) {l' : List Int} {s' : Int} (hm : Ref w' p q l' s') (hl : l'.length = l.length) (t : Turned [p, q] w w') : Rb w0 w' m p q D T A l' bl s' :=
  ⟨h.ar.acc hm hl t, h.bf.turned t (by simp; exact h.nB.2), h.bt, h.tu.trans (t.mono (by intro k hk; simp at hk; rcases hk with rfl | rfl <;> simp))⟩
theorem Rb.put (h : Rb w0 w m p q D T A l bl s) (i : Nat) (x : Int) : Rb w0 (w.setCell ⟨D, i, none⟩ (.int .i64 x)) m p q D T A l (bl.set i x) s := by
  have t : Turned [D] w (w.setCell ⟨D, i, none⟩ (.int .i64 x)) := (Turned.refl _ _).setCell (by simp) _
  exact ⟨h.ar.turned t (by simp; exact Ne.symm h.nB.1) (by simp; exact Ne.symm h.nB.2.1) (by simp; exact Ne.symm h.nB.2.2), h.bf.set i x, h.bt, h.tu.setCell (by simp) _⟩
theorem Rb.drew (h : Rb w0 w m p q D T A l bl s) : Rb w0 w.drew m p q D T A l bl s := ⟨h.ar.drew, h.bf, h.bt, h.tu.drew⟩
theorem Rb.drewN (h : Rb w0 w m p q D T A l bl s) (n : Nat) : Rb w0 (w.drewN n) m p q D T A l bl s := ⟨h.ar.drewN n, h.bf, h.bt, h.tu.drewN n⟩

theorem Rs.nB (h : Rs w0 w m p q D b T A l bl s c) : D ≠ m ∧ D ≠ p ∧ D ≠ q ∧ D ≠ b :=
  ⟨ne_of_type h.bf h.ar.head h.bt.1, ne_of_type h.bf h.ar.mem.head h.bt.2.2.2, ne_of_type h.bf h.ar.mem.row h.bt.2.2.1, ne_of_type h.bf h.ak h.bt.2.1⟩
theorem Rs.nb (h : Rs w0 w m p q D b T A l bl s c) : b ≠ m ∧ b ≠ p ∧ b ≠ q :=
  ⟨ne_of_type h.ak h.ar.head (by decide), ne_of_type h.ak h.ar.mem.head (by decide), ne_of_type h.ak h.ar.mem.row (by decide)⟩
theorem Rs.acc (h : Rs w0 w m p q D b T A l bl s c) {l' : List Int} {s' : Int} (hm : Ref w' p q l' s') (hl : l'.length = l.length) (t : Turned [p, q] w w') : Rs w0 w' m p q D b T A l' bl s' c :=
  ⟨h.ar.acc hm hl t, h.bf.turned t (by simp; exact ⟨h.nB.2.1, h.nB.2.2.1⟩), h.bt, h.ak.turned t (by simp; exact h.nb.2), h.tu.trans (t.mono (by intro k hk; simp at hk; rcases hk with rfl | rfl <;> simp))⟩
theorem Rs.set (h : Rs w0 w m p q D b T A l bl s c) (i : Nat) (x : Value) : Rs w0 (w.setCell ⟨b, i, none⟩ x) m p q D b T A l bl s (c.setIfInBounds i x) := by
  have t : Turned [b] w (w.setCell ⟨b, i, none⟩ x) := (Turned.refl _ _).setCell (by simp) _
  exact ⟨h.ar.turned t (by simp; exact Ne.symm h.nb.1) (by simp; exact Ne.symm h.nb.2.1) (by simp; exact Ne.symm h.nb.2.2), h.bf.turned t (by simp; exact h.nB.2.2.2), h.bt, h.ak.set i x, h.tu.setCell (by simp) _⟩
theorem Rs.put (h : Rs w0 w m p q D b T A l bl s c) (i : Nat) (x : Int) : Rs w0 (w.setCell ⟨D, i, none⟩ (.int .i64 x)) m p q D b T A l (bl.set i x) s c := by
  have t : Turned [D] w (w.setCell ⟨D, i, none⟩ (.int .i64 x)) := (Turned.refl _ _).setCell (by simp) _
  exact ⟨h.ar.turned t (by simp; exact Ne.symm h.nB.1) (by simp; exact Ne.symm h.nB.2.1) (by simp; exact Ne.symm h.nB.2.2.1), h.bf.set i x, h.bt, h.ak.turned t (by simp; exact Ne.symm h.nB.2.2.2), h.tu.setCell (by simp) _⟩
theorem Rs.drew (h : Rs w0 w m p q D b T A l bl s c) : Rs w0 w.drew m p q D b T A l bl s c := ⟨h.ar.drew, h.bf, h.bt, h.ak, h.tu.drew⟩
theorem Rs.drewN (h : Rs w0 w m p q D b T A l bl s c) (n : Nat) : Rs w0 (w.drewN n) m p q D b T A l bl s c := ⟨h.ar.drewN n, h.bf, h.bt, h.ak, h.tu.drewN n⟩
theorem Rs.askd (h : Rs w0 w m p q D b T A l bl s c) {c' : Array Value} (t : Turned [b] w w') (hk : RkG w' b c') : Rs w0 w' m p q D b T A l bl s c' :=
  ⟨h.ar.turned t (by simp; exact Ne.symm h.nb.1) (by simp; exact Ne.symm h.nb.2.1) (by simp; exact Ne.symm h.nb.2.2), h.bf.turned t (by simp; exact h.nB.2.2.2), h.bt, hk, h.tu.trans (t.mono (by simp))⟩
theorem Rs.filled {l' bl' : List Int} {s' : Int} (h : Rs w0 w m p q D b T A l bl s c) (g : Rb w w' m p q D T A l' bl' s') : Rs w0 w' m p q D b T A l' bl' s' c :=
  ⟨g.ar, g.bf, g.bt, h.ak.turned g.tu (by simp; exact ⟨h.nb.2.1, h.nb.2.2, Ne.symm h.nB.2.2.2⟩), h.tu.trans (g.tu.mono (by intro k hk; simp at hk; rcases hk with rfl | rfl | rfl <;> simp))⟩
theorem Rs.rb (h : Rs w0 w m p q D b T A l bl s c) : Rb w w m p q D T A l bl s := ⟨h.ar, h.bf, h.bt, Turned.refl _ _⟩
end

section
variable (w : World) (m p q D b o : Nat) (T : TypeId) (A : AC) (l bl : List Int) (s : Int)

theorem rends_any (r : RkS) (c : Array Value) (x n : Int) (hc : c = rkCells m D o r) (h : RkG w b c) :
    Calls Try.prog 39 #[.pointer (some ⟨b, 0, none⟩), .int .i64 x, .int .i64 n] w fun e w' => e = .returned (.tuple #[]) ∧ RkB w' b m D o { r with ended := true, pos := x, err := n } ∧ Turned [b] w w' := by
  subst hc
  have z7 := h.fz 7
  have z8 := h.fz 8
  have z9 := h.fz 9
  have f7 := h.f 7
  have f8 := h.f 8
  have f9 := h.f 9
  simp only [rkCells] at f7 f8 f9
  have HR := hide (show RkB _ b m D o { r with ended := true, pos := x, err := n } from ((h.set 7 (.bool true)).set 8 (.int .i64 x)).set 9 (.int .i64 n))
  have HT := hide ((((Turned.refl [b] w).setCell (p := ⟨b, 7, none⟩) (by simp) (.bool true)).setCell (p := ⟨b, 8, none⟩) (by simp) (.int .i64 x)).setCell (p := ⟨b, 9, none⟩) (by simp) (.int .i64 n))
  clear h
  go_enter Try.func39, Try.ntmps39
  go_wp2_with fail
  refine bodyPost_end (results_none rfl _ _ _) rfl ?_
  exact ⟨rfl, HR.out, HT.out⟩

set_option maxRecDepth 4000 in
theorem fills_any (f t : Int) (hf : 0 ≤ f ∧ f < t ∧ t ≤ l.length) (h0 : bl[o]? = some f) (h1 : bl[o + 1]? = some t) (h : Rb w w m p q D T A l bl s) :
    Calls Try.prog 38 #[.pointer (some ⟨m, 0, none⟩), .pointer (some ⟨D, o, none⟩)] w fun e w' => e = .returned (.tuple #[]) ∧ Rb w w' m p q D T A (l.set f.toNat (headOf 0 (t - f - 1))) ((bl.set o 0).set (o + 1) 0) (wrap64 (s + 1)) := by
  have hm := h.ar.most
  have c0 := h.ar.c0
  have f0 := h.bf.at h0
  have f1 := h.bf.at h1
  have HH := hide (fun w' => rheader_any 0 (t - f - 1) w')
  obtain ⟨n, rfl⟩ : ∃ n : Nat, f = n := ⟨f.toNat, by omega⟩
  have hn : n < l.length := by omega
  have HS := hide (fun w' (h' : Rb w w' m p q D T A l bl s) => rstore_in p q l s w' n (l.getD n 0) (headOf 0 (t - n - 1)) (by simp [List.getD, hn]) h'.ar.mem)
  have HN := hide (show (l.set n (headOf 0 (t - n - 1))).length = l.length by simp)
  rw [show ((n : Int)).toNat = n by omega]
  generalize l.set n (headOf 0 (t - n - 1)) = l2 at *
  generalize headOf 0 (t - n - 1) = hd at *
  have H0 := hide h
  have HB0 := hide h0
  have HB1 := hide h1
  have ht : (n : Int) < t ∧ t ≤ 65536 := by omega
  clear h h0 h1 hf hm hn
  go_enter Try.func38, Try.ntmps38
  go_wp2_with fail
  have e1 : IntKind.i64.wrap (t - n) = t - n := by rw [IntKind.wrap_i64]; omega
  have e2 : IntKind.i64.wrap (t - n - 1) = t - n - 1 := by rw [IntKind.wrap_i64]; omega
  go_region_held3 (fun w' => w'.cell? ⟨m, 0, none⟩ = some (.pointer (some ⟨p, 0, none⟩)) ∧ w'.cell? ⟨D, o, none⟩ = some (.int .i64 n) ∧ w'.cell? ⟨D, o + 1, none⟩ = some (.int .i64 t)) (go_keep)
    (first
      | (go_at_call 26; refine (HH.out _).mono ?_; rintro e w2 ⟨rfl, hw2⟩; have H2 := hide (show Rb w w2 m p q D T A l bl s by rw [hw2]; exact H0.out.drew); have k2 := H2.out.ar.c0; have k3 := H2.out.bf.at HB0.out; have k4 := H2.out.bf.at HB1.out; clear hw2 HH)
      | (go_at_call 55; refine (HS.out _ H2.out).mono ?_; rintro e w3 ⟨rfl, m3, t3⟩; have H3 := hide (H2.out.acc m3 HN.out t3); have j2 := H3.out.ar.c0; have j3 := H3.out.bf.at HB0.out; have j4 := H3.out.bf.at HB1.out; clear m3 t3 HS))
  have z0 := H3.out.bf.fz o
  have z1 := H3.out.bf.fz (o + 1)
  have HF := hide ((H3.out.put o 0).put (o + 1) 0)
  clear c0 f0 f1 H0 H2 H3 k2 k3 k4 e1 e2 HN j2
  go_wp2_with fail
  first | refine bodyPost_end (results_none rfl _ _ _) rfl ?_ | refine bodyPost_ret (results_none rfl _ _ _) rfl ?_
  exact ⟨rfl, HF.out⟩

theorem rretire_any (f t : Int) (hf : 0 ≤ f ∧ f < t ∧ t ≤ l.length) (h0 : bl[o]? = some f) (h1 : bl[o + 1]? = some t) (h : Rb w w m p q D T A l bl s) :
    Calls Try.prog 17 #[.pointer (some ⟨m, 0, none⟩), .pointer (some ⟨D, o, none⟩)] w fun e w' => e = .returned (.bool true) ∧ Rb w w' m p q D T A (l.set f.toNat (headOf 0 (t - f - 1))) ((bl.set o 0).set (o + 1) 0) (wrap64 (s + 1)) := by
  have HF := hide (fun k => fills_any (w.drewN k) m p q D o T A l bl s f t hf h0 h1 ⟨h.ar.drewN k, h.bf, h.bt, Turned.refl _ _⟩)
  have f0 := h.bf.at h0
  have f1 := h.bf.at h1
  have hft : ¬ (t ≤ f) := by omega
  clear h hf h0 h1
  go_enter Try.func17, Try.ntmps17
  go_wp2_with fail
  go_quiet (fail)
  go_wp2_with fail
  refine (HF.out _).mono ?_
  rintro e w3 ⟨rfl, h3⟩
  have H3 := hide h3
  clear h3 HF
  go_wp2_with fail
  go_ret
  exact ⟨rfl, H3.out.ar, H3.out.bf, H3.out.bt, ((Turned.refl _ w).drewN _).trans H3.out.tu⟩
theorem rretire_none (f : Int) (h0 : bl[o]? = some f) (h1 : bl[o + 1]? = some f) (h : Rb w w m p q D T A l bl s) :
    Calls Try.prog 17 #[.pointer (some ⟨m, 0, none⟩), .pointer (some ⟨D, o, none⟩)] w fun e w' => e = .returned (.bool false) ∧ ∃ k, w' = w.drewN k := by
  have f0 := h.bf.at h0
  have f1 := h.bf.at h1
  clear h h0 h1
  go_enter Try.func17, Try.ntmps17
  go_wp2_with fail
  go_quiet (fail)
  go_wp2_with fail
  go_ret
  exact ⟨rfl, _, rfl⟩

theorem rleft_any (h : Rn w m p q A l s) :
    Calls Try.prog 24 #[.pointer (some ⟨m, 0, none⟩)] w fun e w' => e = .returned (.int .i64 (aboveOf A (topOf A l))) ∧ ∃ k, w' = w.drewN k := by
  have c0 := h.c0
  have c1 := h.c1
  have c2 := h.c2
  have r0 := h.mem.c0
  have rw_ := h.mem.word h.at
  have hm : A.to ≤ 65536 := Nat.le_trans h.til h.most
  have hc := h.cell
  have HE : Hid (aboveOf A (topOf A l) = if topOf A l < 0 ∨ (A.to : Int) < topOf A l then 0 else A.to - topOf A l) := rfl
  generalize aboveOf A (topOf A l) = y at *
  generalize topOf A l = t at *
  have hl : A.top < l.length ∧ l.length ≤ 65536 := ⟨h.cell, h.most⟩
  clear h
  generalize l.length = n at *
  go_enter Try.func24, Try.ntmps24
  go_wp2_with fail
  go_quiet (fail)
  go_wp2_with fail
  all_goals (
    go_ret
    refine ⟨?_, _, rfl⟩
    have e := HE.out
    first
      | (rw [if_pos (by omega)] at e; subst e; rfl)
      | (rw [if_neg (by omega)] at e; subst e; rfl))
end
end Go.Proofs.Ytelljfckffmjmaa

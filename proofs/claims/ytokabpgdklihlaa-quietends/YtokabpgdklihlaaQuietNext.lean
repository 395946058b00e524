/-
  The crew of the law QuietEnds in the model's heap ('Cw'), a worker's cells ('WkR'), what is in its hands ('Hd'), and the walks of 'next'.
-/
import Derived.Test.YtokabpgdklihlaaQuietCrew
namespace Go.Proofs.Ytokabpgdklihlaa
open Go.RowKit

/-- What lies in hands (a slice with an offset): g its block, if it has one. -/
def Hd (w : World) (v : Value) (T : List Int) (g : List Nat) : Prop :=
  (v = .slice none 0 0 ∧ T = [] ∧ g = []) ∨ ∃ b off cap c, g = [b] ∧ v = .slice (some ⟨b, off, none⟩) T.length cap ∧ w.heap[b]? = some (.cells c 2 (0, 0)) ∧ T.length ≤ cap ∧ off + cap ≤ c.size ∧ ∀ (i : Nat) x, T[i]? = some x → w.cell? ⟨b, off + i, none⟩ = some (.int .i64 x)

theorem Hd.turned {w w' : World} {v : Value} {T : List Int} {g : List Nat} (h : Hd w v T g) {S : List Nat} (t : Turned S w w') (hS : ∀ k, k ∈ g → k ∉ S) : Hd w' v T g := by
  rcases h with h | ⟨b, off, cap, c, rfl, h1, h3, h4, h5, h6⟩
  · exact .inl h
  · have hg : b ∉ S := hS b (by simp)
    exact .inr ⟨b, off, cap, c, rfl, h1, by rw [t.block b (lt_of_heap h3) hg]; exact h3, h4, h5, fun i x hx => by rw [t.cell (p := ⟨b, off + i, none⟩) (lt_of_heap h3) hg]; exact h6 i x hx⟩

/-- A worker's cells. -/
def wkCells (hv : Value) (po : Option Addr) (kd : Int) (pf : Option Addr) (en : Bool) : Array Value := #[hv, .pointer po, .int .i64 kd, .pointer pf, .bool en]
def WkR (w : World) (b : Nat) (c : Array Value) : Prop := w.heap[b]? = some (.cells c 44)

/-- The crew: block C, its rows gw (workers) and gd (deques), the count a. -/
structure Cw (w : World) (C gw gd a : Nat) (ws ds : List Nat) (dn : Int) : Prop where
  head : ∃ cw cd, w.heap[C]? = some (.cells #[.slice (some ⟨gw, 0, none⟩) ws.length cw, .slice (some ⟨gd, 0, none⟩) ds.length cd, .pointer (some ⟨a, 0, none⟩), .int .i64 dn] 35)
  len : ws.length = ds.length ∧ 1 ≤ ds.length ∧ ds.length ≤ 4
  rw_ : ∃ cc fr, w.heap[gw]? = some (.cells cc 39 fr)
  rd_ : ∃ cc fr, w.heap[gd]? = some (.cells cc 36 fr)
  w_ : ∀ (i x : Nat), ws[i]? = some x → w.cell? ⟨gw, i, none⟩ = some (.pointer (some ⟨x, 0, none⟩))
  d_ : ∀ (i x : Nat), ds[i]? = some x → w.cell? ⟨gd, i, none⟩ = some (.pointer (some ⟨x, 0, none⟩))

section
variable {w w' : World} {C gw gd a b : Nat} {ws ds : List Nat} {dn : Int} {c : Array Value}
theorem WkR.f (h : WkR w b c) (i : Nat) : w.cell? ⟨b, i, none⟩ = c[i]? := cell_of_heap h i
theorem WkR.fz (h : WkR w b c) (i : Nat) : w.frozen? ⟨b, i, none⟩ = false := by unfold WkR at h; simp [World.frozen?, h]
theorem WkR.lt (h : WkR w b c) : b < w.heap.size := lt_of_heap h
theorem WkR.set (h : WkR w b c) (i : Nat) (v : Value) : WkR (w.setCell ⟨b, i, none⟩ v) b (c.setIfInBounds i v) := by
  unfold WkR at *
  exact heap_setCell_at _ _ _ _ _ _ h v
theorem WkR.turned (h : WkR w b c) {S : List Nat} (t : Turned S w w') (hb : b ∉ S) : WkR w' b c := by
  unfold WkR at *
  rw [t.block b (lt_of_heap h) hb]
  exact h
theorem Cw.turned (h : Cw w C gw gd a ws ds dn) {S : List Nat} (t : Turned S w w') (hC : C ∉ S) (hw : gw ∉ S) (hd : gd ∉ S) : Cw w' C gw gd a ws ds dn := by
  obtain ⟨⟨cw, cd, h1⟩, h2, ⟨c3, f3, h3⟩, ⟨c4, f4, h4⟩, h5, h6⟩ := h
  exact ⟨⟨cw, cd, by rw [t.block C (lt_of_heap h1) hC]; exact h1⟩, h2, ⟨c3, f3, by rw [t.block gw (lt_of_heap h3) hw]; exact h3⟩, ⟨c4, f4, by rw [t.block gd (lt_of_heap h4) hd]; exact h4⟩,
    fun i x hx => by rw [t.cell (p := ⟨gw, i, none⟩) (lt_of_heap h3) hw]; exact h5 i x hx, fun i x hx => by rw [t.cell (p := ⟨gd, i, none⟩) (lt_of_heap h4) hd]; exact h6 i x hx⟩
/-- A worker's block is none of the crew's. -/
theorem Cw.ne (h : Cw w C gw gd a ws ds dn) (hb : WkR w b c) : C ≠ b ∧ gw ≠ b ∧ gd ≠ b := by
  obtain ⟨⟨cw, cd, h1⟩, h2, ⟨c3, f3, h3⟩, ⟨c4, f4, h4⟩, h5, h6⟩ := h
  exact ⟨ne_of_type h1 hb (by decide), ne_of_type h3 hb (by decide), ne_of_type h4 hb (by decide)⟩
theorem Cw.turnedb (h : Cw w C gw gd a ws ds dn) (hb : WkR w b c) (t : Turned [b] w w') : Cw w' C gw gd a ws ds dn := by
  have := h.ne hb
  exact h.turned t (by simp; exact this.1) (by simp; exact this.2.1) (by simp; exact this.2.2)
end

section
variable (w : World) (C gw gd a p q b d k : Nat) (ws ds : List Nat) (Cf : Cfg) (l : List Int) (s dn : Int)

set_option maxHeartbeats 2000000 in
set_option maxRecDepth 100000 in
theorem cnext_pop (after : Int) (ho : Option Addr) (cap : Nat) (po : Option Addr) (kd : Int) (pf : Option Addr) (en : Bool) (hk : ws[k]? = some b) (hdk : ds[k]? = some d) (hC : Cw w C gw gd a ws ds dn) (hb : WkR w b (wkCells (.slice ho 0 cap) po kd pf en)) (hd : Dq w d p q Cf l s) (ha : after < 1) :
    Calls Try.prog 23 #[.pointer (some ⟨C, 0, none⟩), .int .i64 k, .int .i64 after] w fun e w' => e = .returned (.tuple #[]) ∧ ∃ o, w.heap.size ≤ o ∧ WkR w' b (wkCells (.slice ho 0 cap) (some ⟨o, 0, none⟩) 1 none en) ∧ OpB w' o d (opNew .popReadBottom 0) ∧ Turned [b] w w' := by
  have hne := hC.ne hb
  obtain ⟨n1, n2, n3⟩ := hne
  have hkl : k < ws.length := (List.getElem?_eq_some_iff.1 hk).1
  have hdl : k < ds.length := (List.getElem?_eq_some_iff.1 hdk).1
  have hlen := hC.len
  have kw := hC.w_ k b hk
  have kd' := hC.d_ k d hdk
  obtain ⟨cw, cd, hh⟩ := hC.head
  have c0 : w.cell? ⟨C, 0, none⟩ = some (.slice (some ⟨gw, 0, none⟩) ws.length cw) := by rw [cell_of_heap hh]; rfl
  have c1 : w.cell? ⟨C, 1, none⟩ = some (.slice (some ⟨gd, 0, none⟩) ds.length cd) := by rw [cell_of_heap hh]; rfl
  have z1 := hb.fz 1
  have z2 := hb.fz 2
  have z3 := hb.fz 3
  have f0 := hb.f 0
  have f1 := hb.f 1
  have f2 := hb.f 2
  have f3 := hb.f 3
  simp only [wkCells] at f0 f1 f2 f3
  have hw4 : ws.length ≤ 4 := by omega
  have hd4 := hlen.2.2
  have HN : Hid (d ≠ b ∧ p ≠ b ∧ q ≠ b) := ⟨ne_of_type hd.head hb (by decide), ne_of_type hd.mem.head hb (by decide), ne_of_type hd.mem.row hb (by decide)⟩
  have HC := hide hC
  have HB := hide hb
  have HD := hide hd
  generalize ws.length = m at c0 hkl hw4
  generalize ds.length = m2 at c1 hdl hd4
  clear hC hb hd hh hlen hk hdk
  go_enter Try.func23, Try.ntmps23
  go_wp2_with fail
  have T3 : Turned [b] w (((w.setCell ⟨b, 1, none⟩ (.pointer none)).setCell ⟨b, 3, none⟩ (.pointer none)).setCell ⟨b, 2, none⟩ (.int .i64 1)) := (((Turned.refl [b] w).setCell (by simp) _).setCell (by simp) _).setCell (by simp) _
  have HB3 : Hid (WkR (((w.setCell ⟨b, 1, none⟩ (.pointer none)).setCell ⟨b, 3, none⟩ (.pointer none)).setCell ⟨b, 2, none⟩ (.int .i64 1)) b (wkCells (.slice ho 0 cap) none 1 none en)) := ((HB.out.set 1 _).set 3 _).set 2 _
  have HD3 := hide (HD.out.turned T3 (by simp; exact HN.out.1) (by simp; exact HN.out.2.1) (by simp; exact HN.out.2.2))
  have HT3 := hide T3
  clear T3 HB HD HC f0 f1 f2 f3 z1 z2 z3 c0 c1 kw kd'
  generalize ((w.setCell ⟨b, 1, none⟩ (.pointer none)).setCell ⟨b, 3, none⟩ (.pointer none)).setCell ⟨b, 2, none⟩ (.int .i64 1) = w3 at *
  refine (pop_any w3 d p q Cf l s HD3.out).mono ?_
  rintro e w4 ⟨rfl, _, h2, h3, _⟩
  have HB4 := hide (HB3.out.turned h3 (by simp))
  have y1 := HB4.out.fz 1
  have g1 := HB4.out.f 1
  simp only [wkCells] at g1
  have HO := hide h2
  have HT4 := hide (HT3.out.trans_new h3 (by simp))
  have HS := hide (And.intro HT3.out.size HB3.out.lt)
  clear HB3 HD3 HT3 h2 h3
  generalize w3.heap.size = o at *
  go_wp2_with fail
  first | refine bodyPost_end (results_none rfl _ _ _) rfl ?_ | refine bodyPost_ret (results_none rfl _ _ _) rfl ?_
  have hob := HS.out
  exact ⟨rfl, o, hob.1, HB4.out.set 1 _, HO.out.turned (S := [b]) ((Turned.refl _ _).setCell (by simp) _) (by simp; omega), HT4.out.setCell (by simp) _⟩

set_option maxHeartbeats 2000000 in
set_option maxRecDepth 100000 in
theorem cnext_steal (j : Nat) (ho : Option Addr) (cap : Nat) (po : Option Addr) (kd : Int) (pf : Option Addr) (en : Bool) (hk : ws[k]? = some b) (hdk : ds[j]? = some d) (hC : Cw w C gw gd a ws ds dn) (hb : WkR w b (wkCells (.slice ho 0 cap) po kd pf en)) (hd : Dq w d p q Cf l s) :
    Calls Try.prog 23 #[.pointer (some ⟨C, 0, none⟩), .int .i64 k, .int .i64 ((j : Int) + 1)] w fun e w' => e = .returned (.tuple #[]) ∧ ∃ o, w.heap.size ≤ o ∧ WkR w' b (wkCells (.slice ho 0 cap) (some ⟨o, 0, none⟩) ((j : Int) + 1 + 1) none en) ∧ OpB w' o d (opNew .stealReadTop 0) ∧ Turned [b] w w' := by
  have hne := hC.ne hb
  obtain ⟨n1, n2, n3⟩ := hne
  have hkl : k < ws.length := (List.getElem?_eq_some_iff.1 hk).1
  have hdl : j < ds.length := (List.getElem?_eq_some_iff.1 hdk).1
  have hlen := hC.len
  have kw := hC.w_ k b hk
  have kd' := hC.d_ j d hdk
  obtain ⟨cw, cd, hh⟩ := hC.head
  have c0 : w.cell? ⟨C, 0, none⟩ = some (.slice (some ⟨gw, 0, none⟩) ws.length cw) := by rw [cell_of_heap hh]; rfl
  have c1 : w.cell? ⟨C, 1, none⟩ = some (.slice (some ⟨gd, 0, none⟩) ds.length cd) := by rw [cell_of_heap hh]; rfl
  have z1 := hb.fz 1
  have z2 := hb.fz 2
  have z3 := hb.fz 3
  have f0 := hb.f 0
  have f1 := hb.f 1
  have f2 := hb.f 2
  have f3 := hb.f 3
  simp only [wkCells] at f0 f1 f2 f3
  have hw4 : ws.length ≤ 4 := by omega
  have hd4 := hlen.2.2
  have HN : Hid (d ≠ b ∧ p ≠ b ∧ q ≠ b) := ⟨ne_of_type hd.head hb (by decide), ne_of_type hd.mem.head hb (by decide), ne_of_type hd.mem.row hb (by decide)⟩
  have HC := hide hC
  have HB := hide hb
  have HD := hide hd
  generalize ws.length = m at c0 hkl hw4
  generalize ds.length = m2 at c1 hdl hd4
  have a1 : ¬ ((j : Int) + 1 < 1) := by omega
  have a2 : wrap64 ((j : Int) + 1 - 1) = (j : Int) := by rw [w64 _ (by omega)]; omega
  have a3 : wrap64 ((j : Int) + 1 + 1) = (j : Int) + 1 + 1 := w64 _ (by omega)
  have a4 : (j : Int) < (m2 : Int) := by omega
  clear hC hb hd hh hlen hk hdk
  go_enter Try.func23, Try.ntmps23
  go_wp2_with fail
  have T3 : Turned [b] w (((w.setCell ⟨b, 1, none⟩ (.pointer none)).setCell ⟨b, 3, none⟩ (.pointer none)).setCell ⟨b, 2, none⟩ (.int .i64 ((j : Int) + 1 + 1))) := (((Turned.refl [b] w).setCell (by simp) _).setCell (by simp) _).setCell (by simp) _
  have HB3 : Hid (WkR (((w.setCell ⟨b, 1, none⟩ (.pointer none)).setCell ⟨b, 3, none⟩ (.pointer none)).setCell ⟨b, 2, none⟩ (.int .i64 ((j : Int) + 1 + 1))) b (wkCells (.slice ho 0 cap) none ((j : Int) + 1 + 1) none en)) := ((HB.out.set 1 _).set 3 _).set 2 _
  have HD3 := hide (HD.out.turned T3 (by simp; exact HN.out.1) (by simp; exact HN.out.2.1) (by simp; exact HN.out.2.2))
  have HT3 := hide T3
  clear T3 HB HD HC f0 f1 f2 f3 z1 z2 z3 c0 c1 kw kd'
  generalize ((w.setCell ⟨b, 1, none⟩ (.pointer none)).setCell ⟨b, 3, none⟩ (.pointer none)).setCell ⟨b, 2, none⟩ (.int .i64 ((j : Int) + 1 + 1)) = w3 at *
  refine (steal_any w3 d p q Cf l s HD3.out).mono ?_
  rintro e w4 ⟨rfl, _, h2, h3, _⟩
  have HB4 := hide (HB3.out.turned h3 (by simp))
  have y1 := HB4.out.fz 1
  have g1 := HB4.out.f 1
  simp only [wkCells] at g1
  have HO := hide h2
  have HT4 := hide (HT3.out.trans_new h3 (by simp))
  have HS := hide (And.intro HT3.out.size HB3.out.lt)
  clear HB3 HD3 HT3 h2 h3
  generalize w3.heap.size = o at *
  go_wp2_with fail
  first | refine bodyPost_end (results_none rfl _ _ _) rfl ?_ | refine bodyPost_ret (results_none rfl _ _ _) rfl ?_
  have hob := HS.out
  exact ⟨rfl, o, hob.1, HB4.out.set 1 _, HO.out.turned (S := [b]) ((Turned.refl _ _).setCell (by simp) _) (by simp; omega), HT4.out.setCell (by simp) _⟩

set_option maxHeartbeats 4000000 in
set_option maxRecDepth 100000 in
theorem cnext_offer (Q : QC) (after : Int) (ho : Option Addr) (cap : Nat) (po : Option Addr) (kd : Int) (pf : Option Addr) (en : Bool) (hk : ws[k]? = some b) (hC : Cw w C gw gd a ws ds dn) (hb : WkR w b (wkCells (.slice ho 0 cap) po kd pf en)) (hs : Sh w a p q ds Q l s) (ha : (ds.length : Int) < after) (ha2 : after ≤ 100) :
    Calls Try.prog 23 #[.pointer (some ⟨C, 0, none⟩), .int .i64 k, .int .i64 after] w fun e w' => e = .returned (.tuple #[]) ∧ ∃ o, w.heap.size ≤ o ∧ WkR w' b (wkCells (.slice ho 0 cap) none kd (some ⟨o, 0, none⟩) en) ∧ OfB w' o a ds ofNew ∧ Turned [b] w w' := by
  have hne := hC.ne hb
  obtain ⟨n1, n2, n3⟩ := hne
  have hkl : k < ws.length := (List.getElem?_eq_some_iff.1 hk).1
  have hlen := hC.len
  have kw := hC.w_ k b hk
  obtain ⟨cw, cd, hh⟩ := hC.head
  have c0 : w.cell? ⟨C, 0, none⟩ = some (.slice (some ⟨gw, 0, none⟩) ws.length cw) := by rw [cell_of_heap hh]; rfl
  have c1 : w.cell? ⟨C, 1, none⟩ = some (.slice (some ⟨gd, 0, none⟩) ds.length cd) := by rw [cell_of_heap hh]; rfl
  have c2 : w.cell? ⟨C, 2, none⟩ = some (.pointer (some ⟨a, 0, none⟩)) := by rw [cell_of_heap hh]; rfl
  have z1 := hb.fz 1
  have z3 := hb.fz 3
  have f0 := hb.f 0
  have f1 := hb.f 1
  have f3 := hb.f 3
  simp only [wkCells] at f0 f1 f3
  have hw4 : ws.length ≤ 4 := by omega
  have hd4 := hlen.2.2
  have T3 : Turned [b] w ((w.setCell ⟨b, 1, none⟩ (.pointer none)).setCell ⟨b, 3, none⟩ (.pointer none)) := ((Turned.refl [b] w).setCell (by simp) _).setCell (by simp) _
  have HB3 : Hid (WkR ((w.setCell ⟨b, 1, none⟩ (.pointer none)).setCell ⟨b, 3, none⟩ (.pointer none)) b (wkCells (.slice ho 0 cap) none kd none en)) := (hb.set 1 _).set 3 _
  have HC3 := hide (hC.turnedb hb T3)
  have HS3 := hide (hs.turned T3 (by simp; exact ne_of_type hs.head hb (by decide)) (by simp; exact ne_of_type hs.mem.head hb (by decide)) (by simp; exact ne_of_type hs.mem.row hb (by decide)) (fun x hx => by
    obtain ⟨i, hi⟩ := List.getElem?_of_mem hx
    simp
    exact ne_of_type (hs.dq i x hi).head hb (by decide)))
  have HT3 := hide T3
  have HL := hide hlen
  generalize hm : ws.length = m at c0 hkl hw4
  generalize hm2 : ds.length = m2 at c1 hd4 ha
  have HM2 := hide hm2
  have a1 : ¬ (after < 1) := by omega
  have a2 : wrap64 (after - 1) = after - 1 := w64 _ (by omega)
  have a4 : ¬ (after - 1 < (m2 : Int)) := by omega
  clear hC hb hs hh hlen hk T3 hm hm2
  go_enter Try.func23, Try.ntmps23
  go_wp2_with fail
  clear c0 c1 c2 f0 f1 f3 z1 z3 kw hkl hw4 ha ha2 a1 a2 a4
  generalize (w.setCell ⟨b, 1, none⟩ (.pointer none)).setCell ⟨b, 3, none⟩ (.pointer none) = w3 at *
  obtain ⟨cw3, cd3, hh3⟩ := HC3.out.head
  have c1 : w3.cell? ⟨C, 1, none⟩ = some (.slice (some ⟨gd, 0, none⟩) m2 cd3) := by rw [cell_of_heap hh3, ← HM2.out]; rfl
  have c2 : w3.cell? ⟨C, 2, none⟩ = some (.pointer (some ⟨a, 0, none⟩)) := by rw [cell_of_heap hh3]; rfl
  have HO : Hid (Calls Try.prog 16 #[.pointer (some ⟨a, 0, none⟩), .slice (some ⟨gd, 0, none⟩) m2 cd3] w3.drew fun e w' => ∃ o, e = .returned (.pointer (some ⟨o, 0, none⟩)) ∧ w3.drew.heap.size ≤ o ∧ OfB w' o a ds ofNew ∧ Turned [] w3.drew w') := by
    have h1 := offer_any w3.drew a p q ds Q l s gd 0 cd3 (by have := HL.out; omega) (fun i x hx => by rw [Nat.zero_add]; exact HC3.out.d_ i x hx) HS3.out.drew
    rw [HM2.out] at h1
    exact h1
  have HK : Hid (∀ (u : World) (y : Value), u.cell? ⟨C, 1, none⟩ = some (.slice (some ⟨gd, 0, none⟩) m2 cd3) → u.cell? ⟨C, 2, none⟩ = some (.pointer (some ⟨a, 0, none⟩)) → (u.setCell ⟨b, 3, none⟩ y).cell? ⟨C, 1, none⟩ = some (.slice (some ⟨gd, 0, none⟩) m2 cd3) ∧ (u.setCell ⟨b, 3, none⟩ y).cell? ⟨C, 2, none⟩ = some (.pointer (some ⟨a, 0, none⟩))) := by
    intro u y h1 h2
    have t : Turned [b] u (u.setCell ⟨b, 3, none⟩ y) := (Turned.refl _ _).setCell (by simp) _
    exact ⟨(t.cell (p := ⟨C, 1, none⟩) (block_lt h1) (by simp; exact n1)).trans h1, (t.cell (p := ⟨C, 2, none⟩) (block_lt h2) (by simp; exact n1)).trans h2⟩
  clear hh3
  go_region_held3 (fun w' => w'.cell? ⟨C, 1, none⟩ = some (.slice (some ⟨gd, 0, none⟩) m2 cd3) ∧ w'.cell? ⟨C, 2, none⟩ = some (.pointer (some ⟨a, 0, none⟩))) (first | go_keep | exact HK.out _ _ g1 g2)
    (first
      | (go_at_call 16; refine HO.out.mono ?_; rintro e w4 ⟨o, rfl, ho4, hof, t4⟩; have HT4 := hide ((Turned.refl [] w3).drew.trans t4); have HB4 := hide (HB3.out.turned HT4.out (by simp)); have HC4 := hide (HC3.out.turned HT4.out (by simp) (by simp) (by simp)); have g1 : w4.cell? ⟨C, 1, none⟩ = some (.slice (some ⟨gd, 0, none⟩) m2 cd3) := ((HT4.out.cell (p := ⟨C, 1, none⟩) (block_lt c1) (by simp)).trans c1); have g2 : w4.cell? ⟨C, 2, none⟩ = some (.pointer (some ⟨a, 0, none⟩)) := ((HT4.out.cell (p := ⟨C, 2, none⟩) (block_lt c2) (by simp)).trans c2); have y3 := HB4.out.fz 3; have g3 := HB4.out.f 3; simp only [wkCells] at g3; have HOf := hide (And.intro ho4 hof); clear HO ho4 hof t4))
  clear g1 g2 g3 y3 c1 c2 HK
  first | go_wp2_with fail | skip
  first | refine bodyPost_end (results_none rfl _ _ _) rfl ?_ | refine bodyPost_ret (results_none rfl _ _ _) rfl ?_
  have hof := HOf.out
  have hlt := HB3.out.lt
  have hT := HT3.out.size
  have hb2 : o ≠ b := by have := hof.1; simp at this; omega
  have t5 : Turned [b] w4 (w4.setCell ⟨b, 3, none⟩ (.pointer (some ⟨o, 0, none⟩))) := (Turned.refl _ _).setCell (by simp) _
  refine ⟨rfl, o, by have := hof.1; simp at this; omega, HB4.out.set 3 _, hof.2.turned t5 (by simp; exact hb2) (fun x hx => ?_), (HT3.out.trans_new HT4.out (by simp)).setCell (by simp) _⟩
  simp at hx
  subst hx
  exact noRow HB4.out (by decide)

set_option maxHeartbeats 4000000 in
set_option maxRecDepth 100000 in
theorem cnext_push (after : Int) (g off n cap : Nat) (x : Int) (po : Option Addr) (kd : Int) (pf : Option Addr) (en : Bool) (hk : ws[k]? = some b) (hdk : ds[k]? = some d) (hC : Cw w C gw gd a ws ds dn) (hb : WkR w b (wkCells (.slice (some ⟨g, off, none⟩) (n + 1) cap) po kd pf en)) (hd : Dq w d p q Cf l s) (hx : w.cell? ⟨g, off, none⟩ = some (.int .i64 x)) (hgb : g ≠ b) :
    Calls Try.prog 23 #[.pointer (some ⟨C, 0, none⟩), .int .i64 k, .int .i64 after] w fun e w' => e = .returned (.tuple #[]) ∧ ∃ o, w.heap.size ≤ o ∧ WkR w' b (wkCells (.slice (some ⟨g, off, none⟩) (n + 1) cap) (some ⟨o, 0, none⟩) 0 none en) ∧ OpB w' o d (opNew .pushReadBottom x) ∧ Turned [b] w w' := by
  have hne := hC.ne hb
  obtain ⟨n1, n2, n3⟩ := hne
  have hkl : k < ws.length := (List.getElem?_eq_some_iff.1 hk).1
  have hdl : k < ds.length := (List.getElem?_eq_some_iff.1 hdk).1
  have hlen := hC.len
  have kw := hC.w_ k b hk
  have kd' := hC.d_ k d hdk
  obtain ⟨cw, cd, hh⟩ := hC.head
  have c0 : w.cell? ⟨C, 0, none⟩ = some (.slice (some ⟨gw, 0, none⟩) ws.length cw) := by rw [cell_of_heap hh]; rfl
  have c1 : w.cell? ⟨C, 1, none⟩ = some (.slice (some ⟨gd, 0, none⟩) ds.length cd) := by rw [cell_of_heap hh]; rfl
  have z1 := hb.fz 1
  have z2 := hb.fz 2
  have z3 := hb.fz 3
  have f0 := hb.f 0
  have f1 := hb.f 1
  have f2 := hb.f 2
  have f3 := hb.f 3
  simp only [wkCells] at f0 f1 f2 f3
  have hw4 : ws.length ≤ 4 := by omega
  have hd4 := hlen.2.2
  have HN : Hid (d ≠ b ∧ p ≠ b ∧ q ≠ b) := ⟨ne_of_type hd.head hb (by decide), ne_of_type hd.mem.head hb (by decide), ne_of_type hd.mem.row hb (by decide)⟩
  have HC := hide hC
  have HB := hide hb
  have HD := hide hd
  generalize ws.length = m at c0 hkl hw4
  generalize ds.length = m2 at c1 hdl hd4
  clear hC hb hd hh hlen hk hdk
  go_enter Try.func23, Try.ntmps23
  go_wp2_with fail
  have T3 : Turned [b] w (((w.setCell ⟨b, 1, none⟩ (.pointer none)).setCell ⟨b, 3, none⟩ (.pointer none)).setCell ⟨b, 2, none⟩ (.int .i64 0)) := (((Turned.refl [b] w).setCell (by simp) _).setCell (by simp) _).setCell (by simp) _
  have HB3 : Hid (WkR (((w.setCell ⟨b, 1, none⟩ (.pointer none)).setCell ⟨b, 3, none⟩ (.pointer none)).setCell ⟨b, 2, none⟩ (.int .i64 0)) b (wkCells (.slice (some ⟨g, off, none⟩) (n + 1) cap) none 0 none en)) := ((HB.out.set 1 _).set 3 _).set 2 _
  have HD3 := hide (HD.out.turned T3 (by simp; exact HN.out.1) (by simp; exact HN.out.2.1) (by simp; exact HN.out.2.2))
  have e1 := (T3.cell (p := ⟨C, 1, none⟩) (block_lt c1) (by simp; exact n1)).trans c1
  have e2 := (T3.cell (p := ⟨gd, k, none⟩) (block_lt kd') (by simp; exact n3)).trans kd'
  have e3 := (T3.cell (p := ⟨g, off, none⟩) (block_lt hx) (by simp; exact hgb)).trans hx
  have HT3 := hide T3
  clear T3 HB HD HC f0 f1 f2 f3 z1 z2 z3 c0 c1 kw kd' hx
  generalize ((w.setCell ⟨b, 1, none⟩ (.pointer none)).setCell ⟨b, 3, none⟩ (.pointer none)).setCell ⟨b, 2, none⟩ (.int .i64 0) = w3 at *
  have e4 := HB3.out.f 0
  simp only [wkCells] at e4
  have HK : Hid (∀ (u : World) (y : Value), (u.cell? ⟨C, 1, none⟩ = some (.slice (some ⟨gd, 0, none⟩) m2 cd) ∧ u.cell? ⟨gd, k, none⟩ = some (.pointer (some ⟨d, 0, none⟩)) ∧ u.cell? ⟨b, 0, none⟩ = some (.slice (some ⟨g, off, none⟩) (n + 1) cap) ∧ u.cell? ⟨g, off, none⟩ = some (.int .i64 x)) → ((u.setCell ⟨b, 1, none⟩ y).cell? ⟨C, 1, none⟩ = some (.slice (some ⟨gd, 0, none⟩) m2 cd) ∧ (u.setCell ⟨b, 1, none⟩ y).cell? ⟨gd, k, none⟩ = some (.pointer (some ⟨d, 0, none⟩)) ∧ (u.setCell ⟨b, 1, none⟩ y).cell? ⟨b, 0, none⟩ = some (.slice (some ⟨g, off, none⟩) (n + 1) cap) ∧ (u.setCell ⟨b, 1, none⟩ y).cell? ⟨g, off, none⟩ = some (.int .i64 x))) := by
    rintro u y ⟨h1, h2, h3, h4⟩
    have t : Turned [b] u (u.setCell ⟨b, 1, none⟩ y) := (Turned.refl _ _).setCell (by simp) _
    refine ⟨(t.cell (p := ⟨C, 1, none⟩) (block_lt h1) (by simp; exact n1)).trans h1, (t.cell (p := ⟨gd, k, none⟩) (block_lt h2) (by simp; exact n3)).trans h2, ?_, (t.cell (p := ⟨g, off, none⟩) (block_lt h4) (by simp; exact hgb)).trans h4⟩
    rw [World.cell?_setCell_other _ _ _ _ (by intro e2; cases e2)]
    exact h3
  have HP := hide (push_any w3.drew d p q Cf l s x (HD3.out.turned (Turned.refl [] w3).drew (by simp) (by simp) (by simp)))
  go_region_held3 (fun w' => w'.cell? ⟨C, 1, none⟩ = some (.slice (some ⟨gd, 0, none⟩) m2 cd) ∧ w'.cell? ⟨gd, k, none⟩ = some (.pointer (some ⟨d, 0, none⟩)) ∧ w'.cell? ⟨b, 0, none⟩ = some (.slice (some ⟨g, off, none⟩) (n + 1) cap) ∧ w'.cell? ⟨g, off, none⟩ = some (.int .i64 x)) (first | go_keep | exact HK.out _ _ ⟨g1, g2, g3, g4⟩)
    (first
      | (go_at_call 14; refine HP.out.mono ?_; rintro e w4 ⟨rfl, _, hop, t4, _⟩; have HT4 := hide ((Turned.refl [] w3).drew.trans t4); have HB4 := hide (HB3.out.turned HT4.out (by simp)); have g1 := ((HT4.out.cell (p := ⟨C, 1, none⟩) (block_lt e1) (by simp)).trans e1); have g2 := ((HT4.out.cell (p := ⟨gd, k, none⟩) (block_lt e2) (by simp)).trans e2); have g4 := ((HT4.out.cell (p := ⟨g, off, none⟩) (block_lt e3) (by simp)).trans e3); have g3 := HB4.out.f 0; have g5 := HB4.out.f 1; have y1 := HB4.out.fz 1; simp only [wkCells] at g3 g5; have HO := hide hop; clear HP hop t4))
  clear g1 g2 g3 g4 g5 y1 e1 e2 e3 e4 HK
  first | go_wp2_with fail | skip
  first | refine bodyPost_end (results_none rfl _ _ _) rfl ?_ | refine bodyPost_ret (results_none rfl _ _ _) rfl ?_
  have hlt := HB3.out.lt
  have hT := HT3.out.size
  have t5 : Turned [b] w4 (w4.setCell ⟨b, 1, none⟩ (.pointer (some ⟨w3.drew.heap.size, 0, none⟩))) := (Turned.refl _ _).setCell (by simp) _
  exact ⟨rfl, w3.drew.heap.size, by simp; omega, HB4.out.set 1 _, HO.out.turned t5 (by simp; omega), (HT3.out.trans_new HT4.out (by simp)).setCell (by simp) _⟩

end
end Go.Proofs.Ytokabpgdklihlaa

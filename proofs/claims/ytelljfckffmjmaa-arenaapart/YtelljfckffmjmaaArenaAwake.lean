/-
  awake of the laws of package arena: some answers that the document fixes.
-/
import Derived.Test.YtelljfckffmjmaaArenaLaw
namespace Go.Proofs.Ytelljfckffmjmaa
open Go.RowKit

theorem put_one (p q : Nat) (l : List Int) (s : Int) (k g d : Nat) (x : Int) (w : World) (hl : l.length ≤ 65536) (hk : k < l.length) (h : Mem w p q l s) (hc : w.cell? ⟨g, 0, none⟩ = some (.int .i64 x)) :
    Calls Try.prog 12 #[.pointer (some ⟨p, 0, none⟩), .int .i64 k, .slice (some ⟨g, 0, none⟩) 1 d] w fun e w' => e = .returned (.int .i64 0) ∧ Mem w' p q (l.set k x) s ∧ Turned [p, q] w w' := by
  have h1 := put_in p q l s k g 0 d [x] w hl (by simp; omega) (by simp) h (fun j y hy => by
    rcases j with _ | j
    · simp at hy; subst hy; exact hc
    · simp at hy)
  have e : over l k [x] = l.set k x := by
    apply List.ext_getElem?
    intro i
    rw [over_get _ _ _ (by simp; omega), List.getElem?_set]
    by_cases hi : k = i
    · subst hi; simp [hk]
    · rw [if_neg hi, if_neg (by simp; omega)]
  rw [e] at h1
  exact h1

theorem fitNew (A : AC) (o : Nat) (l bl : List Int) (size s : Int) (h0 : 0 ≤ bl.getD o 0 ∧ bl.getD o 0 ≤ bl.getD (o + 1) 0) (h1 : bl.getD (o + 1) 0 ≤ l.length) (h2 : o + 1 < bl.length) : FitA A o ⟨l, bl, akNew size, s⟩ :=
  ⟨h0, h1, h2, fun h => absurd rfl h, fun h => by cases h⟩

/-- The type of a buffer. -/
theorem bt_buf : BT 44 := by unfold BT; decide

/-- An ask that was just made. -/
theorem AX.mk {w w1 : World} {a v p q B b : Nat} {T : TypeId} {A : AC} {l bl : List Int} {s size : Int} {o : Nat} (h : Arn w a v p q A l s) (hb : Bf w B T bl) (ht : BT T) (t : Turned [] w w1) (hk : AkB w1 b a B o (akNew size)) : AX w1 w1 a v p q B b T A o ⟨l, bl, akNew size, s⟩ :=
  ⟨h.turned t (by simp) (by simp) (by simp) (by simp), hb.turned t (by simp), ht, hk, Turned.refl _ _⟩

namespace Aw
def A : AC := ⟨0, 21, 8⟩
def l1 : List Int := (List.replicate 22 0).set 0 1
def x1 : ASt := ⟨l1, [0, 0], akNew 3, 0⟩
def y1 : ASt := goA A 0 4 x1
def x2 : ASt := ⟨y1.l, y1.bl, akNew 3, y1.s⟩
def y2 : ASt := goA A 0 4 x2
def x3 : ASt := ⟨y2.l, y2.bl, akNew 3, y2.s⟩
def y3 : ASt := goA A 0 4 x3
def x4 : ASt := ⟨y3.l, [0, 0], akNew 5, y3.s⟩
def y4 : ASt := goA A 0 4 x4
def x5 : ASt := ⟨y4.l, y4.bl, akNew 3, y4.s⟩
def y5 : ASt := goA A 0 4 x5
theorem d1 : y1.k.done = true ∧ y1.k.pos = 1 ∧ y1.k.errno = 0 ∧ 0 ≤ y1.bl.getD 0 0 ∧ y1.bl.getD 0 0 ≤ y1.bl.getD 1 0 ∧ y1.bl.getD 1 0 ≤ y1.l.length ∧ 1 < y1.bl.length := by decide +kernel
theorem d2 : y2.k.done = true ∧ y2.k.pos = 4 ∧ y2.k.errno = 0 ∧ 0 ≤ y2.bl.getD 0 0 ∧ y2.bl.getD 0 0 ≤ y2.bl.getD 1 0 ∧ y2.bl.getD 1 0 ≤ y2.l.length ∧ 1 < y2.bl.length := by decide +kernel
theorem d3 : y3.k.done = true ∧ y3.k.pos = 9 ∧ y3.k.errno = 0 := by decide +kernel
theorem d4 : y4.k.done = true ∧ y4.k.errno = 14 ∧ 0 ≤ y4.bl.getD 0 0 ∧ y4.bl.getD 0 0 ≤ y4.bl.getD 1 0 ∧ y4.bl.getD 1 0 ≤ y4.l.length ∧ 1 < y4.bl.length := by decide +kernel
theorem d5 : y5.k.done = true ∧ y5.k.pos = 17 ∧ y5.k.errno = 0 ∧ y5.bl = [20, 21] ∧ y5.l.length = 22 ∧ y5.l[7]? = some (headOf 0 1) ∧ aboveOf A (topOf A y5.l) = 0 := by decide +kernel
end Aw

/-- The arena and one buffer, behind what a law has done so far. -/
structure Sn (w0 w : World) (a v p q : Nat) (A : AC) (l : List Int) (s : Int) (B : Nat) (T : TypeId) (bl : List Int) : Prop where
  ar : Arn w a v p q A l s
  bf : Bf w B T bl
  bt : BT T
  tu : Turned [] w0 w
  lo : w0.heap.size ≤ p ∧ w0.heap.size ≤ q ∧ w0.heap.size ≤ B
theorem Sn.next {w0 w w1 w2 : World} {a v p q B b : Nat} {T : TypeId} {A : AC} {l bl : List Int} {s : Int} {y : ASt} (h : Sn w0 w a v p q A l s B T bl) (t : Turned [] w w1) (hy : AX w1 w2 a v p q B b T A 0 y) (hb : b = w.heap.size) : Sn w0 w2 a v p q A y.l y.s B T y.bl ∧ Turned [p, q, B] w w2 := by
  have t2 : Turned [p, q, B] w w2 := (t.mono (by simp)).trans_new hy.tu (by
    intro i hi
    simp at hi
    rcases hi with rfl | rfl | rfl | rfl
    · simp
    · simp
    · simp
    · right; omega)
  exact ⟨⟨hy.ar, hy.bf, hy.bt, h.tu.trans_new t2 (by intro i hi; simp at hi; rcases hi with rfl | rfl | rfl <;> exact .inr (by have := h.lo; omega)), h.lo⟩, t2⟩

set_option maxHeartbeats 4000000 in
set_option maxRecDepth 100000 in
theorem awake_any (w : World) :
    Calls Try.prog 7 #[] w fun e w' => e = .returned (.bool true) ∧ Turned [] w w' := by
  have HNew := hide (new_any 22 w)
  go_enter Try.func7, Try.ntmps7
  go_wp2_with fail
  refine HNew.out.mono ?_
  rintro e w1 ⟨rfl, h1, t1, -⟩
  rw [show (min (max (22 : Int) 0) 65536).toNat = 22 by decide] at h1
  have HPQ := hide (show w.heap.size ≤ w.heap.size + 1 ∧ w.heap.size ≤ w.heap.size by omega)
  generalize w.heap.size + 1 = p at *
  obtain ⟨q, hq⟩ : ∃ q, q = w.heap.size := ⟨_, rfl⟩
  rw [← hq] at h1
  have HPQ2 := hide (show w.heap.size ≤ p ∧ w.heap.size ≤ q by have := HPQ.out; omega)
  have HM := hide h1
  have HT := hide t1
  clear hq HPQ h1 t1 HNew
  have HP := hide (put_one p q (List.replicate 22 0) 0 0 w1.heap.size 1 1 (w1.alloc (.cells #[.int .i64 1] 2)) (by simp) (by simp) (HM.out.alloc _) (by rw [cell_of_heap (heap_alloc_new _ _)]; rfl))
  have HTa := hide (HT.out.alloc (.cells #[.int .i64 1] 2))
  rw [show (List.replicate 22 (0 : Int)).set 0 1 = Aw.l1 from rfl] at HP
  go_wp2_with fail
  refine HP.out.mono ?_
  rintro e w2 ⟨rfl, h2, t2⟩
  have T2 := hide (HTa.out.trans_new t2 (by intro i hi; simp at hi; rcases hi with rfl | rfl <;> exact .inr (by have := HPQ2.out; omega)))
  have HA := hide (anew_ok w2 p q Aw.l1 0 0 21 8 (by decide) (by decide) (by decide) (by decide) h2)
  clear HP HTa HT HM h2 t2
  go_wp2_with fail
  refine HA.out.mono ?_
  rintro e w3 ⟨a, v, rfl, h3, t3, -⟩
  have T3 := hide (T2.out.trans t3)
  have H3 := hide h3
  clear HA h3 t3 T2
  go_wp2_with fail
  have HB1 := hide (show Bf ((w3.alloc (.cells #[.int .i64 0, .int .i64 0] 44)).alloc (.cells #[.int .i64 0, .int .i64 0] 44)) w3.heap.size 44 [0, 0] by unfold Bf; rw [Below.heap_alloc _ _ _ (by simp), heap_alloc_new]; rfl)
  have HB2 := hide (show Bf ((w3.alloc (.cells #[.int .i64 0, .int .i64 0] 44)).alloc (.cells #[.int .i64 0, .int .i64 0] 44)) (w3.heap.size + 1) 44 [0, 0] by
    have e := heap_alloc_new (w3.alloc (.cells #[.int .i64 0, .int .i64 0] 44)) (.cells #[.int .i64 0, .int .i64 0] 44)
    rw [show (w3.alloc (.cells #[.int .i64 0, .int .i64 0] 44)).heap.size = w3.heap.size + 1 by simp] at e
    exact e)
  have T4 := hide ((T3.out.alloc (.cells #[.int .i64 0, .int .i64 0] 44)).alloc (.cells #[.int .i64 0, .int .i64 0] 44))
  have t34 : Turned [] w3 ((w3.alloc (.cells #[.int .i64 0, .int .i64 0] 44)).alloc (.cells #[.int .i64 0, .int .i64 0] 44)) := ((Turned.refl _ _).alloc _).alloc _
  have H4 := hide (H3.out.turned t34 (by simp) (by simp) (by simp) (by simp))
  have HNe := hide (show w3.heap.size ≠ w3.heap.size + 1 by omega)
  have HLo := hide (show w.heap.size ≤ w3.heap.size from T3.out.size)
  clear t34 H3
  generalize ((w3.alloc (.cells #[.int .i64 0, .int .i64 0] 44)).alloc (.cells #[.int .i64 0, .int .i64 0] 44)) = w4 at *
  generalize hB2 : w3.heap.size + 1 = B2 at *
  have HLo2 := hide (show w.heap.size ≤ B2 by have := HLo.out; omega)
  clear hB2
  generalize w3.heap.size = B1 at *
  have N0 := hide (show Sn w w4 a v p q Aw.A Aw.l1 0 B1 44 [0, 0] from ⟨H4.out, HB1.out, bt_buf, T4.out, HPQ2.out.1, HPQ2.out.2, HLo.out⟩)
  clear H4 HB1 T4 T3
  have HK := hide (ask_any w4 a v p q B1 0 Aw.A _ _ 3 N0.out.ar)
  refine HK.out.mono ?_
  rintro e wa ⟨rfl, hk, ta, -⟩
  have HE := hide (ends_any wa a v p q B1 w4.heap.size 0 44 Aw.A Aw.x1 4 (by omega) (fitNew _ _ _ _ _ _ (by decide +kernel) (by decide +kernel) (by decide +kernel)) Aw.d1.1 (AX.mk N0.out.ar N0.out.bf N0.out.bt ta hk))
  rw [show goA Aw.A 0 4 Aw.x1 = Aw.y1 from rfl] at HE
  have TA := hide ta
  clear HK hk ta
  go_wp2_with fail
  refine HE.out.mono ?_
  rintro e w5 ⟨rfl, hy⟩
  rw [Aw.d1.2.1, Aw.d1.2.2.1]
  have nx := N0.out.next TA.out hy rfl
  have N1 := hide nx.1
  have O1 := hide (HB2.out.turned nx.2 (by simp; exact ⟨ne_of_type HB2.out N0.out.ar.mem.head (by decide), ne_of_type HB2.out N0.out.ar.mem.row (by decide), Ne.symm HNe.out⟩))
  clear nx hy HE TA N0 HB2 wa
  go_wp2_with fail
  have HK := hide (ask_any w5 a v p q B1 0 Aw.A _ _ 3 N1.out.ar)
  refine HK.out.mono ?_
  rintro e wa ⟨rfl, hk, ta, -⟩
  have HE := hide (ends_any wa a v p q B1 w5.heap.size 0 44 Aw.A Aw.x2 4 (by omega) (fitNew _ _ _ _ _ _ (by decide +kernel) (by decide +kernel) (by decide +kernel)) Aw.d2.1 (AX.mk N1.out.ar N1.out.bf N1.out.bt ta hk))
  rw [show goA Aw.A 0 4 Aw.x2 = Aw.y2 from rfl] at HE
  have TA := hide ta
  clear HK hk ta
  go_wp2_with fail
  refine HE.out.mono ?_
  rintro e w6 ⟨rfl, hy⟩
  rw [Aw.d2.2.1, Aw.d2.2.2.1]
  have nx := N1.out.next TA.out hy rfl
  have N2 := hide nx.1
  have O2 := hide (O1.out.turned nx.2 (by simp; exact ⟨ne_of_type O1.out N1.out.ar.mem.head (by decide), ne_of_type O1.out N1.out.ar.mem.row (by decide), Ne.symm HNe.out⟩))
  clear nx hy HE TA N1 O1 wa
  go_wp2_with fail
  have HK := hide (ask_any w6 a v p q B1 0 Aw.A _ _ 3 N2.out.ar)
  refine HK.out.mono ?_
  rintro e wa ⟨rfl, hk, ta, -⟩
  have HE := hide (ends_any wa a v p q B1 w6.heap.size 0 44 Aw.A Aw.x3 4 (by omega) (fitNew _ _ _ _ _ _ (by decide +kernel) (by decide +kernel) (by decide +kernel)) Aw.d3.1 (AX.mk N2.out.ar N2.out.bf N2.out.bt ta hk))
  rw [show goA Aw.A 0 4 Aw.x3 = Aw.y3 from rfl] at HE
  have TA := hide ta
  clear HK hk ta
  go_wp2_with fail
  refine HE.out.mono ?_
  rintro e w7 ⟨rfl, hy⟩
  rw [Aw.d3.2.1, Aw.d3.2.2]
  have nx := N2.out.next TA.out hy rfl
  have N3 := hide nx.1
  have O3 := hide (O2.out.turned nx.2 (by simp; exact ⟨ne_of_type O2.out N2.out.ar.mem.head (by decide), ne_of_type O2.out N2.out.ar.mem.row (by decide), Ne.symm HNe.out⟩))
  clear nx hy HE TA N2 O2 wa
  go_wp2_with fail
  have M3 := hide (show Sn w w7 a v p q Aw.A Aw.y3.l Aw.y3.s B2 44 [0, 0] from ⟨N3.out.ar, O3.out, bt_buf, N3.out.tu, HPQ2.out.1, HPQ2.out.2, HLo2.out⟩)
  have P3 := hide N3.out.bf
  clear N3 O3
  have HK := hide (ask_any w7 a v p q B2 0 Aw.A _ _ 5 M3.out.ar)
  refine HK.out.mono ?_
  rintro e wa ⟨rfl, hk, ta, -⟩
  have HE := hide (ends_any wa a v p q B2 w7.heap.size 0 44 Aw.A Aw.x4 4 (by omega) (fitNew _ _ _ _ _ _ (by decide +kernel) (by decide +kernel) (by decide +kernel)) Aw.d4.1 (AX.mk M3.out.ar M3.out.bf M3.out.bt ta hk))
  rw [show goA Aw.A 0 4 Aw.x4 = Aw.y4 from rfl] at HE
  have TA := hide ta
  clear HK hk ta
  go_wp2_with fail
  refine HE.out.mono ?_
  rintro e w8 ⟨rfl, hy⟩
  rw [Aw.d4.2.1]
  have nx := M3.out.next TA.out hy rfl
  have N4 := hide nx.1
  have O4 := hide (P3.out.turned nx.2 (by simp; exact ⟨ne_of_type P3.out M3.out.ar.mem.head (by decide), ne_of_type P3.out M3.out.ar.mem.row (by decide), HNe.out⟩))
  clear nx hy HE TA M3 P3 wa
  go_wp2_with fail
  have HK := hide (ask_any w8 a v p q B2 0 Aw.A _ _ 3 N4.out.ar)
  refine HK.out.mono ?_
  rintro e wa ⟨rfl, hk, ta, -⟩
  have HE := hide (ends_any wa a v p q B2 w8.heap.size 0 44 Aw.A Aw.x5 4 (by omega) (fitNew _ _ _ _ _ _ (by decide +kernel) (by decide +kernel) (by decide +kernel)) Aw.d5.1 (AX.mk N4.out.ar N4.out.bf N4.out.bt ta hk))
  rw [show goA Aw.A 0 4 Aw.x5 = Aw.y5 from rfl] at HE
  have TA := hide ta
  clear HK hk ta
  go_wp2_with fail
  refine HE.out.mono ?_
  rintro e w9 ⟨rfl, hy⟩
  rw [Aw.d5.2.1, Aw.d5.2.2.1]
  have nx := N4.out.next TA.out hy rfl
  have N5 := hide nx.1
  have O5 := hide (O4.out.turned nx.2 (by simp; exact ⟨ne_of_type O4.out N4.out.ar.mem.head (by decide), ne_of_type O4.out N4.out.ar.mem.row (by decide), HNe.out⟩))
  clear nx hy HE TA N4 O4 wa
  go_wp2_with fail
  have HLd := hide (load_in p q Aw.y5.l Aw.y5.s w9 7 (headOf 0 1) Aw.d5.2.2.2.2.2.1 N5.out.ar.mem)
  refine HLd.out.mono ?_
  rintro e w10 ⟨rfl, m10, t10⟩
  have NB := hide (show B2 ≠ p ∧ B2 ≠ q from ⟨ne_of_type N5.out.bf N5.out.ar.mem.head (by decide), ne_of_type N5.out.bf N5.out.ar.mem.row (by decide)⟩)
  have N6 := hide (show Sn w w10 a v p q Aw.A Aw.y5.l (wrap64 (Aw.y5.s + 1)) B2 44 [20, 21] from ⟨N5.out.ar.acc m10 rfl t10, by have e := Aw.d5.2.2.2.1; have h := N5.out.bf; rw [e] at h; exact h.turned t10 (by simp; exact NB.out), bt_buf, N5.out.tu.trans_new t10 (by intro i hi; simp at hi; rcases hi with rfl | rfl <;> exact .inr (by have := HPQ2.out; omega)), N5.out.lo⟩)
  clear HLd m10 t10 N5 O5
  have HLf := hide (left_any w10 a v p q Aw.A Aw.y5.l _ N6.out.ar)
  rw [Aw.d5.2.2.2.2.2.2] at HLf
  have HHd := hide (fun w' => rheader_any 0 1 w')
  have hl5 := hide Aw.d5.2.2.2.2.1
  generalize Aw.y5.l = l5 at *
  generalize wrap64 (Aw.y5.s + 1) = s5 at *
  generalize headOf 0 1 = hd at *
  go_wp2_with fail
  refine HLf.out.mono ?_
  rintro e w11 ⟨rfl, t11⟩
  have N7 := hide (show Sn w w11 a v p q Aw.A l5 s5 B2 44 [20, 21] from ⟨N6.out.ar.turned t11 (by simp) (by simp) (by simp) (by simp), N6.out.bf.turned t11 (by simp), bt_buf, N6.out.tu.trans t11, N6.out.lo⟩)
  clear HLf t11 N6
  go_wp2_with fail
  refine (HHd.out _).mono ?_
  rintro e w12 ⟨rfl, hw⟩
  rw [hw]
  clear hw w12 HHd
  have HR := hide (retire_any w11 a v p q B2 0 44 Aw.A l5 [20, 21] s5 20 21 (by rw [hl5.out]; decide) rfl rfl ⟨N7.out.ar, N7.out.bf, bt_buf, Turned.refl _ _⟩)
  go_wp2_with fail
  refine HR.out.mono ?_
  rintro e w13 ⟨rfl, h13⟩
  have T13 := hide (N7.out.tu.trans_new h13.tu (by intro i hi; simp at hi; rcases hi with rfl | rfl | rfl <;> exact .inr (by have := N7.out.lo; omega)))
  have HR2 := hide (retire_none w13 a v p q B2 0 44 Aw.A _ _ _ 0 (by constructor; omega; omega) rfl rfl ⟨h13.ar, h13.bf, bt_buf, Turned.refl _ _⟩)
  clear HR h13 N7
  go_wp2_with fail
  refine HR2.out.mono ?_
  rintro e w14 ⟨rfl, m, rfl⟩
  clear HR2
  go_wp2_with fail
  go_ret
  exact ⟨rfl, T13.out.drewN _⟩
end Go.Proofs.Ytelljfckffmjmaa

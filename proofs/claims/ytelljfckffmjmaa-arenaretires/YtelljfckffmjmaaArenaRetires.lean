/-
  ArenaRetires: a buffer that is retired is one filler, and empty then; what is asked for next comes out of a new one: true for every size and every buffer.
-/
import Derived.Test.YtelljfckffmjmaaArenaAlone
import Derived.Test.YtelljfckffmjmaaArenaBlk
namespace Go.Proofs.Ytelljfckffmjmaa
open Go.ChangeShapes Go.WideShapes Go.ChangeAt Go.RowKit
set_option linter.unusedVariables false

/-- Words told, as a row that can be read. -/
theorem words_all (p q : Nat) (l : List Int) (s : Int) (w : World) (hl : l.length ≤ 65536) (h0 : 0 < l.length) (n : Nat) (hn : n = l.length) (h : Mem w p q l s) :
    Calls Try.prog 27 #[.pointer (some ⟨p, 0, none⟩), .int .i64 0, .int .i64 n] w fun e w' => ∃ g cap, e = .returned (.slice (some ⟨g, 0, none⟩) l.length cap) ∧ Doc w' g l ∧ Turned [] w w' ∧ w.heap.size ≤ g := by
  subst hn
  refine (words_mem p q l s 0 l.length w hl h).mono ?_
  rintro e w2 ⟨v, rfl, ho, ht⟩
  rw [show (min (max (l.length : Int) 0) (l.length : Int)).toNat = l.length by omega, show (min (max (0 : Int) 0) (l.length : Int)).toNat = 0 by omega, List.take_length, List.drop_zero] at ho
  obtain ⟨g, cap, rfl, h1, h2, _, h3, _⟩ := ownsRow_open ho h0
  exact ⟨g, cap, rfl, ⟨h2, fun i x hx => h3 i _ (by rw [List.getElem?_map, hx]; rfl)⟩, ht, h1⟩

set_option maxHeartbeats 4000000 in
set_option maxRecDepth 100000 in
theorem arenaRetires_walk (x y : Int) (w : World) (hx : (Lit.int .i64 x).wf = true) (hy : (Lit.int .i64 y).wf = true) :
    Calls Try.prog 6 #[.int .i64 x, .int .i64 y] w fun e w' => e = .returned (.bool true) ∧ Turned [] w w' := by
  have HAw := hide (awake_any w)
  have HPx := hide (fun w' => lpick_any x 10 w' (wf_range hx) (by omega))
  have HPy := hide (fun w' => lpick_any y 41 w' (wf_range hy) (by omega))
  have hrx := pickOf_lt x 10 (by omega)
  have hry := pickOf_lt y 41 (by omega)
  generalize pickOf x 10 = rx at *
  generalize pickOf y 41 = ry at *
  clear hx hy
  go_enter Try.func6, Try.ntmps6
  go_wp2_with fail
  refine HAw.out.mono ?_
  rintro e w0 ⟨rfl, t0⟩
  have T0 := hide t0
  clear t0 HAw
  have HNew := hide (new_any 301 w0)
  go_wp2_with fail
  refine HNew.out.mono ?_
  rintro e w1 ⟨rfl, h1, t1, -⟩
  rw [show (min (max (301 : Int) 0) 65536).toNat = 301 by decide] at h1
  have HPQ := hide (show w.heap.size ≤ w0.heap.size + 1 ∧ w.heap.size ≤ w0.heap.size by have := T0.out.size; omega)
  generalize w0.heap.size + 1 = p at *
  generalize w0.heap.size = q at *
  have HM := hide h1
  have HT := hide (T0.out.trans t1)
  clear h1 t1 HNew T0
  have HP := hide (put_one p q (List.replicate 301 0) 0 0 w1.heap.size 1 1 (w1.alloc (.cells #[.int .i64 1] 2)) (by simp) (by simp) (HM.out.alloc _) (by rw [cell_of_heap (heap_alloc_new _ _)]; rfl))
  have HTa := hide (HT.out.alloc (.cells #[.int .i64 1] 2))
  obtain ⟨l1, hl1⟩ : ∃ l1, l1 = (List.replicate 301 (0 : Int)).set 0 1 := ⟨_, rfl⟩
  rw [← hl1] at HP
  have HL1 := hide (show l1.length = 301 ∧ l1.getD 0 0 = 1 by rw [hl1]; decide)
  clear hl1
  go_wp2_with fail
  refine HP.out.mono ?_
  rintro e w2 ⟨rfl, h2, t2⟩
  have T2 := hide (HTa.out.trans_new t2 (by intro i hi; simp at hi; rcases hi with rfl | rfl <;> exact .inr (by have := HPQ.out; omega)))
  have H2 := hide h2
  clear HP HTa HT HM h2 t2
  go_wp2_with fail
  refine (HPx.out _).mono ?_
  rintro e w3 ⟨rfl, hw⟩
  rw [hw]
  clear hw w3 HPx
  go_wp2_with fail
  refine (HPy.out _).mono ?_
  rintro e w3 ⟨rfl, hw⟩
  rw [hw]
  clear hw w3 HPy
  obtain ⟨n, hn⟩ : ∃ n : Nat, (1 + (rx : Int)) = (n : Int) := ⟨1 + rx, by omega⟩
  obtain ⟨k, hk⟩ : ∃ k : Nat, (20 + (ry : Int)) = (k : Int) := ⟨20 + ry, by omega⟩
  rw [hn]
  have hn10 : 1 ≤ n ∧ n ≤ 10 := by omega
  have hk60 : 20 ≤ k ∧ k ≤ 60 := by omega
  have HA := hide (anew_ok w2 p q l1 0 0 300 k (by have := HL1.out; omega) (by have := HL1.out; omega) (by omega) (by have := HL1.out; omega) H2.out)
  clear hn H2 hrx hry
  go_wp2_with fail
  refine HA.out.mono ?_
  rintro e w3 ⟨a, v, rfl, h3, t3, -⟩
  have T3 := hide (T2.out.trans t3)
  have t4 : Turned [] w3 (w3.alloc (.cells #[.int .i64 0, .int .i64 0] 44)) := (Turned.refl _ _).alloc _
  have HB := hide (show Bf (w3.alloc (.cells #[.int .i64 0, .int .i64 0] 44)) w3.heap.size 44 [0, 0] from heap_alloc_new _ _)
  have H4 := hide (h3.turned t4 (by simp) (by simp) (by simp) (by simp))
  have T4 := hide (T3.out.trans t4)
  have HLo := hide (show w.heap.size ≤ w3.heap.size from T3.out.size)
  clear HA h3 t3 T2 t4 T3 hk
  go_wp2_with fail
  generalize w3.alloc (.cells #[.int .i64 0, .int .i64 0] 44) = w4 at *
  generalize w3.heap.size = B at *
  have N0 := hide (show Sn w w4 a v p q ⟨0, 300, k⟩ l1 0 B 44 [0, 0] from ⟨H4.out, HB.out, bt_buf, T4.out, HPQ.out.1, HPQ.out.2, HLo.out⟩)
  clear H4 HB T4
  have top1 : topOf ⟨0, 300, k⟩ l1 = 1 := HL1.out.2
  have Y1 := hide (alone_new ⟨0, 300, k⟩ l1 0 0 n 0 (by omega) (by omega) (by omega) (by omega) (by unfold lg; simp; omega) (by rw [top1]; unfold aboveOf; rw [if_neg (by simp)]; simp; omega))
  rw [top1] at Y1
  have ab1 : aboveOf ⟨0, 300, k⟩ 1 = 299 := by unfold aboveOf; rw [if_neg (by simp)]; rfl
  rw [ab1, show min (((⟨0, 300, k⟩ : AC).buf : Nat) : Int) 299 = k by simp; omega, if_neg (by omega)] at Y1
  clear top1 ab1
  have HK := hide (ask_any w4 a v p q B 0 ⟨0, 300, k⟩ l1 0 n N0.out.ar)
  refine HK.out.mono ?_
  rintro e wa ⟨rfl, hka, ta, -⟩
  have HE := hide (ends_any wa a v p q B w4.heap.size 0 44 ⟨0, 300, k⟩ ⟨l1, [0, 0], akNew n, 0⟩ 4 (by omega) (fitNew _ _ _ _ _ _ (by simp) (by simp) (by simp)) Y1.out.done (AX.mk N0.out.ar N0.out.bf N0.out.bt ta hka))
  rw [Y1.out.pos, Y1.out.errno] at HE
  have TA := hide ta
  clear HK hka ta
  go_wp2_with fail
  refine HE.out.mono ?_
  rintro e w5 ⟨rfl, hy⟩
  have N1 := hide (N0.out.next TA.out hy rfl).1
  rw [Y1.out.l, Y1.out.bl] at N1
  generalize (goA ⟨0, 300, k⟩ 0 4 ⟨l1, [0, 0], akNew n, 0⟩).s = s1 at *
  clear hy HE TA N0 wa
  obtain ⟨l2, hl2⟩ : ∃ l2, l2 = l1.set 0 (1 + (k : Int)) := ⟨_, rfl⟩
  have HL2 := hide (show l2.length = 301 ∧ l2.getD 0 0 = 1 + (k : Int) by rw [hl2]; refine ⟨by simp; exact HL1.out.1, ?_⟩; rw [getD_set, if_pos ⟨rfl, by rw [HL1.out.1]; omega⟩])
  rw [← hl2] at N1
  clear hl2 Y1 HL1
  have c0 := N1.out.bf.at (i := 0) rfl
  have c1 := N1.out.bf.at (i := 1) rfl
  go_wp2_with fail
  have HC := hide (show Bf (w5.alloc (.cells #[.int .i64 (1 + (n : Int)), .int .i64 (1 + (k : Int))] 44)) w5.heap.size 44 [1 + (n : Int), 1 + (k : Int)] from heap_alloc_new _ _)
  have t6 : Turned [] w5 (w5.alloc (.cells #[.int .i64 (1 + (n : Int)), .int .i64 (1 + (k : Int))] 44)) := (Turned.refl _ _).alloc _
  have N2 := hide (show Sn w (w5.alloc (.cells #[.int .i64 (1 + (n : Int)), .int .i64 (1 + (k : Int))] 44)) a v p q ⟨0, 300, k⟩ l2 s1 B 44 [1 + (n : Int), 1 + (k : Int)] from ⟨N1.out.ar.turned t6 (by simp) (by simp) (by simp) (by simp), N1.out.bf.turned t6 (by simp), bt_buf, N1.out.tu.trans t6, N1.out.lo⟩)
  have HCB := hide (show w5.heap.size ≠ B by have := N1.out.bf.lt; omega)
  have HCL := hide (show w.heap.size ≤ w5.heap.size from N1.out.tu.size)
  clear c0 c1 t6 N1
  generalize w5.alloc (.cells #[.int .i64 (1 + (n : Int)), .int .i64 (1 + (k : Int))] 44) = w6 at *
  generalize w5.heap.size = C at *
  have HR := hide (retire_any w6 a v p q B 0 44 ⟨0, 300, k⟩ l2 [1 + (n : Int), 1 + (k : Int)] s1 (1 + n) (1 + k) (by have := HL2.out.1; omega) rfl rfl ⟨N2.out.ar, N2.out.bf, bt_buf, Turned.refl _ _⟩)
  refine HR.out.mono ?_
  rintro e w7 ⟨rfl, h7⟩
  have T7 := hide (N2.out.tu.trans_new h7.tu (by intro i hi; simp at hi; rcases hi with rfl | rfl | rfl <;> exact .inr (by have := N2.out.lo; omega)))
  have HC7 := hide (HC.out.turned h7.tu (by simp; exact ⟨ne_of_type HC.out N2.out.ar.mem.head (by decide), ne_of_type HC.out N2.out.ar.mem.row (by decide), HCB.out⟩))
  obtain ⟨l3, hl3⟩ : ∃ l3, l3 = l2.set (1 + (n : Int)).toNat (headOf 0 (1 + (k : Int) - (1 + (n : Int)) - 1)) := ⟨_, rfl⟩
  rw [← hl3] at h7
  have HL3 := hide (show l3.length = 301 ∧ l3.getD 0 0 = 1 + (k : Int) ∧ wordAt l3 ((n : Int) + 1) = some (headOf 0 ((k : Int) - n - 1)) by
    rw [hl3]
    refine ⟨by simp; exact HL2.out.1, ?_, ?_⟩
    · rw [getD_set, if_neg (by omega)]; exact HL2.out.2
    · unfold wordAt
      rw [if_pos (by omega), show ((n : Int) + 1).toNat = (1 + (n : Int)).toNat by omega, List.getElem?_set_self (by rw [HL2.out.1]; omega)]
      congr 2
      omega)
  have N3 := hide (show Sn w w7 a v p q ⟨0, 300, k⟩ l3 (wrap64 (s1 + 1)) B 44 [0, 0] from ⟨h7.ar, h7.bf, bt_buf, T7.out, N2.out.lo⟩)
  generalize wrap64 (s1 + 1) = s3 at *
  clear HR h7 hl3 HC N2 HL2 T7
  have HR2 := hide (retire_none w7 a v p q B 0 44 ⟨0, 300, k⟩ l3 [0, 0] s3 0 (by omega) rfl rfl ⟨N3.out.ar, N3.out.bf, bt_buf, Turned.refl _ _⟩)
  go_wp2_with fail
  refine HR2.out.mono ?_
  rintro e w8 ⟨rfl, m8, hw8⟩
  have t8 : Turned [] w7 w8 := by rw [hw8]; exact (Turned.refl _ _).drewN m8
  have N4 := hide (show Sn w w8 a v p q ⟨0, 300, k⟩ l3 s3 B 44 [0, 0] from ⟨N3.out.ar.turned t8 (by simp) (by simp) (by simp) (by simp), N3.out.bf.turned t8 (by simp), bt_buf, N3.out.tu.trans t8, N3.out.lo⟩)
  have HC8 := hide (HC7.out.turned t8 (by simp))
  clear HR2 hw8 t8 N3 HC7
  have HWd := hide (words_all p q l3 s3 w8 (by have := HL3.out.1; omega) (by have := HL3.out.1; omega) 301 HL3.out.1.symm N4.out.ar.mem)
  go_wp2_with fail
  refine HWd.out.mono ?_
  rintro e w9 ⟨g, cap, rfl, hd9, t9, -⟩
  have N5 := hide (show Sn w w9 a v p q ⟨0, 300, k⟩ l3 s3 B 44 [0, 0] from ⟨N4.out.ar.turned t9 (by simp) (by simp) (by simp) (by simp), N4.out.bf.turned t9 (by simp), bt_buf, N4.out.tu.trans t9, N4.out.lo⟩)
  have HC9 := hide (HC8.out.turned t9 (by simp))
  have HRd := hide (rread_some cap g l3 none 0 0 [] ((n : Int) + 1) ⟨(n : Int) + 1, 0, (k : Int) - n - 1, k - n⟩ w9 (by have := HL3.out.1; omega) hd9 ⟨rfl, by omega, fun i c hc => by simp at hc, fun c hc => by simp at hc⟩ (read_head (by rw [size_filler [] _ (by omega)]; simp; omega) (by omega) (by omega) HL3.out.2.2 (by have := HL3.out.1; omega)))
  have hl301 := HL3.out.1
  rw [hl301] at HRd ⊢
  clear HWd hd9 t9 N4 HC8 hl301
  go_wp2_with fail
  refine HRd.out.mono ?_
  rintro e w10 ⟨rfl, t10⟩
  have N6 := hide (show Sn w w10 a v p q ⟨0, 300, k⟩ l3 s3 B 44 [0, 0] from ⟨N5.out.ar.turned t10 (by simp) (by simp) (by simp) (by simp), N5.out.bf.turned t10 (by simp), bt_buf, N5.out.tu.trans t10, N5.out.lo⟩)
  have HC10 := hide (HC9.out.turned t10 (by simp))
  clear HRd t10 N5 HC9
  go_wp2_with fail
  have t11 : Turned [] w10 (w10.alloc (.cells #[.int .i64 ((n : Int) + 1), .int .i64 0, .int .i64 ((k : Int) - n - 1), .int .i64 ((k : Int) - n)] 80)) := (Turned.refl _ _).alloc _
  have N7 := hide (show Sn w (w10.alloc (.cells #[.int .i64 ((n : Int) + 1), .int .i64 0, .int .i64 ((k : Int) - n - 1), .int .i64 ((k : Int) - n)] 80)) a v p q ⟨0, 300, k⟩ l3 s3 B 44 [0, 0] from ⟨N6.out.ar.turned t11 (by simp) (by simp) (by simp) (by simp), N6.out.bf.turned t11 (by simp), bt_buf, N6.out.tu.trans t11, N6.out.lo⟩)
  have HC11 := hide (HC10.out.turned t11 (by simp))
  have HD := hide (heap_alloc_new w10 (.cells #[.int .i64 ((n : Int) + 1), .int .i64 0, .int .i64 ((k : Int) - n - 1), .int .i64 ((k : Int) - n)] 80))
  clear t11 N6 HC10
  generalize w10.alloc (.cells #[.int .i64 ((n : Int) + 1), .int .i64 0, .int .i64 ((k : Int) - n - 1), .int .i64 ((k : Int) - n)] 80) = w11 at *
  generalize w10.heap.size = D at *
  have top1 : topOf ⟨0, 300, k⟩ l3 = 1 + (k : Int) := HL3.out.2.1
  have ab1 : aboveOf ⟨0, 300, k⟩ (1 + (k : Int)) = 299 - k := by unfold aboveOf; rw [if_neg (by simp; omega)]; simp; omega
  have Y1 := hide (alone_new ⟨0, 300, k⟩ l3 0 0 n s3 (by omega) (by omega) (by omega) (by omega) (by unfold lg; simp; omega) (by rw [top1, ab1]; omega))
  rw [top1, ab1] at Y1
  clear top1 ab1
  have HK := hide (ask_any w11 a v p q B 0 ⟨0, 300, k⟩ l3 s3 n N7.out.ar)
  refine HK.out.mono ?_
  rintro e wa ⟨rfl, hka, ta, -⟩
  have HE := hide (ends_any wa a v p q B w11.heap.size 0 44 ⟨0, 300, k⟩ ⟨l3, [0, 0], akNew n, s3⟩ 4 (by omega) (fitNew _ _ _ _ _ _ (by simp) (by simp) (by simp)) Y1.out.done (AX.mk N7.out.ar N7.out.bf N7.out.bt ta hka))
  rw [Y1.out.pos, Y1.out.errno] at HE
  have TA := hide ta
  clear HK hka ta
  go_wp2_with fail
  refine HE.out.mono ?_
  rintro e w12 ⟨rfl, hy⟩
  have nx := N7.out.next TA.out hy rfl
  have HTf := hide nx.1.tu
  have HC12 := hide (HC11.out.turned nx.2 (by simp; exact ⟨ne_of_type HC11.out N7.out.ar.mem.head (by decide), ne_of_type HC11.out N7.out.ar.mem.row (by decide), HCB.out⟩))
  have HD12 := hide (show w12.heap[D]? = some (.cells #[.int .i64 ((n : Int) + 1), .int .i64 0, .int .i64 ((k : Int) - n - 1), .int .i64 ((k : Int) - n)] 80) by rw [nx.2.block D (lt_of_heap HD.out) (by simp; exact ⟨ne_of_type HD.out N7.out.ar.mem.head (by decide), ne_of_type HD.out N7.out.ar.mem.row (by decide), ne_of_type HD.out N7.out.bf (by decide)⟩)]; exact HD.out)
  clear nx hy HE TA N7 wa Y1 HC11 HD
  have c0 := HC12.out.at (i := 0) rfl
  have c1 := HC12.out.at (i := 1) rfl
  have d3 : w12.cell? ⟨D, 3, none⟩ = some (.int .i64 ((k : Int) - n)) := by rw [cell_of_heap HD12.out]; rfl
  clear HL3
  go_wp2_with fail
  go_ret
  refine ⟨?_, HTf.out⟩
  have e : ((1 : Int) + k == (k : Int) + 1) = true := by simp; omega
  rw [e]
  rfl

set_option maxRecDepth 100000 in
theorem arenaRetires_lifted (os : Os) (started : os.Started) (H : Type) (enc : TypeId × Value → H) :
    ReturnsInHanded {} Try.checked os 6 .any (Rows.arenaRetiresSpec.pre6 enc Try.prog Try.f6 Rows.arenaRetiresRow.domain false) (Rows.arenaRetiresSpec.post enc Try.prog Try.f6 false true false false) := by
  refine returnsInHanded_of_change (C := Try.checked) own started (by kernel_rfl) Try.func6
    (ChangeSpec.witness6 (enc := enc) (C := Try.checked) false ⟨#[], #[.int .i64 0, .int .i64 0], []⟩ 8 (by kernel_rfl) (by kernel_rfl) (by kernel_rfl) (by kernel_rfl)) ?_
  intro W base args ds gs before hval0 hW hcnd _
  have hval : ∀ (j : Nat) t v, Try.f6.params[j]? = some t → args[j]? = some v → Value.okWide Try.prog W .any base t v := hval0
  have hW' := hW
  obtain ⟨p, q, hA0, hV, rfl, hfz, hnd⟩ := hW
  have hA : DataW.TrodAll enc Try.prog W 0 (fun _ => true) true Try.f6.params.toList args.toList ds p := hA0
  rw [Try.params6] at hA hval
  obtain ⟨v0, vs0, d0, ds0, p0, q0, hargs, rfl, rfl, h0, r0⟩ := trodAll_cons hA
  obtain ⟨v1, vs1, d1, ds1, p1, q1, rfl, rfl, rfl, h1, r1⟩ := trodAll_cons r0
  obtain ⟨rfl, rfl, rfl⟩ := trodAll_nil r1
  obtain rfl : args = #[v0, v1] := by cases args; simp_all
  obtain ⟨rfl, rfl⟩ := trodVars_none hV
  obtain ⟨a0, rfl, rfl, rfl, w0⟩ := open_int Try.underlying3 (hval 0 3 v0 rfl rfl) h0
  obtain ⟨a1, rfl, rfl, rfl, w1⟩ := open_int Try.underlying3 (hval 1 3 v1 rfl rfl) h1
  clear hA0 hval0
  refine (arenaRetires_walk a0 a1 W w0 w1).mono fun e W' ⟨he, ht⟩ => ?_
  subst he
  have bel : Below W.heap.size W W' := ht.below0
  exact ⟨_, rfl, _, _, _, [], _, [], hW', trodAll_mk1 (shut_bool Try.underlying4 _), (trodAll_cons_mk (shut_int Try.underlying3 w0) (trodAll_cons_mk (shut_int Try.underlying3 w1) trodAll_mk0)), rfl, bel.frame _, fun h => by cases h⟩

theorem arenaRetires_over : Rows.arenaRetiresRow.holds Try.pinned (OpenSpec.ofChange Rows.arenaRetiresSpec) :=
  OpenClaim.holds_of_wide 6 Try.f6 rfl rfl rfl rfl rfl rfl rfl ⟨rfl, rfl, rfl, rfl, rfl⟩ rfl rfl rfl rfl rfl (by kernel_rfl) Try.func6 (by kernel_rfl)
    (of_decide_eq_true (by kernel_rfl)) (by unfold Func.isWrapper; first | (rw [if_pos (by decide +kernel)]; kernel_rfl) | (rw [if_neg (by decide +kernel)]; exact ⟨rfl, rfl⟩))
    (fun os started H enc _ => arenaRetires_lifted os started H enc)

theorem arenaRetires_holds : Rows.ArenaRetiresSaid := arenaRetires_over
end Go.Proofs.Ytelljfckffmjmaa

/-
  Texts of the proof, several in one: AdjMade, AdjNew, AdjOk, AdjNo.
-/
import Derived.Test.YtpeglndlhjnaaaaGreatDoorPack33
import Derived.Test.YtpeglndlhjnaaaaGreatDoorPack10
/-
  An adjuster is made.
-/
namespace Go.Proofs.YtpeglndlhjnaaaaGreatDoor
open Go.RowKit Bt
set_option linter.unusedVariables false
set_option linter.unusedSimpArgs false

set_option maxRecDepth 100000 in
theorem aclone_nil (w : World) : Calls Tryz.prog 85 #[.slice none 0 0] w fun e w' => e = .returned (.slice none 0 0) ∧ w' = w := by
  have heq := fun w => Lib.run_eql_slice_nil (P := Tryz.prog) w 23 3 none 0 0 0 0 Tryz.underlying23
  go_enter Tryz.func85, Tryz.ntmps85
  go_wp2_with fail
  go_ret
  exact ⟨rfl, rfl⟩
set_option maxRecDepth 100000 in
theorem aclone_nil2 (w : World) : Calls Tryz.prog 86 #[.slice none 0 0] w fun e w' => e = .returned (.slice none 0 0) ∧ w' = w := by
  have heq := fun w => Lib.run_eql_slice_nil (P := Tryz.prog) w 40 139 none 0 0 0 0 Tryz.underlying40
  go_enter Tryz.func86, Tryz.ntmps86
  go_wp2_with fail
  go_ret
  exact ⟨rfl, rfl⟩
set_option maxRecDepth 100000 in
theorem aclone_ints (q n c : Nat) (g : Nat → Int) (w : World) (h : Ri w 3 q n g) (hn : n ≤ 65536) :
    Calls Tryz.prog 85 #[.slice (some ⟨q, 0, none⟩) n c] w fun e w' => ∃ v, e = .returned v ∧ w'.ownsRow w.heap.size 3 1 v n ((List.range n).map fun i => Value.int .i64 (g i)) ∧ v ≠ .slice none 0 0 ∧ Turned [] w w' := by
  have heq := fun w => Lib.run_eql_slice_nil (P := Tryz.prog) w 23 3 (some ⟨q, 0, none⟩) n c 0 0 Tryz.underlying23
  have hbs : ∀ w : World, (Instr.buildSlice 23 0 #[]).run Tryz.prog w = .ok (.slice (some ⟨w.heap.size, 0, none⟩) 0 0) (w.alloc (.cells #[] 3)) := fun _ => by kernel_rfl
  obtain ⟨i0, hi, hi0⟩ := Option.map_eq_some_iff.1 Tryz.infoInt
  simp only [Prod.mk.injEq] at hi0
  obtain ⟨hz0, hz1, hz2⟩ := hi0
  have HI := hide (And.intro hi (And.intro hz0 (And.intro hz1 hz2)))
  have HR := hide (h.turned0 ((Turned.refl [] w).alloc (.cells #[] 3)))
  have HO : Hid ((w.alloc (.cells #[] 3)).ownsRow w.heap.size 3 1 (.slice (some ⟨w.heap.size, 0, none⟩) 0 0) 0 []) := hide ⟨rfl, .inr ⟨w.heap.size, 0, #[], rfl, Nat.le_refl _, heap_alloc_new _ _, Nat.le_refl _, by unfold maxLen; omega, rfl, rfl⟩⟩
  have HT := hide ((Turned.refl [] w).alloc (.cells #[] 3))
  have HLn : Hid (((List.range n).map fun i => Value.int .i64 (g i)).length = n * 1) := hide (by simp)
  have HNw : Hid (∀ j u, ((List.range n).map fun i => Value.int .i64 (g i))[j]? = some u → (w.alloc (.cells #[] 3)).cell? ((⟨q, 0, none⟩ : Addr).add j) = some u) := hide (fun j u hu => by
    rw [Addr.add_lit, Nat.zero_add]
    have hj : j < n := by
      have := (List.getElem?_eq_some_iff.1 hu).1
      simpa using this
    rw [List.getElem?_map, List.getElem?_range hj] at hu
    simp at hu
    subst hu
    exact HR.out.cell hj)
  clear h hi hz0 hz1 hz2
  go_enter Tryz.func85, Tryz.ntmps85
  go_wp2_with (at_builtin; (refine wpList_append_own _ rfl _ _ 23 rfl w.heap.size 3 i0 _ 1 8 Tryz.underlying23 HI.out.1 HI.out.2.1 HI.out.2.2.1 HI.out.2.2.2 rfl (by decide) _ _ _ rfl HO.out ⟨q, 0, none⟩ n c ((List.range n).map fun i => Value.int .i64 (g i)) rfl HLn.out HNw.out (by intro u hu; simp at hu; obtain ⟨i, _, rfl⟩ := hu; rfl) (by unfold maxLen; omega) (by omega) (by simp) ?_); intro v3 w3 ho hg hnil; have HO3 := hide ho; have HG3 := hide hg; have HN3 := hide hnil; clear ho hg hnil)
  have ho := HO3.out
  simp only [Nat.zero_add, List.nil_append] at ho
  go_ret
  refine ⟨v3, rfl, ho, (fun e => by have := (HN3.out.1 e).1; cases this), HT.out.grown HG3.out (fun k hk => .inr ?_)⟩
  have h9 : (Value.slice (some ⟨w.heap.size, 0, none⟩) 0 0).ownBlock = some k := hk
  have : w.heap.size = k := by simpa [Value.ownBlock] using h9
  omega
theorem Tryz.infoPairA : (Tryz.prog.info? 139).map (fun i => (i.zero, i.size, i.bytes)) = some (some (.agg #[.int .i64 0, .int .i64 0]), 2, 16) := by kernel_rfl
def pairsV (g : Nat → Nat → Int) (n : Nat) : List Value := (List.range (n * 2)).map fun j => .int .i64 (g (j / 2) (j % 2))
set_option maxRecDepth 100000 in
theorem aclone_pairs (q n c : Nat) (g : Nat → Nat → Int) (w : World) (h : Rp w q n g) (hn : n ≤ 65536) :
    Calls Tryz.prog 86 #[.slice (some ⟨q, 0, none⟩) n c] w fun e w' => ∃ ao n' c', e = .returned (.slice ao n' c') ∧ Turned [] w w' := by
  have heq := fun w => Lib.run_eql_slice_nil (P := Tryz.prog) w 40 139 (some ⟨q, 0, none⟩) n c 0 0 Tryz.underlying40
  have hbs : ∀ w : World, (Instr.buildSlice 40 0 #[]).run Tryz.prog w = .ok (.slice (some ⟨w.heap.size, 0, none⟩) 0 0) (w.alloc (.cells #[] 139)) := fun _ => by kernel_rfl
  obtain ⟨i0, hi, hi0⟩ := Option.map_eq_some_iff.1 Tryz.infoPairA
  simp only [Prod.mk.injEq] at hi0
  obtain ⟨hz0, hz1, hz2⟩ := hi0
  have HI := hide (And.intro hi (And.intro hz0 (And.intro hz1 hz2)))
  have HR := hide (h.turned0 ((Turned.refl [] w).alloc (.cells #[] 139)))
  have HO : Hid ((w.alloc (.cells #[] 139)).ownsRow w.heap.size 139 2 (.slice (some ⟨w.heap.size, 0, none⟩) 0 0) 0 []) := hide ⟨rfl, .inr ⟨w.heap.size, 0, #[], rfl, Nat.le_refl _, heap_alloc_new _ _, Nat.le_refl _, by unfold maxLen; omega, rfl, rfl⟩⟩
  have HT := hide ((Turned.refl [] w).alloc (.cells #[] 139))
  have HLn : Hid ((pairsV g n).length = n * 2) := hide (by simp [pairsV])
  have HNw : Hid (∀ j u, (pairsV g n)[j]? = some u → (w.alloc (.cells #[] 139)).cell? ((⟨q, 0, none⟩ : Addr).add j) = some u) := hide (fun j u hu => by
    rw [Addr.add_lit, Nat.zero_add]
    have hj : j < n * 2 := by
      have := (List.getElem?_eq_some_iff.1 hu).1
      simpa [pairsV] using this
    unfold pairsV at hu
    rw [List.getElem?_map, List.getElem?_range hj] at hu
    simp at hu
    subst hu
    have := HR.out.cell (i := j / 2) (s := j % 2) (by omega) (by omega)
    rwa [show j / 2 * 2 + j % 2 = j by omega] at this)
  clear h hi hz0 hz1 hz2
  go_enter Tryz.func86, Tryz.ntmps86
  go_wp2_with (at_builtin; (refine wpList_append_own _ rfl _ _ 40 rfl w.heap.size 139 i0 _ 2 16 Tryz.underlying40 HI.out.1 HI.out.2.1 HI.out.2.2.1 HI.out.2.2.2 rfl (by decide) _ _ _ rfl HO.out ⟨q, 0, none⟩ n c (pairsV g n) rfl HLn.out HNw.out (by intro u hu; unfold pairsV at hu; simp at hu; obtain ⟨i, _, rfl⟩ := hu; rfl) (by unfold maxLen; omega) (by omega) (by simp) ?_); intro v3 w3 ho hg hnil; have HO3 := hide ho; have HG3 := hide hg; have HN3 := hide hnil; clear ho hg hnil)
  have hshape : ∃ ao n' c', v3 = .slice ao n' c' := by
    rcases HO3.out.2 with ⟨hv, _⟩ | ⟨g3, cap3, cur3, hv, _⟩
    · exact ⟨none, 0, 0, hv⟩
    · exact ⟨_, _, _, hv⟩
  obtain ⟨ao, n', c', rfl⟩ := hshape
  go_ret
  refine ⟨ao, n', c', rfl, HT.out.grown HG3.out (fun k hk => .inr ?_)⟩
  have h9 : (Value.slice (some ⟨w.heap.size, 0, none⟩) 0 0).ownBlock = some k := hk
  have : w.heap.size = k := by simpa [Value.ownBlock] using h9
  omega
/-- What is told of the copy of Ahead. -/
def QAh (P : PN) (S : Nat → Nat) (ao : Option Addr) (n c : Nat) (w : World) : Prop := n = P.R ∧ ∃ z, ao = some ⟨z, 0, none⟩ ∧ Ah w P S z
theorem QAh_keep (P : PN) (S : Nat → Nat) : KeepQ (QAh P S) := by
  rintro T w1 w2 a n c t hT ⟨h1, z, h2, c0, h3, h4⟩
  refine ⟨h1, z, h2, c0, ?_, h4⟩
  rw [t.block z (lt_of_heap h3) (fun hm => by
    obtain ⟨c2, h5⟩ := hT z hm
    rw [h3] at h5
    cases h5)]
  exact h3
theorem clA_true (q n c : Nat) (g : Nat → Int) (w : World) (h : Ri w 3 q n g) (hn : n ≤ 65536) : ClA 85 (.slice (some ⟨q, 0, none⟩) n c) w (fun _ _ _ _ => True) := fun w' t => by
  refine (aclone_ints q n c g w' (h.turned0 t) hn).mono ?_
  rintro e w'' ⟨v, rfl, ho, hne, t2⟩
  obtain ⟨ao, c', hv⟩ : ∃ ao c', v = .slice ao n c' := by
    rcases ho.2 with ⟨hv, h0⟩ | ⟨g3, cap3, cur3, hv, _⟩
    · exact absurd hv hne
    · exact ⟨_, _, hv⟩
  exact ⟨ao, n, c', by rw [hv], trivial, t2⟩
theorem clA_ah (P : PN) (S : Nat → Nat) (q c : Nat) (w : World) (h : Ah w P S q) (hn : P.R ≤ 65536) : ClA 85 (.slice (some ⟨q, 0, none⟩) P.R c) w (QAh P S) := fun w' t => by
  refine (aclone_ints q P.R c _ w' (h.turned0 t) hn).mono ?_
  rintro e w'' ⟨v, rfl, ho, hne, t2⟩
  rcases ho.2 with ⟨hv, _⟩ | ⟨z, cap, cur, hv, h1, h2, h3, h4, h5, h6⟩
  · exact absurd hv hne
  · refine ⟨_, _, _, by rw [hv], ⟨rfl, z, rfl, cur, h2, fun i hi => ?_⟩, t2⟩
    have h7 : ((List.range P.R).map fun i => Value.int .i64 ((ahR P (live S) i : Nat) : Int))[i]? = some (.int .i64 ((ahR P (live S) i : Nat) : Int)) := by rw [List.getElem?_map, List.getElem?_range hi]; rfl
    rw [← h6, Nat.mul_one, List.getElem?_take_of_lt hi] at h7
    simpa using h7
theorem clA_pairs (q n c : Nat) (g : Nat → Nat → Int) (w : World) (h : Rp w q n g) (hn : n ≤ 65536) : ClA 86 (.slice (some ⟨q, 0, none⟩) n c) w (fun _ _ _ _ => True) := fun w' t => by
  refine (aclone_pairs q n c g w' (h.turned0 t) hn).mono ?_
  rintro e w'' ⟨ao, n', c', rfl, t2⟩
  exact ⟨ao, n', c', rfl, trivial, t2⟩
theorem clA_nil (w : World) : ClA 85 (.slice none 0 0) w (fun _ _ _ _ => True) := fun w' t => by
  refine (aclone_nil w').mono ?_
  rintro e w'' ⟨rfl, rfl⟩
  exact ⟨none, 0, 0, rfl, trivial, Turned.refl _ _⟩
theorem clA_nil2 (w : World) : ClA 86 (.slice none 0 0) w (fun _ _ _ _ => True) := fun w' t => by
  refine (aclone_nil2 w').mono ?_
  rintro e w'' ⟨rfl, rfl⟩
  exact ⟨none, 0, 0, rfl, trivial, Turned.refl _ _⟩
end Go.Proofs.YtpeglndlhjnaaaaGreatDoor

/-
  New: an adjuster, as it is made.
-/
namespace Go.Proofs.YtpeglndlhjnaaaaGreatDoor
open Go.RowKit Bt
set_option linter.unusedVariables false
set_option linter.unusedSimpArgs false

/-- What New makes: its block, its copies. -/
def newC (cp : Nat) (co : Option Addr) (cn ck bp : Nat) (P : PN) (l a wt tk : Value) (shb : Nat) (mo : Option Nat) : Array Value := #[.pointer (some ⟨cp, 0, none⟩), .slice co cn ck, .pointer (some ⟨bp, 0, none⟩), .int .i64 P.f, .int .i64 P.t, .int .i64 P.k, .int .i64 P.d, .int .i64 P.e, l, a, wt, tk, .pointer (some ⟨shb, 0, none⟩), .map mo, .int .i64 0]

set_option maxHeartbeats 8000000 in
set_option maxRecDepth 100000 in
/-- New, whatever its lists: what lies in memory then. -/
theorem anew_mem (w : World) (P : PN) (F : Nat → Nat → Bool) (cp cq kp kq bp bq N n : Nat) (hw : List Int) (ac : Int) (cl : List Int) (cc : Int) (co lo ao wo to_ : Option Addr) (cn ck ln lc an ac2 wn wd tn tc : Nat) (Q R : Option Addr → Nat → Nat → World → Prop) (hQ : KeepQ Q) (hR : ∀ (T : List Nat) (w1 w2 : World) (a : Option Addr) (n c : Nat), Turned T w1 w2 → (∀ i, i ∈ T → w.heap.size ≤ i ∧ ∃ c, w1.heap[i]? = some (.cells c 98)) → R a n c w1 → R a n c w2)
    (hQ2 : ∀ (T : List Nat) (w1 w2 : World) (a : Option Addr) (n c : Nat), Turned T w1 w2 → (∀ i, i ∈ T → w.heap.size ≤ i ∧ ∃ c, w1.heap[i]? = some (.cells c 98)) → Q a n c w1 → Q a n c w2)
    (hm : Mem w cp cq hw ac) (hmk : Mem w kp kq cl cc) (hlen : hw.length = N) (hck : cp ≠ kp ∧ cp ≠ kq ∧ cq ≠ kp ∧ cq ≠ kq) (hcl : 0 < cl.length ∧ cl.length ≤ 65536) (hb : Bts w bp bq N F)
    (hok : P.Ok) (hft : P.f ≤ P.t) (htN : P.t ≤ N) (hk : 1 ≤ P.k) (hn : 1 ≤ n ∧ n ≤ 64)
    (hC0 : ∀ w', Turned [kp, kq] w w' → ClA 38 (.slice co cn ck) w' R)
    (h1 : ∀ w', Turned [kp, kq] w w' → ClA 85 (.slice lo ln lc) w' (fun _ _ _ _ => True)) (h2 : ∀ w', Turned [kp, kq] w w' → ClA 85 (.slice ao an ac2) w' Q) (h3 : ∀ w', Turned [kp, kq] w w' → ClA 85 (.slice wo wn wd) w' (fun _ _ _ _ => True)) (h4 : ∀ w', Turned [kp, kq] w w' → ClA 86 (.slice to_ tn tc) w' (fun _ _ _ _ => True)) :
    Calls Tryz.prog 11 #[.pointer (some ⟨cp, 0, none⟩), .slice co cn ck, .pointer (some ⟨bp, 0, none⟩), .agg (plC P (.slice lo ln lc) (.slice ao an ac2) (.slice wo wn wd) (.slice to_ tn tc)), .pointer (some ⟨kp, 0, none⟩), .int .i64 (n : Int)] w fun e w' =>
      ∃ (ab shb mb : Nat) (co' : Option Addr) (cn' ck' : Nat) (l' : Value) (ao' : Option Addr) (an' ac' : Nat) (wt' tk' : Value), e = .returned (.tuple #[.pointer (some ⟨ab, 0, none⟩), .int .i64 0]) ∧ w'.heap[ab]? = some (.cells (newC cp co' cn' ck' bp P l' (.slice ao' an' ac') wt' tk' shb (some mb)) 98) ∧ R co' cn' ck' w' ∧ Q ao' an' ac' w' ∧ Gs.Sh w' shb kp kq (cl.set 0 0) cc 0 (P.R : Int) ∧ WM w' mb n (newF mb n) ∧ (∀ k, k < n → w'.heap[mb + 1 + k]? = some (.cells (wkA (mb + 1 + k) ab w0A (.slice none 0 0)) 103)) ∧ w.heap.size ≤ shb ∧ w.heap.size ≤ ab ∧ ab < mb ∧ Turned [kp, kq] w w' := by
  have hN6 := hb.few
  have HWd := hide (fun (w' : World) (t : Turned [] w w') => words_any (some ⟨bp, 0, none⟩) N F w' (hb.turned0 t).brd)
  have HLn := hide (fun (w' : World) (t : Turned [] w w') => len_mem cp cq hw ac w' (hm.turned t (by simp) (by simp)))
  rw [hlen] at HLn
  have HWi := hide (fun (w' : World) (t : Turned [] w w') => awithin_any w' P (.slice lo ln lc) (.slice ao an ac2) (.slice wo wn wd) (.slice to_ tn tc) cp cq hw ac (hm.turned t (by simp) (by simp)) hft hk)
  rw [hlen, decide_eq_true htN] at HWi
  have HRg := hide (fun (w' : World) => aregions_any w' P hok (.slice lo ln lc) (.slice ao an ac2) (.slice wo wn wd) (.slice to_ tn tc) hft (by omega))
  have HSh := hide (fun (w' : World) (t : Turned [] w w') => Gs.snew_ok w' kp kq cl cc 0 (P.R : Int) (hmk.turned t (by simp) (by simp)) hcl.1 hcl.2 (by omega))
  have HCp := hide (fun (w' : World) (t : Turned [kp, kq] w w') => acopied_any w' P lo ao wo to_ ln lc an ac2 wn wd tn tc Q hQ (h1 w' t) (h2 w' t) (h3 w' t) (h4 w' t))
  have HCl := hide hC0
  have HQ := hide hQ
  have HR := hide hR
  have HQ2 := hide hQ2
  have HKl := hide (And.intro hmk.ltp hmk.ltq)
  unfold Gs.ptr at HSh
  unfold plC at HWi HRg HCp
  clear hm hmk hlen hck hcl hb hok hft htN hk hC0 h1 h2 h3 h4 hQ hR hQ2
  obtain ⟨bl, hbl⟩ : ∃ bl, bl = w.heap.size := ⟨_, rfl⟩
  obtain ⟨w0, hw0⟩ : ∃ w0, w0 = w.alloc (.cells #[.int .i64 P.f, .int .i64 P.t, .int .i64 P.k, .int .i64 P.d, .int .i64 P.e, .slice lo ln lc, .slice ao an ac2, .slice wo wn wd, .slice to_ tn tc] 42) := ⟨_, rfl⟩
  have hh0 : w0.heap[bl]? = some (.cells #[.int .i64 P.f, .int .i64 P.t, .int .i64 P.k, .int .i64 P.d, .int .i64 P.e, .slice lo ln lc, .slice ao an ac2, .slice wo wn wd, .slice to_ tn tc] 42) := by rw [hw0, hbl]; exact heap_alloc_new _ _
  have HT0 : Hid (Turned [] w w0) := hide (by rw [hw0]; exact (Turned.refl [] w).alloc _)
  have HBl := hide (show w.heap.size ≤ bl by omega)
  have HD : Hid (∀ (T : List Nat) (w' : World), Turned T w0 w' → bl ∉ T → w'.cell? ⟨bl, 0, none⟩ = some (.int .i64 P.f) ∧ w'.cell? ⟨bl, 1, none⟩ = some (.int .i64 P.t) ∧ w'.cell? ⟨bl, 2, none⟩ = some (.int .i64 P.k) ∧ w'.cell? ⟨bl, 3, none⟩ = some (.int .i64 P.d) ∧ w'.cell? ⟨bl, 4, none⟩ = some (.int .i64 P.e) ∧ w'.cell? ⟨bl, 5, none⟩ = some (.slice lo ln lc) ∧ w'.cell? ⟨bl, 6, none⟩ = some (.slice ao an ac2) ∧ w'.cell? ⟨bl, 7, none⟩ = some (.slice wo wn wd) ∧ w'.cell? ⟨bl, 8, none⟩ = some (.slice to_ tn tc)) := hide (fun T w' t hT => by
    have h := (t.block bl (lt_of_heap hh0) hT).trans hh0
    refine ⟨?_, ?_, ?_, ?_, ?_, ?_, ?_, ?_, ?_⟩ <;> (rw [cell_of_heap h]; rfl))
  obtain ⟨d0, d1, d2, d3, d4, d5, d6, d7, d8⟩ := HD.out [] w0 (Turned.refl _ _) (by simp)
  have hn1 : ¬ (n : Int) < 1 := by omega
  have hn2 : ¬ (n : Int) > 64 := by omega
  have hn3 : ¬ (64 : Int) < (n : Int) := by omega
  clear hh0
  unfold plC
  go_enter Tryz.func11, Tryz.ntmps11
  go_upto_region 1 with fail
  rw [← hw0, ← hbl]
  clear hw0 hbl
  go_wp2_with fail
  refine (HWd.out _ HT0.out).mono ?_
  rintro e w1 ⟨rfl, hw1⟩
  rw [hw1]; clear hw1 w1 HWd
  go_wp2_with fail
  refine (HLn.out _ HT0.out).mono ?_
  rintro e w1 ⟨rfl, hw1⟩
  rw [hw1]; clear hw1 w1 HLn
  go_wp2_with fail
  refine (HWi.out _ HT0.out).mono ?_
  rintro e w1 ⟨rfl, t1⟩
  have HT1 := hide (HT0.out.trans t1)
  have HU1 := hide t1
  obtain ⟨e0, e1, e2, e3, e4, e5, e6, e7, e8⟩ := HD.out [] w1 t1 (by simp)
  clear t1 HWi d0 d1 d2 d3 d4 d5 d6 d7 d8
  go_wp2_with fail
  refine (HRg.out _).mono ?_
  rintro e w2 ⟨rfl, t2⟩
  have HT2 := hide (HT1.out.trans t2)
  have HU2 := hide (HU1.out.trans t2)
  clear t2 HRg HT1 HU1 e0 e1 e2 e3 e4 e5 e6 e7 e8
  go_wp2_with fail
  refine (HSh.out _ HT2.out).mono ?_
  rintro e w3 ⟨rfl, hsh, t3⟩
  obtain ⟨shb, hshb⟩ : ∃ shb, shb = w2.heap.size := ⟨_, rfl⟩
  rw [← hshb] at hsh ⊢
  have HSb := hide (show w.heap.size ≤ shb by rw [hshb]; exact HT2.out.size)
  have HSh3 := hide hsh
  have HT3 : Hid (Turned [kp, kq] w w3) := hide ((HT2.out.mono (by simp)).trans t3)
  have HU3 : Hid (Turned [kp, kq] w0 w3) := hide ((HU2.out.mono (by simp)).trans t3)
  have HNk : Hid (bl ∉ [kp, kq]) := hide (by have := HKl.out; have := HBl.out; simp; omega)
  have HTd := hide (Turned.refl [] w3).drew
  obtain ⟨d0, d1, d2, d3, d4, d5, d6, d7, d8⟩ := HD.out [kp, kq] w3.drew (HU3.out.trans_new HTd.out (by simp)) HNk.out
  clear hsh t3 hshb HSh HT2 HU2
  go_wp2_with fail
  go_region_held3 (fun w' => w'.cell? ⟨bl, 0, none⟩ = some (.int .i64 P.f) ∧ w'.cell? ⟨bl, 1, none⟩ = some (.int .i64 P.t) ∧ w'.cell? ⟨bl, 2, none⟩ = some (.int .i64 P.k) ∧ w'.cell? ⟨bl, 3, none⟩ = some (.int .i64 P.d) ∧ w'.cell? ⟨bl, 4, none⟩ = some (.int .i64 P.e) ∧ w'.cell? ⟨bl, 5, none⟩ = some (.slice lo ln lc) ∧ w'.cell? ⟨bl, 6, none⟩ = some (.slice ao an ac2) ∧ w'.cell? ⟨bl, 7, none⟩ = some (.slice wo wn wd) ∧ w'.cell? ⟨bl, 8, none⟩ = some (.slice to_ tn tc)) (go_keep)
    (first
      | (go_at_call 38; refine (HCl.out w3 HT3.out _ HTd.out).mono ?_; rintro e w4 ⟨co', cn', ck', rfl, hr, t4⟩; have HR4 := hide hr; have HU4 := hide (HTd.out.trans t4); obtain ⟨y0, y1, y2, y3, y4, y5, y6, y7, y8⟩ := HD.out [kp, kq] w4 (HU3.out.trans_new HU4.out (by simp)) HNk.out; clear hr t4)
      | (go_at_call 39; refine (HCp.out w4 (HT3.out.trans_new HU4.out (by simp))).mono ?_; rintro e w5 ⟨lo1, ao1, wo1, to1, ln1, lc1, an1, ac1, wn1, wc1, tn1, tc1, rfl, hq, t5⟩; have HQ5 := hide hq; have HR5 := hide (HR.out [] w4 w5 _ _ _ t5 (by simp) HR4.out); have HU5 := hide (HU4.out.trans t5); obtain ⟨z0, z1, z2, z3, z4, z5, z6, z7, z8⟩ := HD.out [kp, kq] w5 (HU3.out.trans_new HU5.out (by simp)) HNk.out; clear hq t5))
  clear d0 d1 d2 d3 d4 d5 d6 d7 d8 y0 y1 y2 y3 y4 y5 y6 y7 y8 z0 z1 z2 z3 z4 z5 z6 z7 z8 HCl HCp HU4 HR4 HD HTd
  obtain ⟨ab, hab⟩ : ∃ ab, ab = w5.heap.size := ⟨_, rfl⟩
  obtain ⟨w6, hw6⟩ : ∃ w6, w6 = w5.alloc (.cells (newC cp co' cn' ck' bp P (.slice lo1 ln1 lc1) (.slice ao1 an1 ac1) (.slice wo1 wn1 wc1) (.slice to1 tn1 tc1) shb none) 98) := ⟨_, rfl⟩
  have h6 : w6.heap[ab]? = some (.cells (newC cp co' cn' ck' bp P (.slice lo1 ln1 lc1) (.slice ao1 an1 ac1) (.slice wo1 wn1 wc1) (.slice to1 tn1 tc1) shb none) 98) := by rw [hw6, hab]; exact heap_alloc_new _ _
  have t56 : Turned [] w5 w6 := by rw [hw6]; exact (Turned.refl [] w5).alloc _
  have HT6 : Hid (Turned [kp, kq] w w6) := hide ((HT3.out.trans_new HU5.out (by simp)).trans_new t56 (by simp))
  have HU6 : Hid (Turned [] w3 w6) := hide (HU5.out.trans t56)
  have HQ6 := hide (HQ.out.t0 t56 HQ5.out)
  have HR6 := hide (HR.out [] w5 w6 _ _ _ t56 (by simp) HR5.out)
  have HAb := hide (show w.heap.size ≤ ab by rw [hab]; exact (HT3.out.trans_new HU5.out (by simp) : Turned [kp, kq] w w5).size)
  have HNw := hide (anewWorkers w6 ab n hn.2 (lt_of_heap h6))
  obtain ⟨mb, hmb⟩ : ∃ mb, mb = w6.heap.size := ⟨_, rfl⟩
  rw [← hmb] at HNw
  have HAm := hide (show ab < mb by rw [hmb]; exact lt_of_heap h6)
  have HH6 := hide h6
  unfold newC at hw6
  rw [← hab, ← hw6]
  clear hw6 hab h6 t56 hmb HQ5 HR5 HU5 HT3
  go_wp2_with fail
  refine (HNw.out).mono ?_
  rintro e w7 ⟨rfl, hmp, hwk, t7⟩
  have h7 : w7.heap[ab]? = some (.cells (newC cp co' cn' ck' bp P (.slice lo1 ln1 lc1) (.slice ao1 an1 ac1) (.slice wo1 wn1 wc1) (.slice to1 tn1 tc1) shb none) 98) := by rw [t7.block ab (lt_of_heap HH6.out) (by simp)]; exact HH6.out
  have c13 : w7.cell? ⟨ab, 13, none⟩ = some (.map none) := by rw [cell_of_heap h7]; rfl
  have f13 : w7.frozen? ⟨ab, 13, none⟩ = false := by simp [World.frozen?, h7]
  have bl7 := lt_of_heap h7
  obtain ⟨w8, hw8⟩ : ∃ w8, w8 = w7.setCell ⟨ab, 13, none⟩ (.map (some mb)) := ⟨_, rfl⟩
  have t78 : Turned [ab] w7 w8 := by rw [hw8]; exact (Turned.refl [ab] w7).setCell (p := ⟨ab, 13, none⟩) (.inl (by simp)) _
  have HH8 : Hid (w8.heap[ab]? = some (.cells (newC cp co' cn' ck' bp P (.slice lo1 ln1 lc1) (.slice ao1 an1 ac1) (.slice wo1 wn1 wc1) (.slice to1 tn1 tc1) shb (some mb)) 98)) := hide (by rw [hw8, heap_setCell_at _ _ 13 _ _ _ h7]; rfl)
  have HR8 := hide (HR.out [ab] w7 w8 _ _ _ t78 (fun i hi => by simp at hi; subst hi; exact ⟨HAb.out, _, h7⟩) (HR.out [] w6 w7 _ _ _ t7 (by simp) HR6.out))
  have HQ8 := hide (HQ2.out [ab] w7 w8 _ _ _ t78 (fun i hi => by simp at hi; subst hi; exact ⟨HAb.out, _, h7⟩) (HQ.out.t0 t7 HQ6.out))
  have hsh7 := HSh3.out.turned0 (HU6.out.trans t7)
  have hkab : kp ≠ ab ∧ kq ≠ ab := by have := HKl.out; have := HAb.out; omega
  have HS8 := hide (hsh7.turned t78 (by simpa using ne_of_type hsh7.obj h7 (by decide)) (by simpa using hkab.1) (by simpa using hkab.2))
  have hmn : mb ≠ ab := by have := HAm.out; omega
  have HM8 : Hid (WM w8 mb n (newF mb n)) := hide (hmp.block (t78.block mb hmp.lt (by simpa using hmn)))
  have HW8 : Hid (∀ k, k < n → w8.heap[mb + 1 + k]? = some (.cells (wkA (mb + 1 + k) ab w0A (.slice none 0 0)) 103)) := hide (fun k hk => by
    have h0 := hwk k hk
    rw [t78.block _ (lt_of_heap h0) (by simp; have := HAm.out; omega)]; exact h0)
  have HT8 : Hid (Turned [kp, kq] w w8) := hide ((HT6.out.trans_new t7 (by simp)).trans_new t78 (fun i hi => by simp at hi; subst hi; exact .inr HAb.out))
  clear hmp hwk t7 h7 t78 hsh7 hkab hmn HNw HH6 HR6 HQ6 HU6 HT6 HSh3 HU3
  go_upto_region 8 with fail
  rw [← hw8]
  clear hw8 c13 f13 bl7
  go_wp2_with fail
  go_ret2
  exact ⟨ab, shb, mb, co', cn', ck', .slice lo1 ln1 lc1, ao1, an1, ac1, .slice wo1 wn1 wc1, .slice to1 tn1 tc1, rfl, HH8.out, HR8.out, HQ8.out, HS8.out, HM8.out, HW8.out, HSb.out, HAb.out, HAm.out, HT8.out⟩
end Go.Proofs.YtpeglndlhjnaaaaGreatDoor

/-
  New at a plan that was made: an adjuster in its first state.
-/
namespace Go.Proofs.YtpeglndlhjnaaaaGreatDoor
open Go.RowKit Bt
set_option linter.unusedVariables false
set_option linter.unusedSimpArgs false

/-- The first state. -/
def s0A (hw : List Int) (ac : Int) (cl : List Int) (cc : Int) (n : Nat) : AdS := ⟨hw, ac, cl.set 0 0, cc, List.replicate n w0A, 0⟩
theorem rp_ty {w w' : World} {q n : Nat} {g : Nat → Nat → Int} (h : Rp w q n g) {T : List Nat} (t : Turned T w w') (hT : ∀ c, w.heap[q]? = some (.cells c 139) → q ∉ T) : Rp w' q n g := by
  obtain ⟨c, h1, h2⟩ := h
  exact ⟨c, by rw [t.block q (lt_of_heap h1) (hT c h1)]; exact h1, h2⟩
set_option maxHeartbeats 1000000 in
theorem anew_ok (w : World) (P : PN) (S : Nat → Nat) (cs : List Cls) (cp cq kp kq bp bq N n : Nat) (hw : List Int) (ac : Int) (cl : List Int) (cc : Int) (cb coff cn ck lq lc aq ac2 wq wc tq tc : Nat) (g1 g3 : Nat → Int) (g4 : Nat → Nat → Int)
    (hm : Mem w cp cq hw ac) (hmk : Mem w kp kq cl cc) (hlen : hw.length = N) (hck : cp ≠ kp ∧ cp ≠ kq ∧ cq ≠ kp ∧ cq ≠ kq) (hcl : 0 < cl.length ∧ cl.length ≤ 65536) (hb : Bts w bp bq N (sidesOf S)) (hs : Bl N S)
    (hok : P.Ok) (hfd : P.f ≤ P.d) (hdt : P.d ≤ P.t) (htN : P.t ≤ N) (hk : 1 ≤ P.k) (hR6 : P.R ≤ 65536) (hins : ∀ i, 0 < S i → P.f ≤ i ∧ i < P.t) (hn : 1 ≤ n ∧ n ≤ 64) (hpos : 0 < w.heap.size ∧ 0 < cp ∧ 0 < cq ∧ 0 < kp ∧ 0 < kq)
    (hC0 : CRow w (some ⟨cb, coff, none⟩) cn cs) (hcn : 0 < cn ∧ cn ≤ 65536) (h1 : Ri w 3 lq P.R g1) (h2 : Ah w P S aq) (h3 : Ri w 3 wq P.R g3) (h4 : Rp w tq P.R g4) :
    Calls Tryz.prog 11 #[.pointer (some ⟨cp, 0, none⟩), .slice (some ⟨cb, coff, none⟩) cn ck, .pointer (some ⟨bp, 0, none⟩), .agg (plC P (.slice (some ⟨lq, 0, none⟩) P.R lc) (.slice (some ⟨aq, 0, none⟩) P.R ac2) (.slice (some ⟨wq, 0, none⟩) P.R wc) (.slice (some ⟨tq, 0, none⟩) P.R tc)), .pointer (some ⟨kp, 0, none⟩), .int .i64 (n : Int)] w fun e w' =>
      ∃ I : AdI, e = .returned (.tuple #[.pointer (some ⟨I.ab, 0, none⟩), .int .i64 0]) ∧ Ad w' I P S cs (s0A hw ac cl cc n) ∧ I.cp = cp ∧ I.cq = cq ∧ I.kp = kp ∧ I.kq = kq ∧ I.bp = bp ∧ I.bq = bq ∧ I.N = N ∧ I.ws.length = n ∧ (∀ i, i ∈ I.ab :: I.mb :: I.ws → w.heap.size ≤ i) ∧ Turned [kp, kq] w w' := by
  have hty : ∀ (x : Nat) (c : Array Value) (e : TypeId) (fr : Nat × Nat), w.heap[x]? = some (.cells c e fr) → e ≠ 86 → e ≠ 2 → x ∉ [kp, kq] := by
    intro x c e fr hx e1 e2 hmem
    simp at hmem
    rcases hmem with rfl | rfl
    · rw [hmk.head] at hx; cases hx; exact e1 rfl
    · rw [hmk.row] at hx; cases hx; exact e2 rfl
  have ri' : ∀ {q n : Nat} {g : Nat → Int} (w' : World), Turned [kp, kq] w w' → Ri w 3 q n g → Ri w' 3 q n g := fun {q n g} w' t h => h.turned t (by obtain ⟨c, hc, _⟩ := h; exact hty _ _ _ _ hc (by decide) (by decide))
  refine (anew_mem w P (sidesOf S) cp cq kp kq bp bq N n hw ac cl cc (some ⟨cb, coff, none⟩) (some ⟨lq, 0, none⟩) (some ⟨aq, 0, none⟩) (some ⟨wq, 0, none⟩) (some ⟨tq, 0, none⟩) cn ck P.R lc P.R ac2 P.R wc P.R tc (QAh P S) (fun ao n' c' w' => n' = cn ∧ ∃ z, ao = some ⟨z, 0, none⟩ ∧ CRow w' (some ⟨z, 0, none⟩) cn cs) (QAh_keep P S) ?_ ?_ hm hmk hlen hck hcl hb hok (Nat.le_trans hfd hdt) htN hk hn ?_ (fun w' t => clA_true lq P.R lc g1 w' (ri' w' t h1) hR6) (fun w' t => clA_ah P S aq ac2 w' (ri' w' t h2) hR6) (fun w' t => clA_true wq P.R wc g3 w' (ri' w' t h3) hR6) (fun w' t => clA_pairs tq P.R tc g4 w' (rp_ty h4 t (fun c hc => hty _ _ _ _ hc (by decide) (by decide))) hR6)).mono ?_
  · rintro T w1 w2 a n' c' t hT ⟨e1, z, e2, h⟩
    exact ⟨e1, z, e2, h.keep t (fun k hk => by obtain ⟨_, c, hc⟩ := hT k hk; exact ⟨c, _, _, hc, by decide⟩)⟩
  · rintro T w1 w2 a n' c' t hT ⟨e1, z, e2, c0, hz, hg⟩
    refine ⟨e1, z, e2, c0, ?_, hg⟩
    rw [t.block z (lt_of_heap hz) (fun hmem => by
      obtain ⟨_, c2, h5⟩ := hT z hmem
      rw [hz] at h5
      cases h5)]
    exact hz
  · intro w' t w1 t1
    have hcr : CRow w1 (some ⟨cb, coff, none⟩) cn cs := (hC0.turned t (fun b off spot e => by
      obtain ⟨c, fr, hc⟩ := hC0.row b off spot e
      exact hty _ _ _ _ hc (by decide) (by decide))).turned0 t1
    refine (clone_cls cb coff cn ck cs w1 hcr.rd hcn.2 hcn.1).mono ?_
    rintro e w2 ⟨g, cap, rfl, h5, h6, t2⟩
    exact ⟨_, _, _, rfl, ⟨rfl, g, rfl, h5⟩, t2⟩
  · rintro e w' ⟨ab, shb, mb, co', cn', ck', l', ao', an', ac', wt', tk', rfl, hh, ⟨rfl, z, rfl, hcr⟩, ⟨rfl, z2, rfl, hah⟩, hsh, hmp, hwk, hsb, hab, ham, ht⟩
    have hN6 := hb.few
    refine ⟨⟨ab, mb, cp, cq, kp, kq, bp, bq, shb, z2, ac', N, wksA mb n, l', wt', tk', some ⟨z, 0, none⟩, cn', ck'⟩, rfl, ⟨⟨hs, hok, hfd, hdt, htN, hins, hN6, by show (wksA mb n).length ≤ 64; rw [wksA_len]; exact hn.2, ?_, hck, ⟨by show 0 < ab; omega, by show 0 < mb; omega, hpos.2.1, hpos.2.2.1, hpos.2.2.2.1, hpos.2.2.2.2, ?_⟩⟩, ?_, hah, hcr, hsh, hm.turned ht (by simp; omega) (by simp; omega), hh, ⟨n, hn.2, hmp.congr ?_⟩, by show (List.replicate n w0A).length = _; rw [List.length_replicate, wksA_len], ?_⟩, rfl, rfl, rfl, rfl, rfl, rfl, rfl, wksA_len mb n, ?_, ht⟩
    · intro i j b hi hj
      have hi' : (wksA mb n)[i]? = some b := hi
      have hj' : (wksA mb n)[j]? = some b := hj
      have li := (List.getElem?_eq_some_iff.1 hi').1
      have lj := (List.getElem?_eq_some_iff.1 hj').1
      rw [wksA_len] at li lj
      rw [wksA_get li] at hi'
      rw [wksA_get lj] at hj'
      cases hi'
      have := Option.some.inj hj'
      omega
    · intro b hb'
      have hb2 : b ∈ wksA mb n := hb'
      unfold wksA at hb2
      obtain ⟨k, _, rfl⟩ := List.mem_map.1 hb2
      omega
    · refine hb.turned ht (hty _ _ _ _ hb.head (by decide) (by decide)) ?_ (by simp; omega)
      obtain ⟨c, hc, _⟩ := hb.row
      exact hty _ _ _ _ hc (by decide) (by decide)
    · intro x
      show newF mb n x = mapA _ (List.replicate n w0A) x
      unfold newF mapA
      by_cases h0 : x < 0
      · rw [if_pos h0, if_neg (by omega)]
      · rw [if_neg h0]
        by_cases h9 : x < (n : Int)
        · rw [if_pos (by omega), List.getElem?_replicate, if_pos (by omega)]
          dsimp only
          rw [if_pos (show w0A.on = true from rfl), wksA_get (by omega)]
        · rw [if_neg (by omega), List.getElem?_replicate, if_neg (by omega)]
    · intro k x hx
      have hx' : (List.replicate n w0A)[k]? = some x := hx
      rw [List.getElem?_replicate] at hx'
      split at hx'
      · rename_i hkn
        cases hx'
        exact ⟨mb + 1 + k, .slice none 0 0, wksA_get hkn, hwk k hkn, .inl ⟨rfl, none, 0, rfl⟩⟩
      · cases hx'
    · intro i hi
      simp only [List.mem_cons] at hi
      rcases hi with e | e | hi
      · rw [e]; exact hab
      · rw [e]; show w.heap.size ≤ mb; omega
      · have hb2 : i ∈ wksA mb n := hi
        unfold wksA at hb2
        obtain ⟨k, _, rfl⟩ := List.mem_map.1 hb2
        omega
end Go.Proofs.YtpeglndlhjnaaaaGreatDoor

/-
  New, refused: a plan beyond the heap, too many workers, no heap.
-/
namespace Go.Proofs.YtpeglndlhjnaaaaGreatDoor
open Go.RowKit Bt
set_option linter.unusedVariables false
set_option linter.unusedSimpArgs false

set_option maxHeartbeats 4000000 in
set_option maxRecDepth 100000 in
theorem anew_no (w : World) (P : PN) (F : Nat → Nat → Bool) (cp cq bp bq N n : Nat) (hw : List Int) (ac : Int) (co : Option Addr) (cn ck : Nat) (l a wt tk : Value) (ko : Option Addr) (hm : Mem w cp cq hw ac) (hlen : hw.length = N) (hb : Bts w bp bq N F) (hft : P.f ≤ P.t) (hk : 1 ≤ P.k) (hbad : ¬ P.t ≤ N ∨ 64 < n) :
    Calls Tryz.prog 11 #[.pointer (some ⟨cp, 0, none⟩), .slice co cn ck, .pointer (some ⟨bp, 0, none⟩), .agg (plC P l a wt tk), .pointer ko, .int .i64 (n : Int)] w fun e w' => e = .returned (.tuple #[.pointer none, .int .i64 1]) ∧ Turned [] w w' := by
  have HWd := hide (fun (w' : World) (t : Turned [] w w') => words_any (some ⟨bp, 0, none⟩) N F w' (hb.turned0 t).brd)
  have HLn := hide (fun (w' : World) (t : Turned [] w w') => len_mem cp cq hw ac w' (hm.turned t (by simp) (by simp)))
  rw [hlen] at HLn
  have HWi := hide (fun (w' : World) (t : Turned [] w w') => awithin_any w' P l a wt tk cp cq hw ac (hm.turned t (by simp) (by simp)) hft hk)
  rw [hlen] at HWi
  unfold plC at HWi
  clear hm hlen hb hft hk
  obtain ⟨bl, hbl⟩ : ∃ bl, bl = w.heap.size := ⟨_, rfl⟩
  obtain ⟨w0, hw0⟩ : ∃ w0, w0 = w.alloc (.cells #[.int .i64 P.f, .int .i64 P.t, .int .i64 P.k, .int .i64 P.d, .int .i64 P.e, l, a, wt, tk] 42) := ⟨_, rfl⟩
  have hh0 : w0.heap[bl]? = some (.cells #[.int .i64 P.f, .int .i64 P.t, .int .i64 P.k, .int .i64 P.d, .int .i64 P.e, l, a, wt, tk] 42) := by rw [hw0, hbl]; exact heap_alloc_new _ _
  have HT0 : Hid (Turned [] w w0) := hide (by rw [hw0]; exact (Turned.refl [] w).alloc _)
  have d0 : w0.cell? ⟨bl, 0, none⟩ = some (.int .i64 P.f) := by rw [cell_of_heap hh0]; rfl
  have d1 : w0.cell? ⟨bl, 1, none⟩ = some (.int .i64 P.t) := by rw [cell_of_heap hh0]; rfl
  have d2 : w0.cell? ⟨bl, 2, none⟩ = some (.int .i64 P.k) := by rw [cell_of_heap hh0]; rfl
  have d3 : w0.cell? ⟨bl, 3, none⟩ = some (.int .i64 P.d) := by rw [cell_of_heap hh0]; rfl
  have d4 : w0.cell? ⟨bl, 4, none⟩ = some (.int .i64 P.e) := by rw [cell_of_heap hh0]; rfl
  have d5 : w0.cell? ⟨bl, 5, none⟩ = some l := by rw [cell_of_heap hh0]; rfl
  have d6 : w0.cell? ⟨bl, 6, none⟩ = some a := by rw [cell_of_heap hh0]; rfl
  have d7 : w0.cell? ⟨bl, 7, none⟩ = some wt := by rw [cell_of_heap hh0]; rfl
  have d8 : w0.cell? ⟨bl, 8, none⟩ = some tk := by rw [cell_of_heap hh0]; rfl
  have HBad := hide hbad
  clear hh0 hbad
  unfold plC
  go_enter Tryz.func11, Tryz.ntmps11
  go_upto_region 1 with fail
  rw [← hw0, ← hbl]
  clear hw0 hbl
  go_wp2_with fail
  refine (HWd.out _ HT0.out).mono ?_
  rintro e w1 ⟨rfl, hw1⟩
  rw [hw1]; clear hw1 w1 HWd
  go_wp2_with fail
  refine (HLn.out _ HT0.out).mono ?_
  rintro e w1 ⟨rfl, hw1⟩
  rw [hw1]; clear hw1 w1 HLn
  go_wp2_with fail
  refine (HWi.out _ HT0.out).mono ?_
  rintro e w1 ⟨rfl, t1⟩
  have HT1 := hide (HT0.out.trans t1)
  clear t1 HWi d0 d1 d2 d3 d4 d5 d6 d7 d8
  by_cases hin : P.t ≤ N
  · have h6 : 64 < n := HBad.out.resolve_left (fun h => h hin)
    rw [decide_eq_true hin]
    have hn1 : ¬ (n : Int) < 1 := by omega
    have hn3 : (64 : Int) < (n : Int) := by omega
    clear hin h6
    go_wp2_with fail
    go_ret2
    exact ⟨rfl, HT1.out⟩
  · rw [decide_eq_false hin]
    clear hin
    go_wp2_with fail
    go_ret2
    exact ⟨rfl, HT1.out⟩
set_option maxHeartbeats 4000000 in
set_option maxRecDepth 100000 in
theorem anew_none (w : World) (co : Option Addr) (cn ck : Nat) (bo ko : Option Addr) (P : PN) (l a wt tk : Value) (n : Int) :
    Calls Tryz.prog 11 #[.pointer none, .slice co cn ck, .pointer bo, .agg (plC P l a wt tk), .pointer ko, .int .i64 n] w fun e w' => e = .returned (.tuple #[.pointer none, .int .i64 1]) ∧ Turned [] w w' := by
  unfold plC
  have HT := hide ((Turned.refl [] w).alloc (.cells #[.int .i64 P.f, .int .i64 P.t, .int .i64 P.k, .int .i64 P.d, .int .i64 P.e, l, a, wt, tk] 42))
  go_enter Tryz.func11, Tryz.ntmps11
  go_wp2_with fail
  go_ret2
  exact ⟨rfl, HT.out⟩
theorem aclone_cnil (w : World) : Calls Tryz.prog 38 #[.slice none 0 0] w fun e w' => e = .returned (.slice none 0 0) ∧ w' = w := by
  have heq := fun w => Lib.run_eql_slice_nil (P := Tryz.prog) w 45 94 none 0 0 0 0 Tryz.underlying45
  go_enter Tryz.func38, Tryz.ntmps38
  go_wp2_with fail
  go_ret
  exact ⟨rfl, rfl⟩
theorem clA_cnil (w : World) : ClA 38 (.slice none 0 0) w (fun _ _ _ _ => True) := fun w' t => by
  refine (aclone_cnil w').mono ?_
  rintro e w'' ⟨rfl, rfl⟩
  exact ⟨none, 0, 0, rfl, trivial, Turned.refl _ _⟩
end Go.Proofs.YtpeglndlhjnaaaaGreatDoor

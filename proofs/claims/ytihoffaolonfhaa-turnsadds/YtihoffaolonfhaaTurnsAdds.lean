/-
  The statement TurnsAdds is proved: for every slice of numbers the law returns true and its argument reads as before; no condition.
-/
import Derived.Test.YtihoffaolonfhaaTurnsAddsP
import Derived.Laws.AppendOwnNone
import Derived.SizedLaws
namespace Go.Proofs.Ytihoffaolonfhaa
open Go.RowKit Go.ChangeShapes Go.WideShapes Go.ChangeAt
set_option linter.unusedVariables false

/-- The law's own memory, as it is made. -/
theorem ad_made {B : Nat} {w2 w4 : World} {p : Nat} {v : Value} {l : List Int} {len base : Nat} (h2 : Trn B w2 p [p] []) (ht : Turned [] w2 w4) (ho : w4.ownsRow base 3 1 v (1 + len) (.int .i64 1 :: l.map (Value.int .i64))) (hl : len ≤ 4611686018427387904) (hB : B ≤ base) (hb2 : B ≤ w2.heap.size) :
    ∃ ao cap, v = .slice ao (1 + len) cap ∧ Ad B ((w4.alloc (.cells #[v, .int .i64 0] 37)).alloc (.cells #[.pointer (some ⟨p, 0, none⟩), .int .i64 0, .int .i64 0, .pointer (some ⟨w4.heap.size, 0, none⟩)] 63)) p [p] [] (w4.heap.size + 1) w4.heap.size ao (1 + len) cap (1 :: l) 0 0 0 := by
  have hsz := ht.size
  obtain ⟨g, cap, rfl, hg1, hg2, hc, hcl, hfz, c, hgb⟩ := ownsRow_open ho (by omega)
  refine ⟨_, cap, rfl, ?_⟩
  have hT : Turned [] w4 ((w4.alloc (.cells #[.slice (some ⟨g, 0, none⟩) (1 + len) cap, .int .i64 0] 37)).alloc (.cells #[.pointer (some ⟨p, 0, none⟩), .int .i64 0, .int .i64 0, .pointer (some ⟨w4.heap.size, 0, none⟩)] 63)) := ((Turned.refl _ _).alloc _).alloc _
  have hlen : (1 :: l).length = 1 + len := by
    have := ho.1
    simp at this
    simp
    omega
  refine ⟨h2.turned (ht.trans hT) (by simp), heap_alloc_at (by simp), ⟨?_, ⟨hlen, fun i y hy => ⟨g, 0, rfl, by simp; omega, ?_⟩⟩, fun k hk => ?_⟩, ⟨by omega, by omega⟩, by omega⟩
  · rw [Below.heap_alloc _ _ _ (by simp), heap_alloc_new]
  · rw [Nat.zero_add, hT.cell hg2 (by simp)]
    refine hcl i _ ?_
    have e : (Value.int .i64 1 :: l.map (Value.int .i64)) = (1 :: l).map (Value.int .i64) := rfl
    rw [e, List.getElem?_map, hy]
    rfl
  · have e : rowA (some ⟨g, 0, none⟩) (1 :: l) = [g] := rfl
    rw [e] at hk
    simp at hk
    subst hk
    right
    exact ⟨c, _, by rw [hT.block _ hg2 (by simp)]; exact hgb⟩

theorem adds_cells {w w' : World} {ad : Addr} {len : Nat} {l : List Int} (h : Rd w [] (some ad) len l) (ht : Turned [] w w') : ∀ j u, (l.map (Value.int .i64))[j]? = some u → w'.cell? (Addr.add ad j) = some u := by
  intro j u hu
  rw [List.getElem?_map] at hu
  obtain ⟨x, hx, rfl⟩ := Option.map_eq_some_iff.1 hu
  obtain ⟨g, off, e, _, h1⟩ := h.2 j x hx
  injection e with e
  subst e
  rw [show Addr.add ⟨g, off, none⟩ j = ⟨g, off + j, none⟩ by simp [Addr.add], ht.cell (block_lt h1) (by simp)]
  exact h1

set_option maxRecDepth 100000 in
set_option maxHeartbeats 8000000 in
theorem turnsAdds_walk (a : Option Addr) (len cap : Nat) (zs : List Int) (w : World) (hrow : IsRow .i64 w a len cap zs) (hreach : len * 8 ≤ 140737488351232) :
    Calls Try.prog 8 #[.slice a len cap] w fun e w' => e = .returned (.bool true) ∧ Turned [] w w' := by
  have hmf : ∀ (fn : Fn) (first cap : Array Value) (w : World), (Instr.makeFunc fn first cap).run Try.prog w = .ok (.func fn first cap) w := fun _ _ _ _ => rfl
  obtain ⟨hrd, hrg, hlen⟩ := isRow_rd hrow
  have hcn : a = none → cap = 0 := by
    rcases hrow with ⟨_, _, h, _⟩ | ⟨x, e, _⟩
    · exact fun _ => h
    · intro e2; rw [e] at e2; cases e2
  generalize zs.take len = l at *
  have HR0 := hide hrd
  have hll : l.length = len := hrd.1
  clear hrow hrd hrg
  obtain ⟨i0, hi, hi0⟩ := Option.map_eq_some_iff.1 Try.infoInt
  simp only [Prod.mk.injEq] at hi0
  obtain ⟨hz0, hz1, hz2⟩ := hi0
  go_enter Try.func8, Try.ntmps8
  go_wp2_with fail
  refine (awake_true _).mono ?_
  rintro e w1 ⟨rfl, ht1⟩
  have HT1 := hide ht1
  clear ht1
  go_wp2_with fail
  refine (new_turns w.heap.size w1 HT1.out.size).mono ?_
  rintro e w2 ⟨rfl, hm, ht, hz⟩
  generalize w1.heap.size = p at *
  have HM := hide hm
  have HT := hide (HT1.out.trans ht)
  clear hm ht HT1 hz
  cases a with
  | none =>
    have hnil : l = [] := by
      cases l with
      | nil => rfl
      | cons y l =>
        obtain ⟨g, off, e, _⟩ := HR0.out.2 0 y rfl
        cases e
    subst hnil
    have hl0 : len = 0 := by simp at hll; omega
    subst hl0
    obtain rfl := hcn rfl
    go_wp2_with (at_builtin; first | (refine wpList_append_own _ rfl _ _ 28 rfl w2.heap.size 3 i0 (.int .i64 0) 1 8 Try.underlying28 hi hz0 hz1 hz2 rfl (by decide) _ _ _ rfl (World.ownsRow_nil _ _ _ _) ⟨w2.heap.size, 0, none⟩ 1 1 [.int .i64 1] rfl rfl (cell_one_new _ _ _) (fun x hx => by simp at hx; subst hx; rfl) (by unfold maxLen; omega) (by omega) (by simp) ?_; intro v3 w3 hown3 hgr3 hnil3; have HO3 := hide hown3; have HT4 := hide (((Turned.refl [] w2).alloc (.cells #[.int .i64 1] 3)).grown hgr3 (fun k hk => by cases hk)); obtain ⟨ao4, cap4, rfl, had⟩ := ad_made (l := []) (len := 0) HM.out HT4.out hown3 (by omega) HT.out.size HT.out.size; have HAd := hide had; clear hown3 hgr3 hnil3 had) | (refine wpList_append_own_none rfl _ _ 28 rfl w2.heap.size 3 i0 1 Try.underlying28 hi _ _ _ rfl HO3.out rfl ?_))
    clear HO3
    have HAd2 : Hid (Ad w.heap.size ((w3.alloc (.cells #[.slice ao4 1 cap4, .int .i64 0] 37)).alloc (.cells #[.pointer (some ⟨p, 0, none⟩), .int .i64 0, .int .i64 0, .pointer (some ⟨w3.heap.size, 0, none⟩)] 63)) p [p] [] (w3.heap.size + 1) w3.heap.size ao4 1 cap4 [1] 0 0 0) := HAd
    clear HAd
    have HAd := HAd2
    clear HAd2
    have HB4 := hide ((HT.out.trans HT4.out).alloc (.cells #[.slice ao4 1 cap4, .int .i64 0] 37) |>.alloc (.cells #[.pointer (some ⟨p, 0, none⟩), .int .i64 0, .int .i64 0, .pointer (some ⟨w3.heap.size, 0, none⟩)] 63))
    have HBel := hide HB4.out.below0
    clear HB4 HT4 HT HM
    generalize (w3.alloc (.cells #[.slice ao4 1 cap4, .int .i64 0] 37)).alloc (.cells #[.pointer (some ⟨p, 0, none⟩), .int .i64 0, .int .i64 0, .pointer (some ⟨w3.heap.size, 0, none⟩)] 63) = w5 at *
    generalize w3.heap.size = x at *
    refine (ad_add w.heap.size w5 p [p] [] (x + 1) x ao4 1 cap4 [1] 0 0 0 (.func 29) #[.pointer (some ⟨x + 1, 0, none⟩)] #[] [] [] (fun _ _ => True) (fun _ => 0) (by simp) HAd.out).mono ?_
    rintro e w6 ⟨rfl, F6, b1, hm, ht⟩
    have hm6 : Ad w.heap.size w6 p F6 [adT b1 (x + 1) 0 0] (x + 1) x ao4 1 cap4 [1] 0 0 0 := hm
    have H6 := hide hm6
    have B6 := hide (HBel.out.trans (HAd.out.below ht (fun k hk => .inr (.inl hk))))
    clear hm hm6 ht HAd HBel
    go_wp2_with fail
    refine (adds_one H6.out).mono ?_
    rintro e w7 ⟨rfl, F7, b2, hm, hb⟩
    have H7 := hide hm
    have B7 := hide (B6.out.trans hb)
    clear hm hb H6 B6
    go_wp2_with fail
    refine (adds_two [] rfl H7.out).mono ?_
    rintro e w8 ⟨rfl, F8, hm, hb⟩
    have H8 := hide hm
    have B8 := hide (B7.out.trans hb)
    clear hm hb H7 B7
    go_wp2_with fail
    refine (state_in w.heap.size w8 p F8 _ 1 (toT w.heap.size b2 x ao4 1 cap4 [1] 1 1) rfl H8.out.trn).mono ?_
    rintro e wx ⟨rfl, rfl⟩
    go_wp2_with fail
    refine (adds_three H8.out).mono ?_
    rintro e w9 ⟨rfl, F9, hm, hb⟩
    have H9 := hide hm
    have B9 := hide (B8.out.trans hb)
    clear hm hb H8 B8
    go_wp2_with fail
    refine (adds_four H9.out).mono ?_
    rintro e w10 ⟨rfl, F10, hm, hb⟩
    have H10 := hide hm
    have B10 := hide (B9.out.trans hb)
    clear hb H9 B9
    obtain ⟨g0, g1, g2, g3⟩ := hm.c
    clear hm
    go_wp2_with fail
    refine (state_in w.heap.size w10 p F10 _ 1 (toT w.heap.size b2 x ao4 1 cap4 [1] 0 1) rfl H10.out.trn).mono ?_
    rintro e wx ⟨rfl, rfl⟩
    go_wp2_with fail
    refine (state_in w.heap.size _ p F10 _ 0 (adT b1 (x + 1) 2 3) rfl H10.out.trn).mono ?_
    rintro e wx ⟨rfl, rfl⟩
    go_wp2_with fail
    refine (steps_in w.heap.size _ p F10 _ 1 (toT w.heap.size b2 x ao4 1 cap4 [1] 0 1) rfl H10.out.trn).mono ?_
    rintro e wx ⟨rfl, rfl⟩
    go_wp2_with fail
    go_ret
    exact ⟨rfl, Turned.of_below B10.out⟩
  | some ad =>
    go_wp2_with (at_builtin; first
      | (refine wpList_append_own _ rfl _ _ 28 rfl w2.heap.size 3 i0 (.int .i64 0) 1 8 Try.underlying28 hi hz0 hz1 hz2 rfl (by decide) _ _ _ rfl (World.ownsRow_nil _ _ _ _) ⟨w2.heap.size, 0, none⟩ 1 1 [.int .i64 1] rfl rfl (cell_one_new _ _ _) (fun x hx => by simp at hx; subst hx; rfl) (by unfold maxLen; omega) (by omega) (by simp) ?_; intro v3 w3 hown3 hgr3 hnil3; have HO3 := hide hown3; have HT3 := hide (((Turned.refl [] w2).alloc (.cells #[.int .i64 1] 3)).grown hgr3 (fun k hk => by cases hk)); clear hown3 hgr3 hnil3)
      | (refine wpList_append_own _ rfl _ _ 28 rfl w2.heap.size 3 i0 (.int .i64 0) 1 8 Try.underlying28 hi hz0 hz1 hz2 rfl (by decide) _ _ _ rfl HO3.out ad len cap (l.map (Value.int .i64)) rfl (by simp [hll]) (adds_cells HR0.out (HT.out.trans HT3.out)) (by intro u hu; obtain ⟨x, _, rfl⟩ := List.mem_map.1 hu; rfl) (by unfold maxLen; omega) (by omega) HT3.out.size ?_; intro v4 w4 hown4 hgr4 hnil4; have HO4 := hide hown4; have HT4 := hide (HT3.out.grown hgr4 (fun k hk => .inr (ownsRow_lt HO3.out k hk).1)); obtain ⟨ao4, cap4, rfl, had⟩ := ad_made (l := l) (len := len) HM.out HT4.out hown4 (by omega) HT.out.size HT.out.size; have HAd := hide had; clear hown4 hgr4 hnil4 had HO4))
    clear HO3 HT3
    have HB4 := hide ((HT.out.trans HT4.out).alloc (.cells #[.slice ao4 (1 + len) cap4, .int .i64 0] 37) |>.alloc (.cells #[.pointer (some ⟨p, 0, none⟩), .int .i64 0, .int .i64 0, .pointer (some ⟨w4.heap.size, 0, none⟩)] 63))
    have HBel := hide HB4.out.below0
    clear HB4 HT4 HT HM
    generalize (w4.alloc (.cells #[.slice ao4 (1 + len) cap4, .int .i64 0] 37)).alloc (.cells #[.pointer (some ⟨p, 0, none⟩), .int .i64 0, .int .i64 0, .pointer (some ⟨w4.heap.size, 0, none⟩)] 63) = w5 at *
    generalize w4.heap.size = x at *
    refine (ad_add w.heap.size w5 p [p] [] (x + 1) x ao4 (1 + len) cap4 (1 :: l) 0 0 0 (.func 29) #[.pointer (some ⟨x + 1, 0, none⟩)] #[] [] [] (fun _ _ => True) (fun _ => 0) (by simp) HAd.out).mono ?_
    rintro e w6 ⟨rfl, F6, b1, hm, ht⟩
    have hm6 : Ad w.heap.size w6 p F6 [adT b1 (x + 1) 0 0] (x + 1) x ao4 (1 + len) cap4 (1 :: l) 0 0 0 := hm
    have H6 := hide hm6
    have B6 := hide (HBel.out.trans (HAd.out.below ht (fun k hk => .inr (.inl hk))))
    clear hm hm6 ht HAd HBel
    go_wp2_with fail
    refine (adds_one H6.out).mono ?_
    rintro e w7 ⟨rfl, F7, b2, hm, hb⟩
    have H7 := hide hm
    have B7 := hide (B6.out.trans hb)
    clear hm hb H6 B6
    go_wp2_with fail
    refine (adds_two l rfl H7.out).mono ?_
    rintro e w8 ⟨rfl, F8, hm, hb⟩
    have H8 := hide hm
    have B8 := hide (B7.out.trans hb)
    clear hm hb H7 B7
    go_wp2_with fail
    refine (state_in w.heap.size w8 p F8 _ 1 (toT w.heap.size b2 x ao4 (1 + len) cap4 (1 :: l) 1 1) rfl H8.out.trn).mono ?_
    rintro e wx ⟨rfl, rfl⟩
    go_wp2_with fail
    refine (adds_three H8.out).mono ?_
    rintro e w9 ⟨rfl, F9, hm, hb⟩
    have H9 := hide hm
    have B9 := hide (B8.out.trans hb)
    clear hm hb H8 B8
    go_wp2_with fail
    refine (adds_four H9.out).mono ?_
    rintro e w10 ⟨rfl, F10, hm, hb⟩
    have H10 := hide hm
    have B10 := hide (B9.out.trans hb)
    clear hb H9 B9
    obtain ⟨g0, g1, g2, g3⟩ := hm.c
    clear hm
    go_wp2_with fail
    refine (state_in w.heap.size w10 p F10 _ 1 (toT w.heap.size b2 x ao4 (1 + len) cap4 (1 :: l) 0 1) rfl H10.out.trn).mono ?_
    rintro e wx ⟨rfl, rfl⟩
    go_wp2_with fail
    refine (state_in w.heap.size _ p F10 _ 0 (adT b1 (x + 1) 2 3) rfl H10.out.trn).mono ?_
    rintro e wx ⟨rfl, rfl⟩
    go_wp2_with fail
    refine (steps_in w.heap.size _ p F10 _ 1 (toT w.heap.size b2 x ao4 (1 + len) cap4 (1 :: l) 0 1) rfl H10.out.trn).mono ?_
    rintro e wx ⟨rfl, rfl⟩
    go_wp2_with fail
    go_ret
    exact ⟨rfl, Turned.of_below B10.out⟩

theorem Try.bytesInt : Try.prog.bytesOf 3 = 8 := by kernel_rfl

set_option maxRecDepth 100000 in
theorem turnsAdds_lifted (os : Os) (started : os.Started) (H : Type) (enc : TypeId × Value → H) :
    ReturnsInHanded {} Try.checked os 8 .any (Rows.turnsAddsSpec.pre6 enc Try.prog Try.f8 Rows.turnsAddsRow.domain false) (Rows.turnsAddsSpec.post enc Try.prog Try.f8 false true false false) := by
  refine returnsInHanded_of_change_sized (C := Try.checked) own started (by kernel_rfl) Try.func8
    (ChangeSpec.witness6 (enc := enc) (C := Try.checked) false ⟨#[], #[.slice none 0 0], []⟩ 8 (by kernel_rfl) (by kernel_rfl) (by kernel_rfl) (by kernel_rfl)) ?_
  intro W base args ds gs before hval0 hW hcnd hsz0 _
  have hsz : (DataW.weightsEach Try.prog (Try.f8.params.toList ++ Rows.turnsAddsSpec.plain.varTypes Try.prog) (ds ++ gs)).all (· ≤ reachBytes) = true := hsz0
  have hval : ∀ (j : Nat) t v, Try.f8.params[j]? = some t → args[j]? = some v → Value.okWide Try.prog W .any base t v := hval0
  have hW' := hW
  obtain ⟨p, q, hA0, hV, rfl, hfz, hnd⟩ := hW
  have hA : DataW.TrodAll enc Try.prog W 0 (fun _ => true) true Try.f8.params.toList args.toList ds p := hA0
  rw [Try.params8] at hA hval hsz
  obtain ⟨v0, vs0, d0, ds0, p0, q0, hargs, rfl, rfl, h0, r0⟩ := trodAll_cons hA
  obtain ⟨rfl, rfl, rfl⟩ := trodAll_nil r0
  obtain rfl : args = #[v0] := by cases args; simp_all
  obtain ⟨rfl, rfl⟩ := trodVars_none hV
  obtain ⟨a0, len0, cap0, rfl⟩ := okWide_slice Try.underlying28 (hval 0 28 v0 rfl rfl)
  have k0 := h0
  have lt0 : ∀ x ∈ p0, x.block < W.heap.size := by obtain ⟨m, hm⟩ := k0; exact DataW.trod_lt m _ _ _ hm
  obtain ⟨z0, w0, hreach⟩ : ∃ zs, IsRow .i64 W a0 len0 cap0 zs ∧ len0 * 8 ≤ 140737488351232 := by
    obtain ⟨fuel, hf⟩ := h0
    rcases open_ints Try.underlying28 Try.underlying3 (by kernel_rfl) hf with ⟨hcs, _⟩ | ⟨x, l, c, zs, hcs, _, hl, hm, hz, hx, hcell, hwz⟩
    · simp [Value.cells] at hcs
      obtain ⟨rfl, rfl, rfl⟩ := hcs
      exact ⟨[], .inl ⟨rfl, rfl, rfl, rfl⟩, by omega⟩
    · simp [Value.cells] at hcs
      obtain ⟨rfl, rfl, rfl⟩ := hcs
      simp only [Prod.mk.injEq] at hx
      obtain ⟨rfl, rfl⟩ := hx
      have hs := sized_slice hsz (j := 0) (t := 28) (e := 3) rfl rfl Try.underlying28
      rw [Try.bytesInt] at hs
      simp only [lits, List.length_map, List.length_take, List.length_drop, reachBytes] at hs
      have hz2 : zs.length = cap0 := by simpa using hz
      exact ⟨zs, .inr ⟨_, rfl, hl, hm, hz2, hcell, hwz⟩, by omega⟩
  clear hA0 hval0
  refine (turnsAdds_walk a0 len0 cap0 z0 W w0 hreach).mono fun e W' ⟨he, ht⟩ => ?_
  subst he
  have bel : Below W.heap.size W W' := ht.below0
  exact ⟨_, rfl, _, _, _, [], _, [], hW', trodAll_mk1 (shut_bool Try.underlying4 _), (trodAll_cons_mk (Below.trod laidOut (by kernel_rfl) (of_decide_eq_true (by kernel_rfl)) k0 bel lt0) trodAll_mk0), rfl, bel.frame _, fun h => by cases h⟩

theorem turnsAdds_over : Rows.turnsAddsRow.holds Try.pinned (OpenSpec.ofChange Rows.turnsAddsSpec) :=
  OpenClaim.holds_of_wide 8 Try.f8 rfl rfl rfl rfl rfl rfl rfl ⟨rfl, rfl, rfl, rfl, rfl⟩ rfl rfl rfl rfl rfl (by kernel_rfl) Try.func8 (by kernel_rfl)
    (of_decide_eq_true (by kernel_rfl)) (by unfold Func.isWrapper; first | (rw [if_pos (by decide +kernel)]; kernel_rfl) | (rw [if_neg (by decide +kernel)]; exact ⟨rfl, rfl⟩))
    (fun os started H enc _ => turnsAdds_lifted os started H enc)

theorem turnsAdds_holds : Rows.TurnsAddsSaid := turnsAdds_over
end Go.Proofs.Ytihoffaolonfhaa

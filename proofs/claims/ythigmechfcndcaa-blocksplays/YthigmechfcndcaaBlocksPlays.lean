/-
  The statement BlocksPlays is proved: for every list of classes, every script of calls and every ask (a heap's ends and roots) the law returns true and its arguments read as before; no condition.
-/
import Derived.Test.YthigmechfcndcaaBlocksPlaysW
import Derived.Test.YthigmechfcndcaaClassesOpen
import Derived.Test.YthigmechfcndcaaLawKit
import Derived.Deep.Slices
import Derived.SizedLaws
namespace Go.Proofs.Ythigmechfcndcaa
open Go.RowKit Go.ChangeShapes Go.WideShapes Go.ChangeAt
set_option linter.unusedVariables false

theorem cellsOp : Try.prog.cellsOf 35 = 5 := by kernel_rfl
theorem cells64 : Try.prog.cellsOf 2 = 1 := by kernel_rfl
theorem cells3 : Try.prog.cellsOf 3 = 1 := by kernel_rfl
theorem cellsSl : Try.prog.cellsOf 24 = 1 := by kernel_rfl
theorem cellsAsk : Try.prog.cellsOf 26 = 3 := by kernel_rfl
theorem bytes64 : Try.prog.bytesOf 2 = 8 := by kernel_rfl

set_option maxRecDepth 100000 in
theorem open_things {H : Type} {enc : TypeId × Value → H} {W : World} {a : Option Addr} {len cap : Nat} {d : DataW H} {p : List MemPlace}
    (h : DataW.Trod enc Try.prog W 0 (fun _ => true) true 23 (.slice a len cap) d p) : IsPlays W a len := by
  obtain ⟨fuel, hf⟩ := h
  rcases Go.Deep.open_slice Try.underlying23 hf with ⟨hcs, _⟩ | ⟨x, len', cap', m, n, D, Pl, hcs, _, hl, hm, hmm, _, hel⟩
  · simp [Value.cells] at hcs
    obtain ⟨rfl, rfl, rfl⟩ := hcs
    exact ⟨by omega, fun i hi => absurd hi (Nat.not_lt_zero _)⟩
  · simp [Value.cells] at hcs
    obtain ⟨rfl, rfl, rfl⟩ := hcs
    simp only [if_true] at hmm
    subst hmm
    refine ⟨by unfold maxLen at hm; omega, fun i hi => ?_⟩
    obtain ⟨cs, h1, h2⟩ := hel i (by omega)
    rw [cellsOp] at h1
    obtain ⟨_, hlen, hc⟩ := World.cells?_some h1
    obtain ⟨v0, v1, v2, v3, v4, rfl⟩ : ∃ v0 v1 v2 v3 v4, cs = [v0, v1, v2, v3, v4] := by
      rcases cs with _ | ⟨v0, _ | ⟨v1, _ | ⟨v2, _ | ⟨v3, _ | ⟨v4, _ | ⟨v5, r⟩⟩⟩⟩⟩⟩
      all_goals first | (exact ⟨v0, v1, v2, v3, v4, rfl⟩) | (simp at hlen)
    obtain ⟨xs, n', -, -, -, hxl, hfl⟩ := DataW.trod_struct Try.underlying35 h2
    have f0 : DataW.trod enc Try.prog W 0 (fun _ => true) true n' 3 (List.take (Try.prog.cellsOf 3) (List.drop 0 [v0, v1, v2, v3, v4])) = xs[0]? := hfl 0 _ rfl
    have f1 : DataW.trod enc Try.prog W 0 (fun _ => true) true n' 3 (List.take (Try.prog.cellsOf 3) (List.drop 1 [v0, v1, v2, v3, v4])) = xs[1]? := hfl 1 _ rfl
    have f2 : DataW.trod enc Try.prog W 0 (fun _ => true) true n' 3 (List.take (Try.prog.cellsOf 3) (List.drop 2 [v0, v1, v2, v3, v4])) = xs[2]? := hfl 2 _ rfl
    have f3 : DataW.trod enc Try.prog W 0 (fun _ => true) true n' 3 (List.take (Try.prog.cellsOf 3) (List.drop 3 [v0, v1, v2, v3, v4])) = xs[3]? := hfl 3 _ rfl
    have f4 : DataW.trod enc Try.prog W 0 (fun _ => true) true n' 2 (List.take (Try.prog.cellsOf 2) (List.drop 4 [v0, v1, v2, v3, v4])) = xs[4]? := hfl 4 _ rfl
    rw [cells3] at f0 f1 f2 f3
    rw [cells64] at f4
    have hxl5 : xs.length = 5 := hxl
    rw [List.getElem?_eq_getElem (by omega)] at f0 f1 f2 f3 f4
    obtain ⟨kd, q0, -, w0⟩ := DataW.trod_int Try.underlying3 f0
    obtain ⟨t, q1, -, w1⟩ := DataW.trod_int Try.underlying3 f1
    obtain ⟨c, q2, -, w2⟩ := DataW.trod_int Try.underlying3 f2
    obtain ⟨nn, q3, -, w3⟩ := DataW.trod_int Try.underlying3 f3
    obtain ⟨x4, q4, -, w4⟩ := DataW.trod_int Try.underlying2 f4
    simp at q0 q1 q2 q3 q4
    subst q0 q1 q2 q3 q4
    obtain ⟨b, off, spot⟩ := x
    have hspot : spot = none := by
      obtain ⟨cs0, k1, _⟩ := hel 0 (by omega)
      rw [cellsOp] at k1
      obtain ⟨_, k2, k3⟩ := World.cells?_some k1
      have k4 := k3 0 (by omega)
      rw [List.getElem?_eq_getElem (by omega)] at k4
      have e1 := World.cell?_spot k4
      simpa [Addr.add] using e1
    subst hspot
    have ha : ∀ j, Addr.add (Addr.add ⟨b, off, none⟩ (i * 5)) j = ⟨b, off + i * 5 + j, none⟩ := fun j => by
      rw [Go.Deep.add_add, show Addr.add ⟨b, off, none⟩ (i * 5 + j) = ⟨b, off + (i * 5 + j), none⟩ by simp [Addr.add], Nat.add_assoc]
    have g0 := hc 0 (by omega)
    have g1 := hc 1 (by omega)
    have g2 := hc 2 (by omega)
    have g3 := hc 3 (by omega)
    have g4 := hc 4 (by omega)
    rw [ha] at g0 g1 g2 g3 g4
    exact ⟨b, off, kd, t, c, nn, x4, rfl, g0, g1, g2, g3, g4, wf_range w1, wf_range w3, wf_range w4⟩

set_option maxRecDepth 100000 in
theorem open_ask {H : Type} {enc : TypeId × Value → H} {W : World} {base : Nat} {v : Value} {d : DataW H} {p : List MemPlace}
    (hv : Value.okWide Try.prog W .any base 26 v) (h : DataW.Trod enc Try.prog W 0 (fun _ => true) true 26 v d p) (hsz : ∀ n, n ∈ d.weights Try.prog 26 → n ≤ reachBytes) :
    ∃ (f g : Int) (ro : Option Addr) (rn rcap : Nat) (zs : List Int), v = .agg #[.int .i64 f, .int .i64 g, .slice ro rn rcap] ∧ IsRow .i64 W ro rn rcap zs ∧ rn * 8 ≤ 140737488351232 := by
  obtain ⟨cs, rfl, hs3, _⟩ : ∃ cs, v = .agg cs ∧ cs.size = Try.prog.cellsOf 26 ∧ Row.okWide Try.prog W .any base 26 cs := by
    simpa [Value.okWide, Try.underlying26] using hv
  rw [cellsAsk] at hs3
  obtain ⟨c0, c1, c2, rfl⟩ : ∃ c0 c1 c2, cs = #[c0, c1, c2] := by
    obtain ⟨l⟩ := cs
    rcases l with _ | ⟨c0, _ | ⟨c1, _ | ⟨c2, _ | ⟨c3, l⟩⟩⟩⟩
    · simp at hs3
    · simp at hs3
    · simp at hs3
    · exact ⟨c0, c1, c2, rfl⟩
    · simp at hs3
  obtain ⟨fuel, hf⟩ := h
  obtain ⟨xs, n', -, hx, -, hxl, hfl⟩ := DataW.trod_struct Try.underlying26 hf
  have f0 : DataW.trod enc Try.prog W 0 (fun _ => true) true n' 3 (List.take (Try.prog.cellsOf 3) (List.drop 0 [c0, c1, c2])) = xs[0]? := hfl 0 _ rfl
  have f1 : DataW.trod enc Try.prog W 0 (fun _ => true) true n' 3 (List.take (Try.prog.cellsOf 3) (List.drop 1 [c0, c1, c2])) = xs[1]? := hfl 1 _ rfl
  have f2 : DataW.trod enc Try.prog W 0 (fun _ => true) true n' 24 (List.take (Try.prog.cellsOf 24) (List.drop 2 [c0, c1, c2])) = xs[2]? := hfl 2 _ rfl
  rw [cells3] at f0 f1
  rw [cellsSl] at f2
  have hxl3 : xs.length = 3 := hxl
  rw [List.getElem?_eq_getElem (by omega)] at f0 f1 f2
  obtain ⟨a, q0, -, w0⟩ := DataW.trod_int Try.underlying3 f0
  obtain ⟨b, q1, -, w1⟩ := DataW.trod_int Try.underlying3 f1
  simp at q0 q1
  subst q0 q1
  have hd : d = .agg (xs.map (·.1)) := congrArg Prod.fst hx
  have hw2 : ∀ n, n ∈ (xs[2]'(by omega)).1.weights Try.prog 24 → n ≤ reachBytes := fun n hn => by
    refine hsz n ?_
    rw [hd]
    unfold DataW.weights
    rw [Try.underlying26]
    refine DataW.weights_mem_each (j := 2) (t := 24) (d := (xs[2]'(by omega)).1) rfl ?_ n hn
    rw [List.getElem?_map, List.getElem?_eq_getElem (by omega)]
    rfl
  rcases open_ints Try.underlying24 Try.underlying2 cells64 f2 with ⟨hcs, _⟩ | ⟨y, l, c, zs, hcs, _, hl2, hm2, hz, hxx, hcell, hwz⟩
  · simp at hcs
    exact ⟨a, b, none, 0, 0, [], by rw [hcs], .inl ⟨rfl, rfl, rfl, rfl⟩, by omega⟩
  · simp at hcs
    have hz2 : zs.length = c := by simpa using hz
    refine ⟨a, b, some y, l, c, zs, by rw [hcs], .inr ⟨_, rfl, hl2, hm2, hz2, hcell, hwz⟩, ?_⟩
    have h3 := hw2 ((lits .i64 (zs.take l) : List (DataW H)).length * 8 + (lits .i64 (zs.drop l) : List (DataW H)).length * 8) (by
      rw [hxx]
      unfold DataW.weights
      rw [Try.underlying24]
      simp only [bytes64]
      simp [Nat.add_mul])
    simp only [lits, List.length_map, List.length_take, List.length_drop, reachBytes] at h3
    omega

theorem blocksPlays_walk (a0 : Option Addr) (len0 cap0 : Nat) (cs : List Cls) (a1 : Option Addr) (len1 cap1 : Nat) (f g : Int) (ro : Option Addr) (rn rcap : Nat) (zs : List Int) (w : World) (h0 : CRd w a0 len0 cs) (h1 : IsPlays w a1 len1) (h2 : IsRow .i64 w ro rn rcap zs) (h3 : rn * 8 ≤ 140737488351232) :
    Calls Try.prog 3 #[.slice a0 len0 cap0, .slice a1 len1 cap1, .agg #[.int .i64 f, .int .i64 g, .slice ro rn rcap]] w fun e w' => e = .returned (.bool true) ∧ Turned [] w w' :=
  plays_walk a0 len0 cap0 cs a1 len1 cap1 f g ro rn rcap (zs.take rn) w h0 h1 (isRow_ird h2) (fun e => by
    rcases h2 with ⟨_, h4, h5, _⟩ | ⟨x, h4, _⟩
    · exact ⟨h4, h5⟩
    · rw [e] at h4; cases h4) (by have := List.length_take_le rn zs; omega)

set_option maxRecDepth 100000 in
theorem blocksPlays_lifted (os : Os) (started : os.Started) (H : Type) (enc : TypeId × Value → H) :
    ReturnsInHanded {} Try.checked os 3 .any (Rows.blocksPlaysSpec.pre6 enc Try.prog Try.f3 Rows.blocksPlaysRow.domain false) (Rows.blocksPlaysSpec.post enc Try.prog Try.f3 false true false false) := by
  refine returnsInHanded_of_change_sized (C := Try.checked) own started (by kernel_rfl) Try.func3
    (ChangeSpec.witness6 (enc := enc) (C := Try.checked) false ⟨#[], #[.slice none 0 0, .slice none 0 0, .agg #[.int .i64 0, .int .i64 0, .slice none 0 0]], []⟩ 8 (by kernel_rfl) (by kernel_rfl) (by kernel_rfl) (by kernel_rfl)) ?_
  intro W base args ds gs before hval0 hW hcnd hsz0 _
  have hsz : (DataW.weightsEach Try.prog (Try.f3.params.toList ++ Rows.blocksPlaysSpec.plain.varTypes Try.prog) (ds ++ gs)).all (· ≤ reachBytes) = true := hsz0
  have hval : ∀ (j : Nat) t v, Try.f3.params[j]? = some t → args[j]? = some v → Value.okWide Try.prog W .any base t v := hval0
  have hW' := hW
  obtain ⟨p, q, hA0, hV, rfl, hfz, hnd⟩ := hW
  have hA : DataW.TrodAll enc Try.prog W 0 (fun _ => true) true Try.f3.params.toList args.toList ds p := hA0
  rw [Try.params3] at hA hval hsz
  obtain ⟨v0, vs0, d0, ds0, p0, q0, hargs, rfl, rfl, h0, r0⟩ := trodAll_cons hA
  obtain ⟨v1, vs1, d1, ds1, p1, q1, rfl, rfl, rfl, h1, r1⟩ := trodAll_cons r0
  obtain ⟨v2, vs2, d2, ds2, p2, q2, rfl, rfl, rfl, h2, r2⟩ := trodAll_cons r1
  obtain ⟨rfl, rfl, rfl⟩ := trodAll_nil r2
  obtain rfl : args = #[v0, v1, v2] := by cases args; simp_all
  obtain ⟨rfl, rfl⟩ := trodVars_none hV
  obtain ⟨a0, len0, cap0, rfl⟩ := okWide_slice Try.underlying22 (hval 0 22 v0 rfl rfl)
  have k0 := h0
  have lt0 : ∀ x ∈ p0, x.block < W.heap.size := by obtain ⟨m, hm⟩ := k0; exact DataW.trod_lt m _ _ _ hm
  obtain ⟨z0, w0⟩ := open_classes h0
  obtain ⟨a1, len1, cap1, rfl⟩ := okWide_slice Try.underlying23 (hval 1 23 v1 rfl rfl)
  have k1 := h1
  have lt1 : ∀ x ∈ p1, x.block < W.heap.size := by obtain ⟨m, hm⟩ := k1; exact DataW.trod_lt m _ _ _ hm
  have w1 := open_things h1
  have k2 := h2
  have lt2 : ∀ x ∈ p2, x.block < W.heap.size := by obtain ⟨m, hm⟩ := k2; exact DataW.trod_lt m _ _ _ hm
  obtain ⟨fa, ga, ro, rn, rcap, zs, rfl, w2, w3⟩ := open_ask (hval 2 26 v2 rfl rfl) h2 (fun n hn => by
    have := List.all_eq_true.1 hsz n (DataW.weights_mem_each (j := 2) (t := 26) (d := d2) rfl rfl n hn)
    simpa using this)
  clear hA0 hval0
  refine (blocksPlays_walk a0 len0 cap0 z0 a1 len1 cap1 fa ga ro rn rcap zs W w0 w1 w2 w3).mono fun e W' ⟨he, ht⟩ => ?_
  subst he
  have bel : Below W.heap.size W W' := ht.below0
  exact ⟨_, rfl, _, _, _, [], _, [], hW', trodAll_mk1 (shut_bool Try.underlying4 _), (trodAll_cons_mk (Below.trod laidOut (by kernel_rfl) (of_decide_eq_true (by kernel_rfl)) k0 bel lt0) (trodAll_cons_mk (Below.trod laidOut (by kernel_rfl) (of_decide_eq_true (by kernel_rfl)) k1 bel lt1) (trodAll_cons_mk (Below.trod laidOut (by kernel_rfl) (of_decide_eq_true (by kernel_rfl)) k2 bel lt2) trodAll_mk0))), rfl, bel.frame _, fun h => by cases h⟩

theorem blocksPlays_over : Rows.blocksPlaysRow.holds Try.pinned (OpenSpec.ofChange Rows.blocksPlaysSpec) :=
  OpenClaim.holds_of_wide 3 Try.f3 rfl rfl rfl rfl rfl rfl rfl ⟨rfl, rfl, rfl, rfl, rfl⟩ rfl rfl rfl rfl rfl (by kernel_rfl) Try.func3 (by kernel_rfl)
    (of_decide_eq_true (by kernel_rfl)) (by unfold Func.isWrapper; first | (rw [if_pos (by decide +kernel)]; kernel_rfl) | (rw [if_neg (by decide +kernel)]; exact ⟨rfl, rfl⟩))
    (fun os started H enc _ => blocksPlays_lifted os started H enc)

theorem blocksPlays_holds : Rows.BlocksPlaysSaid := blocksPlays_over

end Go.Proofs.Ythigmechfcndcaa

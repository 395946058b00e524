/-
  The statement ClassesSums is proved: for every list of sizes the law returns true and the list reads as before; no condition.
-/
import Derived.Test.YtcnclecdainneaaClassesAwake
import Derived.Laws.AppendOwn
import Derived.Maps.AppendAt
import Derived.SizedLaws
namespace Go.Proofs.Ytcnclecdainneaa
open Go.RowKit Go.ChangeShapes Go.WideShapes Go.ChangeAt
set_option linter.unusedVariables false

/-- A row of the call's own can be read. -/
theorem owns_ird {w : World} {B : Nat} {v : Value} {n : Nat} {l : List Int} (h : w.ownsRow B 3 1 v n (l.map (Value.int .i64))) (hn : n ≤ 9223372036854775807) (hl : ∀ x, x ∈ l → In64 x) : ∃ ao cap, v = .slice ao n cap ∧ IRd w ao n l := by
  obtain ⟨h1, ao, cap, rfl, h2⟩ := ownsRow_any h
  refine ⟨ao, cap, rfl, by simpa using h1, hn, fun i x hx => ?_, hl⟩
  obtain ⟨g, rfl, _, _, h3, _⟩ := h2 i (.int .i64 x) (by rw [List.getElem?_map, hx]; rfl)
  exact ⟨g, 0, rfl, by rw [Nat.zero_add]; exact h3⟩

theorem fits_reverse (l : List Int) : Fits l.reverse ↔ Fits l := by
  unfold Fits
  simp [List.sum_reverse]
theorem sumOf_reverse (l : List Int) : sumOf l.reverse = sumOf l := by
  unfold sumOf
  by_cases h : Fits l
  · rw [if_pos h, if_pos ((fits_reverse l).2 h), List.sum_reverse]
  · rw [if_neg h, if_neg (fun h2 => h ((fits_reverse l).1 h2))]

/-- What the law's loop has at its j-th round. -/
def SumsAt (r : List Int) (j : Nat) (b : Bool) (s : Int) : Prop := (b = true → Fits (r.take j) ∧ (r.take j).sum = s) ∧ (b = false → ¬ Fits r)
theorem sumsAt_bad {r : List Int} {j : Nat} {s s' : Int} {x : Int} (h : SumsAt r j true s) (hx : r[j]? = some x) (hb : x < 0 ∨ 65536 - s < x) : SumsAt r (j + 1) false s' := by
  refine ⟨fun hf => (Bool.false_ne_true hf).elim, fun _ => fits_not hx ?_⟩
  rw [(h.1 rfl).2]
  exact hb
theorem sumsAt_good {r : List Int} {j : Nat} {s : Int} {x : Int} (h : SumsAt r j true s) (hx : r[j]? = some x) (h1 : ¬ x < 0) (h2 : ¬ 65536 - s < x) : SumsAt r (j + 1) true (s + x) := by
  refine ⟨fun _ => ⟨fits_snoc hx (h.1 rfl).1 h1 (by rw [(h.1 rfl).2]; exact h2), ?_⟩, fun hf => (Bool.false_ne_true hf.symm).elim⟩
  rw [sum_snoc r j x hx, (h.1 rfl).2]
theorem sumsAt_still {r : List Int} {j : Nat} {s : Int} (h : SumsAt r j false s) : SumsAt r (j + 1) false s := ⟨fun hf => (Bool.false_ne_true hf).elim, h.2⟩

set_option maxRecDepth 100000 in
set_option maxHeartbeats 4000000 in
theorem sums_walk (a : Option Addr) (len cap : Nat) (l : List Int) (w : World) (h : IRd w a len l) (hb : len * 8 ≤ 140737488351232) :
    Calls Try.prog 6 #[.slice a len cap] w fun e w' => e = .returned (.bool true) ∧ Turned [] w w' := by
  have HL := hide h.size
  have hr := h.room
  have H := hide h
  clear h
  obtain ⟨i0, hi, hi0⟩ := Option.map_eq_some_iff.1 Try.infoInt
  simp only [Prod.mk.injEq] at hi0
  obtain ⟨hz0, hz1, hz2⟩ := hi0
  go_enter Try.func6, Try.ntmps6
  go_wp2_with fail
  refine (awake_true _).mono ?_
  rintro e w1 ⟨rfl, ht1⟩
  have HT := hide ht1
  clear ht1
  go_wp2_with fail
  go_loopw [4, 5, 6, 7] (fun v b s i wr => ∃ (m j : Nat) (bb : Bool) (n : Int), m + j = len ∧ i = .int .i64 ((m : Int) - 1) ∧ b = .bool bb ∧ s = .int .i64 n ∧ 0 ≤ n ∧ n ≤ 65536 ∧ Hid (SumsAt l.reverse j bb n) ∧ Hid (wr.ownsRow w.heap.size 3 1 v j ((l.reverse.take j).map (Value.int .i64))) ∧ Hid (Turned [] w wr)) (fun _ _ _ i _ => (intOf i + 1).toNat)
  case atStart =>
    refine ⟨len, 0, true, 0, by omega, rfl, rfl, rfl, by omega, by omega, ⟨fun _ => ⟨fits_nil, by simp⟩, fun hf => (Bool.false_ne_true hf.symm).elim⟩, ?_, HT⟩
    show World.ownsRow _ _ _ _ _ _ _
    exact World.ownsRow_nil _ _ _ _
  case round =>
    obtain ⟨m, j, bb, n, hmj, rfl, rfl, rfl, hn0, hn1, HS, HO, HTr⟩ := hrel
    by_cases hlt : 0 < m
    · obtain ⟨m, rfl⟩ : ∃ m', m = m' + 1 := ⟨m - 1, by omega⟩
      rw [show (((m + 1 : Nat) : Int) - 1) = (m : Int) by omega]
      obtain ⟨x, hx⟩ : ∃ x, l[m]? = some x := ⟨_, List.getElem?_eq_getElem (by have := HL.out; omega)⟩
      have hrx : l.reverse[j]? = some x := by
        rw [List.getElem?_reverse (by have := HL.out; omega), show l.length - 1 - j = m by have := HL.out; omega]
        exact hx
      obtain ⟨b, off, rfl, cw⟩ := H.out.cell m x hx
      have c0 := (HTr.out.cell (block_lt cw) (by simp)).trans cw
      have HW := hide cw
      have hxr := H.out.inn x (List.mem_of_getElem? hx)
      unfold In64 at hxr
      have HX := hide hrx
      have hsz := HTr.out.size
      have HJ := hide hmj
      have hmj1 : m + 1 ≤ len := by omega
      have hmj2 : j + 1 ≤ len := by omega
      have HR : Hid ((l.reverse.take (j + 1)).map (Value.int .i64) = (l.reverse.take j).map (Value.int .i64) ++ [.int .i64 x]) := by
        show _ = _
        obtain ⟨q1, q2⟩ := List.getElem?_eq_some_iff.1 hrx
        rw [List.take_succ_eq_append_getElem q1, List.map_append, q2]
        rfl
      clear hx hrx hmj cw
      cases bb with
      | false =>
        have HS2 := hide (sumsAt_still HS.out)
        go_wp2_with (at_builtin; (refine wpList_append_own _ rfl _ _ 24 rfl w.heap.size 3 i0 (.int .i64 0) 1 8 Try.underlying24 hi hz0 hz1 hz2 rfl (by decide) _ _ _ rfl (HO.out.alloc _) ⟨wr.heap.size, 0, none⟩ 1 1 [.int .i64 x] rfl rfl (cell_one_new _ _ _) (fun x hx => by simp at hx; subst hx; rfl) (by unfold maxLen; omega) (by omega) (by simp; omega) ?_); intro v' w3 hown' hgrow3 hnil3; have HT3 := hide ((HTr.out.alloc (.cells #[.int .i64 x] 3)).grown hgrow3 (fun j hj => .inr (ownsRow_lt HO.out j hj).1)); have c3 := (HT3.out.cell (block_lt HW.out) (by simp)).trans HW.out; have HO3 := hide hown'; clear hown' hgrow3 hnil3 c0)
        go_roundw
        case rel => exact ⟨m, j + 1, false, n, by have := HJ.out; omega, by go_num, by first | rfl | (simp; omega), by go_num, by omega, by omega, HS2, by show World.ownsRow _ _ _ _ _ _ _; rw [HR.out]; exact HO3.out, HT3⟩
        case measure => simp [intOf] <;> omega
      | true =>
        by_cases h1 : x < 0
        · have HS2 := hide (sumsAt_bad (s' := n) HS.out HX.out (.inl h1))
          go_wp2_with (at_builtin; (refine wpList_append_own _ rfl _ _ 24 rfl w.heap.size 3 i0 (.int .i64 0) 1 8 Try.underlying24 hi hz0 hz1 hz2 rfl (by decide) _ _ _ rfl (HO.out.alloc _) ⟨wr.heap.size, 0, none⟩ 1 1 [.int .i64 x] rfl rfl (cell_one_new _ _ _) (fun x hx => by simp at hx; subst hx; rfl) (by unfold maxLen; omega) (by omega) (by simp; omega) ?_); intro v' w3 hown' hgrow3 hnil3; have HT3 := hide ((HTr.out.alloc (.cells #[.int .i64 x] 3)).grown hgrow3 (fun j hj => .inr (ownsRow_lt HO.out j hj).1)); have c3 := (HT3.out.cell (block_lt HW.out) (by simp)).trans HW.out; have HO3 := hide hown'; clear hown' hgrow3 hnil3 c0)
          go_roundw
          case rel => exact ⟨m, j + 1, false, n, by have := HJ.out; omega, by go_num, by first | rfl | (simp; omega), by go_num, by omega, by omega, HS2, by show World.ownsRow _ _ _ _ _ _ _; rw [HR.out]; exact HO3.out, HT3⟩
          case measure => simp [intOf] <;> omega
        · by_cases h2 : 65536 - n < x
          · have HS2 := hide (sumsAt_bad (s' := n) HS.out HX.out (.inr h2))
            go_wp2_with (at_builtin; (refine wpList_append_own _ rfl _ _ 24 rfl w.heap.size 3 i0 (.int .i64 0) 1 8 Try.underlying24 hi hz0 hz1 hz2 rfl (by decide) _ _ _ rfl (HO.out.alloc _) ⟨wr.heap.size, 0, none⟩ 1 1 [.int .i64 x] rfl rfl (cell_one_new _ _ _) (fun x hx => by simp at hx; subst hx; rfl) (by unfold maxLen; omega) (by omega) (by simp; omega) ?_); intro v' w3 hown' hgrow3 hnil3; have HT3 := hide ((HTr.out.alloc (.cells #[.int .i64 x] 3)).grown hgrow3 (fun j hj => .inr (ownsRow_lt HO.out j hj).1)); have c3 := (HT3.out.cell (block_lt HW.out) (by simp)).trans HW.out; have HO3 := hide hown'; clear hown' hgrow3 hnil3 c0)
            go_roundw
            case rel => exact ⟨m, j + 1, false, n, by have := HJ.out; omega, by go_num, by first | rfl | (simp; omega), by go_num, by omega, by omega, HS2, by show World.ownsRow _ _ _ _ _ _ _; rw [HR.out]; exact HO3.out, HT3⟩
            case measure => simp [intOf] <;> omega
          · have HS2 := hide (sumsAt_good HS.out HX.out h1 h2)
            go_wp2_with (at_builtin; (refine wpList_append_own _ rfl _ _ 24 rfl w.heap.size 3 i0 (.int .i64 0) 1 8 Try.underlying24 hi hz0 hz1 hz2 rfl (by decide) _ _ _ rfl (HO.out.alloc _) ⟨wr.heap.size, 0, none⟩ 1 1 [.int .i64 x] rfl rfl (cell_one_new _ _ _) (fun x hx => by simp at hx; subst hx; rfl) (by unfold maxLen; omega) (by omega) (by simp; omega) ?_); intro v' w3 hown' hgrow3 hnil3; have HT3 := hide ((HTr.out.alloc (.cells #[.int .i64 x] 3)).grown hgrow3 (fun j hj => .inr (ownsRow_lt HO.out j hj).1)); have c3 := (HT3.out.cell (block_lt HW.out) (by simp)).trans HW.out; have HO3 := hide hown'; clear hown' hgrow3 hnil3 c0)
            go_roundw
            case rel => exact ⟨m, j + 1, true, n + x, by have := HJ.out; omega, by go_num, by first | rfl | (simp; omega), by go_num, by omega, by omega, HS2, by show World.ownsRow _ _ _ _ _ _ _; rw [HR.out]; exact HO3.out, HT3⟩
            case measure => simp [intOf] <;> omega
    · have hm0 : m = 0 := by omega
      subst hm0
      have hj : j = len := by omega
      subst hj
      have hfull : l.reverse.take j = l.reverse := List.take_of_length_le (by have := HL.out; simp; omega)
      rw [hfull] at HO
      obtain ⟨ao, cp, rfl, hrd⟩ := owns_ird HO.out (by omega) (fun x hx => H.out.inn x (by simpa using hx))
      have H1 := hide (fun w => sum_any a j cap l w)
      have H2 := hide (fun w => sum_any ao j cp l.reverse w)
      have HRd := hide hrd
      rw [sumOf_reverse] at H2
      clear hrd hmj
      cases bb with
      | true =>
        have hy : sumOf l = (n, 0) := by
          rw [← sumOf_reverse]
          have h2 := HS.out.1 rfl
          rw [hfull] at h2
          unfold sumOf
          rw [if_pos h2.1, h2.2]
        rw [hy] at H1 H2
        clear hy hfull
        go_wp2_with fail
        refine (H1.out _ (H.out.turned HTr.out)).mono ?_
        rintro e w2 ⟨rfl, rfl⟩
        go_wp2_with fail
        refine (H2.out _ HRd.out).mono ?_
        rintro e w2 ⟨rfl, rfl⟩
        go_wp2_with fail
        go_ret
        exact ⟨rfl, HTr.out⟩
      | false =>
        have hy : sumOf l = (0, 11) := by
          rw [← sumOf_reverse]
          unfold sumOf
          rw [if_neg (HS.out.2 rfl)]
        rw [hy] at H1 H2
        clear hy hfull
        go_wp2_with fail
        refine (H1.out _ (H.out.turned HTr.out)).mono ?_
        rintro e w2 ⟨rfl, rfl⟩
        go_wp2_with fail
        refine (H2.out _ HRd.out).mono ?_
        rintro e w2 ⟨rfl, rfl⟩
        go_wp2_with fail
        go_ret
        exact ⟨rfl, HTr.out⟩

theorem Try.bytesInt : Try.prog.bytesOf 3 = 8 := by kernel_rfl
theorem classesSums_walk (a : Option Addr) (len cap : Nat) (zs : List Int) (w : World) (h : IsRow .i64 w a len cap zs) (hb : len * 8 ≤ 140737488351232) :
    Calls Try.prog 6 #[.slice a len cap] w fun e w' => e = .returned (.bool true) ∧ Turned [] w w' :=
  sums_walk a len cap _ w (isRow_ird h) hb

set_option maxRecDepth 100000 in
theorem classesSums_lifted (os : Os) (started : os.Started) (H : Type) (enc : TypeId × Value → H) :
    ReturnsInHanded {} Try.checked os 6 .any (Rows.classesSumsSpec.pre6 enc Try.prog Try.f6 Rows.classesSumsRow.domain false) (Rows.classesSumsSpec.post enc Try.prog Try.f6 false true false false) := by
  refine returnsInHanded_of_change_sized (C := Try.checked) own started (by kernel_rfl) Try.func6
    (ChangeSpec.witness6 (enc := enc) (C := Try.checked) false ⟨#[], #[.slice none 0 0], []⟩ 8 (by kernel_rfl) (by kernel_rfl) (by kernel_rfl) (by kernel_rfl)) ?_
  intro W base args ds gs before hval0 hW hcnd hsz0 _
  have hsz : (DataW.weightsEach Try.prog (Try.f6.params.toList ++ Rows.classesSumsSpec.plain.varTypes Try.prog) (ds ++ gs)).all (· ≤ reachBytes) = true := hsz0
  have hval : ∀ (j : Nat) t v, Try.f6.params[j]? = some t → args[j]? = some v → Value.okWide Try.prog W .any base t v := hval0
  have hW' := hW
  obtain ⟨p, q, hA0, hV, rfl, hfz, hnd⟩ := hW
  have hA : DataW.TrodAll enc Try.prog W 0 (fun _ => true) true Try.f6.params.toList args.toList ds p := hA0
  rw [Try.params6] at hA hval hsz
  obtain ⟨v0, vs0, d0, ds0, p0, q0, hargs, rfl, rfl, h0, r0⟩ := trodAll_cons hA
  obtain ⟨rfl, rfl, rfl⟩ := trodAll_nil r0
  obtain rfl : args = #[v0] := by cases args; simp_all
  obtain ⟨rfl, rfl⟩ := trodVars_none hV
  obtain ⟨a0, len0, cap0, rfl⟩ := okWide_slice Try.underlying24 (hval 0 24 v0 rfl rfl)
  have k0 := h0
  have lt0 : ∀ x ∈ p0, x.block < W.heap.size := by obtain ⟨m, hm⟩ := k0; exact DataW.trod_lt m _ _ _ hm
  obtain ⟨z0, w0, hreach⟩ : ∃ zs, IsRow .i64 W a0 len0 cap0 zs ∧ len0 * 8 ≤ 140737488351232 := by
    obtain ⟨fuel, hf⟩ := h0
    rcases open_ints Try.underlying24 Try.underlying3 (by kernel_rfl) hf with ⟨hcs, _⟩ | ⟨x, l, c, zs, hcs, _, hl, hm, hz, hx, hcell, hwz⟩
    · simp [Value.cells] at hcs
      obtain ⟨rfl, rfl, rfl⟩ := hcs
      exact ⟨[], .inl ⟨rfl, rfl, rfl, rfl⟩, by omega⟩
    · simp [Value.cells] at hcs
      obtain ⟨rfl, rfl, rfl⟩ := hcs
      simp only [Prod.mk.injEq] at hx
      obtain ⟨rfl, rfl⟩ := hx
      have hs := sized_slice hsz (j := 0) (t := 24) (e := 3) rfl rfl Try.underlying24
      rw [Try.bytesInt] at hs
      simp only [lits, List.length_map, List.length_take, List.length_drop, reachBytes] at hs
      have hz2 : zs.length = cap0 := by simpa using hz
      exact ⟨zs, .inr ⟨_, rfl, hl, hm, hz2, hcell, hwz⟩, by omega⟩
  clear hA0 hval0
  refine (classesSums_walk a0 len0 cap0 z0 W w0 hreach).mono fun e W' ⟨he, ht⟩ => ?_
  subst he
  have bel : Below W.heap.size W W' := ht.below0
  exact ⟨_, rfl, _, _, _, [], _, [], hW', trodAll_mk1 (shut_bool Try.underlying4 _), (trodAll_cons_mk (Below.trod laidOut (by kernel_rfl) (of_decide_eq_true (by kernel_rfl)) k0 bel lt0) trodAll_mk0), rfl, bel.frame _, fun h => by cases h⟩

theorem classesSums_over : Rows.classesSumsRow.holds Try.pinned (OpenSpec.ofChange Rows.classesSumsSpec) :=
  OpenClaim.holds_of_wide 6 Try.f6 rfl rfl rfl rfl rfl rfl rfl ⟨rfl, rfl, rfl, rfl, rfl⟩ rfl rfl rfl rfl rfl (by kernel_rfl) Try.func6 (by kernel_rfl)
    (of_decide_eq_true (by kernel_rfl)) (by unfold Func.isWrapper; first | (rw [if_pos (by decide +kernel)]; kernel_rfl) | (rw [if_neg (by decide +kernel)]; exact ⟨rfl, rfl⟩))
    (fun os started H enc _ => classesSums_lifted os started H enc)

theorem classesSums_holds : Rows.ClassesSumsSaid := classesSums_over
end Go.Proofs.Ytcnclecdainneaa

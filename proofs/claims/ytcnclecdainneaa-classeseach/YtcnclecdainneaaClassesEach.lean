/-
  The statement ClassesEach is proved: for every list of classes the law returns true and the list reads as before; no condition.
-/
import Derived.Test.YtcnclecdainneaaClassesAwake
import Derived.Test.YtcnclecdainneaaClassesOpen
namespace Go.Proofs.Ytcnclecdainneaa
open Go.RowKit Go.ChangeShapes Go.WideShapes Go.ChangeAt
set_option linter.unusedVariables false

theorem crd_one {w : World} (c : Cls) (hc : c.In) : CRd (w.alloc (.cells #[.int .i64 c.r, .int .i64 c.w, .int .i64 c.a] 43)) (some ⟨w.heap.size, 0, none⟩) 1 [c] := by
  refine ⟨rfl, by omega, fun i d hd => ?_, fun d hd => by simp at hd; subst hd; exact hc⟩
  have hh := heap_alloc_new w (.cells #[.int .i64 c.r, .int .i64 c.w, .int .i64 c.a] 43)
  match i, hd with
  | 0, hd =>
    simp at hd
    subst hd
    exact ⟨_, 0, rfl, by rw [cell_of_heap hh]; rfl, by rw [cell_of_heap hh]; rfl, by rw [cell_of_heap hh]; rfl⟩
  | n + 1, hd => simp at hd
theorem crd_nil (w : World) : CRd w none 0 [] := ⟨rfl, by omega, fun i d hd => by simp at hd, fun d hd => by simp at hd⟩
theorem checkOf_one (c : Cls) : checkOf [c] = if c.may then 0 else 12 := by
  unfold checkOf
  simp

theorem check_one (c : Cls) (hc : c.In) (w : World) :
    Calls Try.prog 14 #[.slice (some ⟨w.heap.size, 0, none⟩) 1 1] (w.alloc (.cells #[.int .i64 c.r, .int .i64 c.w, .int .i64 c.a] 43)) fun e w' => e = .returned (.int .i64 (if c.may then 0 else 12)) ∧ Turned [] w w' := by
  have h1 := check_any (some ⟨w.heap.size, 0, none⟩) 1 1 [c] _ (crd_one (w := w) c hc)
  rw [checkOf_one] at h1
  refine h1.mono ?_
  rintro e w' ⟨rfl, ht⟩
  exact ⟨rfl, ((Turned.refl [] w).alloc _).trans ht⟩

def allTo (cs : List Cls) (j : Nat) : Prop := cs.length ≤ 16 ∧ ∀ (m : Nat) c, m < j → cs[m]? = some c → c.may = true
def AllB (cs : List Cls) (j : Nat) (b : Bool) : Prop := b = true ↔ allTo cs j

set_option maxRecDepth 100000 in
theorem classesEach_walk (a : Option Addr) (len cap : Nat) (cs : List Cls) (w : World) (h : CRd w a len cs) :
    Calls Try.prog 7 #[.slice a len cap] w fun e w' => e = .returned (.bool true) ∧ Turned [] w w' := by
  have HL := hide h.size
  have hr := h.room
  have H := hide h
  clear h
  go_enter Try.func7, Try.ntmps7
  go_wp2_with fail
  refine (awake_true _).mono ?_
  rintro e w1 ⟨rfl, ht1⟩
  have HT := hide ht1
  clear ht1
  go_wp2_with fail
  obtain ⟨b0, hb0⟩ : ∃ b, b = decide ((len : Int) ≤ 16) := ⟨_, rfl⟩
  rw [← hb0]
  have HB0 : Hid (AllB cs 0 b0) := by
    rw [hb0]
    show _ ↔ _
    have := HL.out
    unfold allTo
    simp
    omega
  clear hb0
  go_loopw [4, 5] (fun b i wr => ∃ (j : Nat) (bb : Bool), j ≤ len ∧ i = .int .i64 j ∧ b = .bool bb ∧ Hid (AllB cs j bb) ∧ Hid (Turned [] w wr)) (fun _ i _ => len - (intOf i).toNat)
  case atStart => exact ⟨0, b0, Nat.zero_le _, rfl, rfl, HB0, HT⟩
  case round =>
    obtain ⟨j, bb, hj, rfl, rfl, HB, HTr⟩ := hrel
    by_cases hlt : j < len
    · obtain ⟨c, hc⟩ : ∃ c, cs[j]? = some c := ⟨_, List.getElem?_eq_getElem (by have := HL.out; omega)⟩
      obtain ⟨b, off, rfl, c0, c1, c2⟩ := (H.out.turned HTr.out).cell j c hc
      have HM := hide (fun w => check_one c (H.out.inn c (List.mem_of_getElem? hc)) w)
      have HC := hide hc
      clear hc
      cases bb with
      | true =>
        cases hm : c.may with
        | true =>
          rw [hm] at HM
          have HB2 : Hid (AllB cs (j + 1) true) := by
            show _ ↔ _
            refine ⟨fun _ => ⟨(HB.out.1 rfl).1, fun m d hmj hd => ?_⟩, fun _ => rfl⟩
            by_cases he : m = j
            · subst he
              rw [HC.out] at hd
              injection hd with hd
              subst hd
              exact hm
            · exact (HB.out.1 rfl).2 m d (by omega) hd
          clear hm HC HB
          go_wp2_with fail
          refine (HM.out _).mono ?_
          rintro e w2 ⟨rfl, ht2⟩
          have HT2 := hide (HTr.out.trans ht2)
          clear ht2 HM HTr
          go_wp2_with fail
          go_roundw
          case rel => exact ⟨j + 1, true, by omega, by go_num, rfl, HB2, HT2⟩
          case measure => simp [intOf]; omega
        | false =>
          rw [hm] at HM
          have HB2 : Hid (AllB cs (j + 1) false) := by
            show _ ↔ _
            refine ⟨fun hf => (Bool.false_ne_true hf).elim, fun hf => ?_⟩
            have := hf.2 j c (by omega) HC.out
            rw [hm] at this
            exact this
          clear hm HC HB
          go_wp2_with fail
          refine (HM.out _).mono ?_
          rintro e w2 ⟨rfl, ht2⟩
          have HT2 := hide (HTr.out.trans ht2)
          clear ht2 HM HTr
          go_wp2_with fail
          go_roundw
          case rel => exact ⟨j + 1, false, by omega, by go_num, rfl, HB2, HT2⟩
          case measure => simp [intOf]; omega
      | false =>
        have HB2 : Hid (AllB cs (j + 1) false) := by
          show _ ↔ _
          refine ⟨fun hf => (Bool.false_ne_true hf).elim, ?_⟩
          · intro hf; exact HB.out.2 ⟨hf.1, fun m c hm hc => hf.2 m c (by omega) hc⟩
        go_wp2_with fail
        go_roundw
        case rel => exact ⟨j + 1, false, by omega, by go_num, rfl, HB2, HTr⟩
        case measure => simp [intOf]; omega
    · have HC := hide (check_any a len cap cs wr (H.out.turned HTr.out))
      have HN := hide (fun w => check_any none 0 0 [] w (crd_nil w))
      rw [show checkOf [] = 0 by decide] at HN
      have HY : Hid (bb = true ↔ checkOf cs = 0) := by
        show _ ↔ _
        refine HB.out.trans ?_
        unfold allTo checkOf
        have hl := HL.out
        constructor
        · rintro ⟨h1, h2⟩
          have h3 : ∀ c, c ∈ cs → c.may = true := fun c hc => by
            obtain ⟨m, hm⟩ := List.mem_iff_getElem?.1 hc
            exact h2 m c (by have := (List.getElem?_eq_some_iff.1 hm).1; omega) hm
          rw [if_pos ⟨h1, h3⟩]
        · intro h1
          by_cases h2 : cs.length ≤ 16 ∧ ∀ c, c ∈ cs → c.may = true
          · exact ⟨h2.1, fun m c _ hc => h2.2 c (List.mem_of_getElem? hc)⟩
          · rw [if_neg h2] at h1
            omega
      clear HB
      cases bb with
      | true =>
        rw [HY.out.1 rfl] at HC
        clear HY
        go_wp2_with fail
        refine HC.out.mono ?_
        rintro e w2 ⟨rfl, ht2⟩
        have HT2 := hide (HTr.out.trans ht2)
        clear ht2 HC HTr
        go_wp2_with fail
        refine (HN.out _).mono ?_
        rintro e w3 ⟨rfl, ht3⟩
        have HT3 := hide (HT2.out.trans ht3)
        clear ht3 HN HT2
        go_wp2_with fail
        go_ret
        exact ⟨rfl, HT3.out⟩
      | false =>
        have h12 : checkOf cs = 12 := by
          unfold checkOf at HY ⊢
          by_cases h2 : cs.length ≤ 16 ∧ ∀ c, c ∈ cs → c.may = true
          · rw [if_pos h2] at HY
            exact (Bool.false_ne_true (HY.out.2 rfl)).elim
          · rw [if_neg h2]
        rw [h12] at HC
        clear HY h12
        go_wp2_with fail
        refine HC.out.mono ?_
        rintro e w2 ⟨rfl, ht2⟩
        have HT2 := hide (HTr.out.trans ht2)
        clear ht2 HC HTr
        go_wp2_with fail
        refine (HN.out _).mono ?_
        rintro e w3 ⟨rfl, ht3⟩
        have HT3 := hide (HT2.out.trans ht3)
        clear ht3 HN HT2
        go_wp2_with fail
        go_ret
        exact ⟨rfl, HT3.out⟩

set_option maxRecDepth 100000 in
theorem classesEach_lifted (os : Os) (started : os.Started) (H : Type) (enc : TypeId × Value → H) :
    ReturnsInHanded {} Try.checked os 7 .any (Rows.classesEachSpec.pre6 enc Try.prog Try.f7 Rows.classesEachRow.domain false) (Rows.classesEachSpec.post enc Try.prog Try.f7 false true false false) := by
  refine returnsInHanded_of_change (C := Try.checked) own started (by kernel_rfl) Try.func7
    (ChangeSpec.witness6 (enc := enc) (C := Try.checked) false ⟨#[], #[.slice none 0 0], []⟩ 8 (by kernel_rfl) (by kernel_rfl) (by kernel_rfl) (by kernel_rfl)) ?_
  intro W base args ds gs before hval0 hW hcnd _
  have hval : ∀ (j : Nat) t v, Try.f7.params[j]? = some t → args[j]? = some v → Value.okWide Try.prog W .any base t v := hval0
  have hW' := hW
  obtain ⟨p, q, hA0, hV, rfl, hfz, hnd⟩ := hW
  have hA : DataW.TrodAll enc Try.prog W 0 (fun _ => true) true Try.f7.params.toList args.toList ds p := hA0
  rw [Try.params7] at hA hval
  obtain ⟨v0, vs0, d0, ds0, p0, q0, hargs, rfl, rfl, h0, r0⟩ := trodAll_cons hA
  obtain ⟨rfl, rfl, rfl⟩ := trodAll_nil r0
  obtain rfl : args = #[v0] := by cases args; simp_all
  obtain ⟨rfl, rfl⟩ := trodVars_none hV
  obtain ⟨a0, len0, cap0, rfl⟩ := okWide_slice Try.underlying22 (hval 0 22 v0 rfl rfl)
  have k0 := h0
  have lt0 : ∀ x ∈ p0, x.block < W.heap.size := by obtain ⟨m, hm⟩ := k0; exact DataW.trod_lt m _ _ _ hm
  obtain ⟨z0, w0⟩ := open_classes h0
  clear hA0 hval0
  refine (classesEach_walk a0 len0 cap0 z0 W w0).mono fun e W' ⟨he, ht⟩ => ?_
  subst he
  have bel : Below W.heap.size W W' := ht.below0
  exact ⟨_, rfl, _, _, _, [], _, [], hW', trodAll_mk1 (shut_bool Try.underlying4 _), (trodAll_cons_mk (Below.trod laidOut (by kernel_rfl) (of_decide_eq_true (by kernel_rfl)) k0 bel lt0) trodAll_mk0), rfl, bel.frame _, fun h => by cases h⟩

theorem classesEach_over : Rows.classesEachRow.holds Try.pinned (OpenSpec.ofChange Rows.classesEachSpec) :=
  OpenClaim.holds_of_wide 7 Try.f7 rfl rfl rfl rfl rfl rfl rfl ⟨rfl, rfl, rfl, rfl, rfl⟩ rfl rfl rfl rfl rfl (by kernel_rfl) Try.func7 (by kernel_rfl)
    (of_decide_eq_true (by kernel_rfl)) (by unfold Func.isWrapper; first | (rw [if_pos (by decide +kernel)]; kernel_rfl) | (rw [if_neg (by decide +kernel)]; exact ⟨rfl, rfl⟩))
    (fun os started H enc _ => classesEach_lifted os started H enc)

theorem classesEach_holds : Rows.ClassesEachSaid := classesEach_over
end Go.Proofs.Ytcnclecdainneaa

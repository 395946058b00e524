/-
  In, Reached and Resume.
-/
import Derived.Test.YtclfeafmlngpnaaSafeThose
namespace Go.Proofs.Ytclfeafmlngpnaa
open Go.RowKit Go.Maps
set_option linter.unusedVariables false

theorem those_nil_ (w : World) (f : Value) : Calls Try.prog 37 #[.pointer none, f] w fun e w' => e = .returned (.slice none 0 0) ∧ w' = w := by
  go_enter Try.func37, Try.ntmps37
  go_wp2_with fail
  go_ret
  exact ⟨rfl, rfl⟩

theorem in1_any (w : World) (s : Int) : Calls Try.prog 38 #[.int .i64 s] w fun e w' => e = .returned (.bool true) ∧ w' = w := by
  go_enter Try.func38, Try.ntmps38
  go_wp2_with fail
  go_ret
  exact ⟨rfl, rfl⟩
theorem in2_any (w : World) (B : Nat) (s : Int) (b1 b2 b3 : Bool) (h : w.heap[B]? = some (.cells #[.bool false, .bool b1, .bool b2, .bool b3] 54)) (hs : 1 ≤ s ∧ s ≤ 3) :
    Calls Try.prog 39 #[.int .i64 s, ptr B] w fun e w' => e = .returned (.bool (if s = 1 then b1 else if s = 2 then b2 else b3)) ∧ w' = w := by
  have c1 : w.cell? ⟨B, 1, none⟩ = some (.bool b1) := by rw [cell_of_heap h]; rfl
  have c2 : w.cell? ⟨B, 2, none⟩ = some (.bool b2) := by rw [cell_of_heap h]; rfl
  have c3 : w.cell? ⟨B, 3, none⟩ = some (.bool b3) := by rw [cell_of_heap h]; rfl
  clear h
  unfold ptr
  have h3 : s = 1 ∨ s = 2 ∨ s = 3 := by omega
  rcases h3 with rfl | rfl | rfl
  · go_enter Try.func39, Try.ntmps39
    go_wp2_with fail
    go_ret
    exact ⟨rfl, rfl⟩
  · go_enter Try.func39, Try.ntmps39
    go_wp2_with fail
    go_ret
    exact ⟨rfl, rfl⟩
  · go_enter Try.func39, Try.ntmps39
    go_wp2_with fail
    go_ret
    exact ⟨rfl, rfl⟩

theorem row_nil (w : World) (B : Nat) : Row w B (.slice none 0 0) [] := World.ownsRow_nil _ _ _ _

theorem those_congr {L : Th} (hL : Ok L) {q r : Int → Bool} (h : ∀ s, 1 ≤ s ∧ s ≤ 3 → q s = r s) : those q L = those r L := by
  unfold those
  congr 1
  refine List.filter_congr fun p hp => h p.2 ?_
  have := hL.ok p hp
  omega

/-- The threads in one of these states; without states: all. -/
def inL (l : List Int) (L : Th) : List Int := those (fun s => l.isEmpty || decide (s ∈ l)) L

theorem those_all (w : World) (a : Nat) (mo : Option Nat) (L : Th) (ar : Bool) (h : Sf w a mo L ar) :
    Calls Try.prog 37 #[ptr a, .func (.func 38) #[] #[]] w fun e w' => ∃ v, e = .returned v ∧ Row w' w.heap.size v (inL [] L) ∧ Turned [] w w' := by
  cases mo with
  | none =>
    refine (those_all_none w a L ar h).mono ?_
    rintro e w' ⟨rfl, ht⟩
    rw [h.emp rfl]
    exact ⟨_, rfl, row_nil _ _, ht⟩
  | some b => exact those_all_some w a b L ar (fun s => ([] : List Int).isEmpty || decide (s ∈ ([] : List Int))) h (fun w' s _ _ => in1_any w' s)
theorem those_asked (w : World) (a : Nat) (mo : Option Nat) (L : Th) (ar : Bool) (B : Nat) (l : List Int) (hl : l ≠ []) (h : Sf w a mo L ar) (hB : w.heap[B]? = some (.cells #[.bool false, .bool (decide ((1 : Int) ∈ l)), .bool (decide ((2 : Int) ∈ l)), .bool (decide ((3 : Int) ∈ l))] 54)) :
    Calls Try.prog 37 #[ptr a, .func (.func 39) #[] #[ptr B]] w fun e w' => ∃ v, e = .returned v ∧ Row w' w.heap.size v (inL l L) ∧ Turned [] w w' := by
  cases mo with
  | none =>
    refine (those_asked_none w a L ar h B).mono ?_
    rintro e w' ⟨rfl, ht⟩
    rw [h.emp rfl]
    exact ⟨_, rfl, row_nil _ _, ht⟩
  | some b =>
    refine (those_asked_some w a b L ar (fun s => l.isEmpty || decide (s ∈ l)) B h (fun w' s ht hs => ?_))
    refine (in2_any w' B s _ _ _ ((ht.block B (lt_of_heap hB) (by simp)).trans hB) hs).mono ?_
    rintro e w2 ⟨rfl, rfl⟩
    refine ⟨?_, rfl⟩
    have he : l.isEmpty = false := by cases l <;> simp at hl ⊢
    have h3 : s = 1 ∨ s = 2 ∨ s = 3 := by omega
    rcases h3 with rfl | rfl | rfl <;> simp [he]

set_option maxRecDepth 100000 in
theorem in_any (w : World) (a : Nat) (mo : Option Nat) (L : Th) (ar : Bool) (ao : Option Addr) (len cap : Nat) (l : List Int) (h : Sf w a mo L ar) (hl : IRd w ao len l) (hlen : len ≤ 4611686018427387904) :
    Calls Try.prog 24 #[ptr a, .slice ao len cap] w fun e w' => ∃ v, e = .returned v ∧ Row w' w.heap.size v (inL l L) ∧ Turned [] w w' := by
  have HS := hide h
  have HL := hide hl
  by_cases h0 : len = 0
  · subst h0
    obtain rfl : l = [] := List.eq_nil_of_length_eq_zero hl.size
    have HC := hide (those_all w a mo L ar h)
    clear h hl
    unfold ptr at HC ⊢
    go_enter Try.func24, Try.ntmps24
    go_wp2_with fail
    refine HC.out.mono ?_
    rintro e w1 ⟨v, rfl, h1, t1⟩
    have H1 := hide h1
    have T1 := hide t1
    clear h1 t1
    go_wp2_with fail
    go_ret
    exact ⟨_, rfl, H1.out, T1.out⟩
  · have hne : l ≠ [] := fun e => h0 (by rw [← hl.size, e]; rfl)
    have b0 : ((len : Int) == 0) = false := by simp; omega
    have e0 : ¬ (len : Int) = 0 := by omega
    have ht0 := (Turned.refl [] w).alloc (.cells #[.bool false, .bool false, .bool false, .bool false] 54)
    have HT0 := hide ht0
    have HB0 : Hid ((w.alloc (.cells #[.bool false, .bool false, .bool false, .bool false] 54)).heap[w.heap.size]? = some (.cells #[.bool false, .bool (decide ((1 : Int) ∈ l.take 0)), .bool (decide ((2 : Int) ∈ l.take 0)), .bool (decide ((3 : Int) ∈ l.take 0))] 54)) := by
      show _ = _
      rw [heap_alloc_new]
      simp
    have HNe := hide hne
    clear h hl ht0 hne
    unfold ptr
    go_enter Try.func24, Try.ntmps24
    go_wp2_with fail
    obtain ⟨B, hB⟩ : ∃ B, B = w.heap.size := ⟨_, rfl⟩
    rw [← hB] at HB0 ⊢
    have hlo : w.heap.size ≤ B := by omega
    clear hB
    go_loopw [15] (fun s15 wr => ∃ (k : Nat), k ≤ len ∧ s15 = .int .i64 k ∧ Hid (wr.heap[B]? = some (.cells #[.bool false, .bool (decide ((1 : Int) ∈ l.take k)), .bool (decide ((2 : Int) ∈ l.take k)), .bool (decide ((3 : Int) ∈ l.take k))] 54)) ∧ Hid (Turned [] w wr)) (fun s15 _ => len - (intOf s15).toNat)
    case atStart => exact ⟨0, Nat.zero_le _, rfl, HB0, HT0⟩
    case round =>
      obtain ⟨k, hk, rfl, HB, HTr⟩ := hrel
      by_cases hlt : k < len
      · obtain ⟨x, hx⟩ : ∃ x, l[k]? = some x := ⟨_, List.getElem?_eq_getElem (by rw [HL.out.size]; exact hlt)⟩
        obtain ⟨g, off, rfl, hc⟩ := (HL.out.turned HTr.out (by simp)).cell k x hx
        have HE : Hid (l.take (k + 1) = l.take k ++ [x]) := take_snoc hx
        have hf : ∀ i, wr.frozen? ⟨B, i, none⟩ = false := fun i => by simp [World.frozen?, HB.out]
        have hf1 := hf 1
        have hf2 := hf 2
        have hf3 := hf 3
        have c1 : wr.cell? ⟨B, 1, none⟩ = some (.bool (decide ((1 : Int) ∈ l.take k))) := by rw [cell_of_heap HB.out]; rfl
        have c2 : wr.cell? ⟨B, 2, none⟩ = some (.bool (decide ((2 : Int) ∈ l.take k))) := by rw [cell_of_heap HB.out]; rfl
        have c3 : wr.cell? ⟨B, 3, none⟩ = some (.bool (decide ((3 : Int) ∈ l.take k))) := by rw [cell_of_heap HB.out]; rfl
        have HSet := hide (fun i => heap_setCell_at wr B i _ _ _ HB.out (.bool true))
        have HTs := hide (fun i => HTr.out.setCell (p := ⟨B, i, none⟩) (.inr hlo) (.bool true))
        clear hx hf
        by_cases x1 : x < 1
        · have d1 : ¬ (1 ≤ x) := by omega
          go_wp2_with fail
          go_roundw
          case rel => exact ⟨k + 1, by omega, by go_num, by show _ = _; rw [HE.out, HB.out]; simp [show ¬ 1 = x by omega, show ¬ 2 = x by omega, show ¬ 3 = x by omega], HTr⟩
          case measure => simp [intOf]; omega
        · by_cases x3 : 3 < x
          · have d1 : 1 ≤ x := by omega
            have d3 : ¬ (x ≤ 3) := by omega
            go_wp2_with fail
            go_roundw
            case rel => exact ⟨k + 1, by omega, by go_num, by show _ = _; rw [HE.out, HB.out]; simp [show ¬ 1 = x by omega, show ¬ 2 = x by omega, show ¬ 3 = x by omega], HTr⟩
            case measure => simp [intOf]; omega
          · have h3 : x = 1 ∨ x = 2 ∨ x = 3 := by omega
            rcases h3 with rfl | rfl | rfl
            · go_wp2_with fail
              go_roundw
              case rel => exact ⟨k + 1, by omega, by go_num, by show _ = _; rw [HE.out, HSet.out 1]; simp, HTs.out 1⟩
              case measure => simp [intOf]; omega
            · go_wp2_with fail
              go_roundw
              case rel => exact ⟨k + 1, by omega, by go_num, by show _ = _; rw [HE.out, HSet.out 2]; simp, HTs.out 2⟩
              case measure => simp [intOf]; omega
            · go_wp2_with fail
              go_roundw
              case rel => exact ⟨k + 1, by omega, by go_num, by show _ = _; rw [HE.out, HSet.out 3]; simp, HTs.out 3⟩
              case measure => simp [intOf]; omega
      · have hkl : k = len := by omega
        subst hkl
        have e1 : l.take k = l := List.take_of_length_le (Nat.le_of_eq HL.out.size)
        rw [e1] at HB
        have HC := hide (those_asked wr a mo L ar B l HNe.out (HS.out.turned HTr.out (by simp) (by simp)) HB.out)
        unfold ptr at HC
        clear e1
        go_wp2_with fail
        refine HC.out.mono ?_
        rintro e w1 ⟨v, rfl, h1, t1⟩
        have H1 := hide (h1.mono HTr.out.size)
        have T1 := hide (HTr.out.trans t1)
        clear h1 t1
        go_wp2_with fail
        go_ret
        exact ⟨_, rfl, H1.out, T1.out⟩
theorem in_nil (w : World) (cap : Nat) : Calls Try.prog 24 #[.pointer none, .slice none 0 cap] w fun e w' => e = .returned (.slice none 0 0) ∧ w' = w := by
  have HC := hide (those_nil_ w (.func (.func 38) #[] #[]))
  go_enter Try.func24, Try.ntmps24
  go_wp2_with fail
  refine HC.out.mono ?_
  rintro e w1 ⟨rfl, hw⟩
  rw [hw]
  clear hw w1
  go_wp2_with fail
  go_ret
  exact ⟨rfl, rfl⟩

/-- Nobody runs. -/
def still (L : Th) : Bool := L.all fun p => decide (p.2 ≠ 1)
theorem still_iff {L : Th} (hL : Ok L) : still L = true ↔ ∀ x, st L x ≠ 1 := by
  unfold still
  rw [List.all_eq_true]
  constructor
  · intro h x e
    have h1 := h _ (st_mem (L := L) (x := x) (by omega))
    simp [e] at h1
  · intro h p hp
    have h1 := h p.1
    rw [st_of_mem hL hp] at h1
    exact decide_eq_true h1

theorem reached_off (w : World) (a : Nat) (mo : Option Nat) (L : Th) (h : Sf w a mo L false) :
    Calls Try.prog 29 #[ptr a] w fun e w' => e = .returned (.bool false) ∧ w' = w := by
  have HA := hide (armed_any w a mo L false h)
  clear h
  unfold ptr at HA ⊢
  go_enter Try.func29, Try.ntmps29
  go_wp2_with fail
  refine HA.out.mono ?_
  rintro e w1 ⟨rfl, hw⟩
  rw [hw]
  clear hw w1
  go_wp2_with fail
  go_ret
  exact ⟨rfl, rfl⟩
theorem reached_nil (w : World) : Calls Try.prog 29 #[.pointer none] w fun e w' => e = .returned (.bool false) ∧ w' = w := by
  have HA := hide (armed_nil w)
  go_enter Try.func29, Try.ntmps29
  go_wp2_with fail
  refine HA.out.mono ?_
  rintro e w1 ⟨rfl, hw⟩
  rw [hw]
  clear hw w1
  go_wp2_with fail
  go_ret
  exact ⟨rfl, rfl⟩
theorem reached_none (w : World) (a : Nat) (L : Th) (h : Sf w a none L true) :
    Calls Try.prog 29 #[ptr a] w fun e w' => e = .returned (.bool true) ∧ Turned [] w w' := by
  have HA := hide (armed_any w a none L true h)
  have hc0 := h.c0
  have HT := hide ((Turned.refl [] w).alloc (.mapIter none 0 #[] 0))
  have hrg := run_range_nilMap (P := Try.prog) w 46 3 3 Try.underlying46
  have hnx : ∀ ty, (Instr.next (.pointer (some ⟨w.heap.size, 0, none⟩)) false ty).run Try.prog (w.alloc (.mapIter none 0 #[] 0)) = _ := fun ty => run_next_nilMap w ty 0 0 #[]
  clear h
  unfold ptr at HA ⊢
  go_enter Try.func29, Try.ntmps29
  go_wp2_with fail
  refine HA.out.mono ?_
  rintro e w1 ⟨rfl, hw⟩
  rw [hw]
  clear hw w1
  go_wp2_with fail
  refine wp_loop_rounds 1 ?_
  rw [rounds_succ]
  go_wp2_with fail
  go_ret
  exact ⟨rfl, HT.out⟩
set_option maxRecDepth 100000 in
theorem reached_some (w : World) (a b : Nat) (L : Th) (h : Sf w a (some b) L true) :
    Calls Try.prog 29 #[ptr a] w fun e w' => e = .returned (.bool (still L)) ∧ Turned [] w w' := by
  have HA := hide (armed_any w a _ L true h)
  have hc0 := h.c0
  have HS := hide h
  obtain ⟨D, hown, hD⟩ := h.map b rfl
  have HD := hide hD
  obtain ⟨n, hn⟩ : ∃ n, n = L.length := ⟨_, rfl⟩
  rw [← hn] at hown
  clear h hD hn
  unfold ptr at HA ⊢
  go_enter Try.func29, Try.ntmps29
  go_wp2_with fail
  refine HA.out.mono ?_
  rintro e w1 ⟨rfl, hw⟩
  rw [hw]
  clear hw w1
  go_wp2_with (at_range; refine wpList_range_own _ rfl _ 46 rfl 3 3 law3 Try.underlying46 _ b n D rfl hown ?_; intro w0 hrg0 hg0 hs0)
  go_frame
  clear hown
  have HT0 := hide ((Turned.refl [] w).grown hg0 (by simp))
  have HL0 := hide (show ∀ x, st L x = 1 → has D (.int .i64 x) = true from fun x hx => by rw [(HD.out x).1, hx]; rfl)
  have HR0 := hide hrg0
  clear hg0 hs0
  obtain ⟨r, hr⟩ : ∃ r, r = w.heap.size := ⟨_, rfl⟩
  rw [← hr] at HR0 hrg0 ⊢
  have hrlo : w.heap.size ≤ r := by omega
  clear hrg0 hr
  go_loopw [4] (fun _ wr => ∃ (left : Lit → Bool) (cnt : Nat), Hid (wr.ranges Try.prog 3 (plainElem Try.prog 3) b r n D left cnt) ∧ Hid (∀ x, st L x = 1 → left (.int .i64 x) = true) ∧ Hid (Turned [] w wr)) (fun _ wr => wr.rangeLeft b r)
  case atStart => exact ⟨_, _, HR0, HL0, HT0⟩
  case round =>
    obtain ⟨left, cnt, HR, HLf, HTr⟩ := hrel
    go_wp2_with (at_next; refine wpList_next_ranges_ii _ rfl _ rfl 3 3 .i64 .i64 law3 Try.underlying3 Try.underlying3 b r n _ _ _ rfl HR.out ?_ ?_)
    · intro _ hl0
      have HE := hide (show still L = true from (still_iff HS.out.ok).2 fun x hx => by have := HLf.out x hx; rw [hl0] at this; cases this)
      clear hl0
      go_wp2_with fail
      go_ret
      exact ⟨by rw [HE.out]; rfl, HTr.out⟩
    · intro x c w1 cnt1 hwx hwc hlx hat hrg1 hlt hg1 hs1 hen
      obtain ⟨hx0, rfl⟩ := HD.out.at hat
      have HT1 := hide (HTr.out.grown hg1 (fun k hk => by cases hk; right; omega))
      have HR1 := hide hrg1
      have HMs := hide (show cnt1 < wr.rangeLeft b r by rw [HR.out.left_eq]; exact hlt)
      by_cases h1 : st L x = 1
      · have HE := hide (show still L = false by cases hs : still L with | false => rfl | true => exact absurd h1 ((still_iff HS.out.ok).1 hs x))
        rw [h1] at hen
        clear hat hrg1 hg1 hs1 hlt hx0 HR HTr
        go_wp2_with fail
        go_ret
        exact ⟨by rw [HE.out]; rfl, HT1.out⟩
      · have HL1 := hide (show ∀ y, st L y = 1 → (left (.int .i64 y) && !(Lit.int .i64 y).sameKey (.int .i64 x)) = true from fun y hy => by
          have hne : y ≠ x := fun e => h1 (by rw [← e]; exact hy)
          rw [HLf.out y hy]
          simp [Lit.sameKey, hne])
        have b1 : (st L x == 1) = false := by simp [h1]
        clear hat hrg1 hg1 hs1 hlt hx0 HR HTr
        generalize st L x = s at *
        go_wp2_with fail
        go_roundw
        case rel => exact ⟨_, cnt1, HR1, HL1, HT1⟩
        case measure => rw [HR1.out.left_eq]; exact HMs.out

def reach (L : Th) (ar : Bool) : Bool := ar && still L
theorem reached_any (w : World) (a : Nat) (mo : Option Nat) (L : Th) (ar : Bool) (h : Sf w a mo L ar) :
    Calls Try.prog 29 #[ptr a] w fun e w' => e = .returned (.bool (reach L ar)) ∧ Turned [] w w' := by
  cases ar
  · refine (reached_off w a mo L h).mono ?_
    rintro e w' ⟨rfl, rfl⟩
    exact ⟨rfl, Turned.refl _ _⟩
  · cases mo with
    | none =>
      have hL := h.emp rfl
      refine (reached_none w a L h).mono ?_
      rintro e w' ⟨rfl, ht⟩
      rw [hL]
      exact ⟨rfl, ht⟩
    | some b => exact reached_some w a b L h
end Go.Proofs.Ytclfeafmlngpnaa

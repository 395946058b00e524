/-
  Slices of operations: slices.Clone, IndexFunc, DeleteFunc at []*Op, and 'undone': those that are done fall out.
-/
import Derived.Test.YtokabpgdklihlaaDequeAcc
import Derived.Lib.SliceRun
import Derived.Laws.IdiomCopy
import Derived.Deep.MidRow
import Derived.Deep.Cut
import Derived.Deep.CutBlock
import Derived.Deep.CutRange
import Derived.Deep.DeepCutAuto
import Derived.Deep.LoopGhost
namespace Go.Proofs.Ytokabpgdklihlaa
open Go.RowKit

/-- A pointer to an operation, nil or not. -/
def pv : Option Nat → Value
  | none => .pointer none
  | some b => .pointer (some ⟨b, 0, none⟩)

/-- A row of pointers from a block's beginning on; n cells of it are there. -/
structure PR (w : World) (g n : Nat) (xs : List (Option Nat)) : Prop where
  at_ : ∀ i x, xs[i]? = some x → w.cell? ⟨g, i, none⟩ = some (pv x)
  there : ∀ i, i < n → (w.cell? ⟨g, i, none⟩).isSome = true
  fz : ∀ i, w.frozen? ⟨g, i, none⟩ = false
  lt : g < w.heap.size

theorem PR.turned {w w' : World} {g n : Nat} {xs : List (Option Nat)} (h : PR w g n xs) {S : List Nat} (t : Turned S w w') (hg : g ∉ S) : PR w' g n xs :=
  ⟨fun i x hx => by rw [t.cell h.lt hg]; exact h.at_ i x hx, fun i hi => by rw [t.cell h.lt hg]; exact h.there i hi, fun i => by rw [t.frozen h.lt hg]; exact h.fz i, Nat.lt_of_lt_of_le h.lt t.size⟩

/-- What is kept of the first m. -/
def keptTo (dn : Option Nat → Bool) (ps : List (Option Nat)) (m : Nat) : List (Option Nat) := (ps.take m).filter (fun x => !dn x)
theorem keptTo_succ (dn : Option Nat → Bool) (ps : List (Option Nat)) (m : Nat) (x : Option Nat) (hx : ps[m]? = some x) : keptTo dn ps (m + 1) = keptTo dn ps m ++ if dn x then [] else [x] := by
  unfold keptTo
  rw [List.take_add_one, hx, List.filter_append]
  cases hb : dn x <;> simp [hb]
theorem keptTo_all (dn : Option Nat → Bool) (ps : List (Option Nat)) (m : Nat) (h : ∀ i x, i < m → ps[i]? = some x → dn x = false) : keptTo dn ps m = ps.take m := by
  unfold keptTo
  rw [List.filter_eq_self]
  intro x hx
  obtain ⟨i, hi⟩ := List.mem_iff_getElem?.1 hx
  rw [List.getElem?_take] at hi
  split at hi
  · simp [h i x (by assumption) hi]
  · cases hi
theorem keptTo_le (dn : Option Nat → Bool) (ps : List (Option Nat)) (m : Nat) : (keptTo dn ps m).length ≤ m := by
  unfold keptTo
  have h1 := List.length_filter_le (fun x => !dn x) (ps.take m)
  have h2 := List.length_take_le m ps
  omega

section
variable (w : World) (g cap n : Nat) (ps : List (Option Nat)) (dn : Option Nat → Bool)

theorem index_any (hl : ps.length = n) (hn : n ≤ 65536) (h : PR w g n ps) (hD : ∀ x, x ∈ ps → Calls Try.prog 44 #[pv x] w fun e w' => e = .returned (.bool (dn x)) ∧ w' = w) :
    Calls Try.prog 56 #[.slice (some ⟨g, 0, none⟩) n cap, .func (.func 44) #[] #[]] w fun e w' =>
      ∃ r : Int, e = .returned (.int .i64 r) ∧ w' = w ∧ ((r = -1 ∧ ∀ i x, i < n → ps[i]? = some x → dn x = false) ∨ ∃ k : Nat, r = k ∧ k < n ∧ (∀ x, ps[k]? = some x → dn x = true) ∧ ∀ i x, i < k → ps[i]? = some x → dn x = false) := by
  have HD := hide hD
  have HP := hide h
  have HL := hide hl
  clear hD h hl
  go_enter Try.func56, Try.ntmps56
  go_wp2_with fail
  go_loopg [8] n (fun gg s8 wr => ∃ i : Nat, s8 = .int .i64 i ∧ i ≤ n ∧ n - i ≤ gg ∧ Aside (wr = w) ∧ Aside (∀ j x, j < i → ps[j]? = some x → dn x = false))
  case atStart => exact ⟨0, rfl, by omega, by omega, rfl, fun j x hj => by omega⟩
  case round =>
    obtain ⟨i, rfl, hi, hgg, hwr, hall⟩ := hrel
    by_cases hlt : i < n
    · have hltz : (i : Int) < (n : Int) := by omega
      obtain ⟨x, hx⟩ : ∃ x, ps[i]? = some x := ⟨_, List.getElem?_eq_getElem (by rw [HL.out]; exact hlt)⟩
      have hc := HP.out.at_ i x hx
      have hcall := hide (HD.out x (List.mem_of_getElem? hx))
      have HX := hide hx
      have hwr' : w = wr := hwr.out.symm
      subst hwr'
      clear hx hwr
      generalize hdx : dn x = bb at *
      have HDX := hide hdx
      clear hdx
      generalize pv x = vx at *
      cases bb with
      | false =>
        go_wp2_with (go_at_call 44; refine hcall.out.mono ?_; rintro e w' ⟨rfl, rfl⟩)
        go_roundg (n - (i + 1))
        case measure => omega
        case rel =>
          refine ⟨i + 1, by go_num, by omega, Nat.le_refl _, rfl, ?_⟩
          intro j y hj hy
          by_cases hji : j = i
          · subst hji
            rw [HX.out] at hy
            cases hy
            exact HDX.out
          · exact hall.out j y (by omega) hy
      | true =>
        go_wp2_with (go_at_call 44; refine hcall.out.mono ?_; rintro e w' ⟨rfl, rfl⟩)
        go_ret
        refine ⟨_, rfl, rfl, .inr ⟨i, rfl, hlt, fun y hy => ?_, hall.out⟩⟩
        rw [HX.out] at hy
        cases hy
        exact HDX.out
    · have hltz : ¬ (i : Int) < (n : Int) := by omega
      have e : i = n := by omega
      subst e
      go_wp2_with fail
      go_ret
      exact ⟨_, rfl, hwr.out, .inl ⟨rfl, hall.out⟩⟩

theorem Turned.setCells {S : List Nat} {a w : World} (h : Turned S a w) (b o : Nat) (vs : List Value) (hb : b ∈ S ∨ a.heap.size ≤ b) : Turned S a (w.setCells b o vs) := by
  induction vs generalizing o w with
  | nil => exact h
  | cons v vs ih => exact ih (h.setCell (p := ⟨b, o, none⟩) hb v) (o + 1)

set_option maxRecDepth 4000 in
theorem delete_any (hl : ps.length = n) (hn : n ≤ 65536) (hcap : n ≤ cap) (h : PR w g n ps) (hD : ∀ x, x ∈ ps → ∀ W, Turned [g] w W → Calls Try.prog 44 #[pv x] W fun e w' => e = .returned (.bool (dn x)) ∧ w' = W) :
    Calls Try.prog 46 #[.slice (some ⟨g, 0, none⟩) n cap, .func (.func 44) #[] #[]] w fun e w' =>
      e = .returned (.slice (some ⟨g, 0, none⟩) (keptTo dn ps n).length cap) ∧ PR w' g n (keptTo dn ps n) ∧ Turned [g] w w' := by
  have HI := hide (index_any w g cap n ps dn hl hn h (fun x hx => hD x hx w (Turned.refl _ _)))
  have HD := hide hD
  have HP := hide h
  have HL := hide hl
  have t22 : Try.prog.underlying 68 = some (.slice 41) := by kernel_rfl
  have v23 : ∀ w, (zeroValue 41).run Try.prog w = .ok (.pointer none) w := fun w => by kernel_rfl
  clear hD h hl
  go_enter Try.func46, Try.ntmps46
  go_wp2_with fail
  refine HI.out.mono ?_
  rintro e w1 ⟨r, rfl, rfl, hr⟩
  clear HI
  rcases hr with ⟨rfl, hall⟩ | ⟨k, rfl, hk, hdk, hall⟩
  · have HK := hide (keptTo_all dn ps n hall)
    clear hall
    go_wp2_with fail
    go_ret
    have e : keptTo dn ps n = ps := by rw [HK.out, List.take_of_length_le (by rw [HL.out]; exact Nat.le_refl _)]
    rw [e, HL.out]
    exact ⟨rfl, HP.out, Turned.refl _ _⟩
  · obtain ⟨x0, hx0⟩ : ∃ x, ps[k]? = some x := ⟨_, List.getElem?_eq_getElem (by rw [HL.out]; exact hk)⟩
    have HK0 := hide (keptTo_all dn ps k hall)
    have HK1 := hide (keptTo_succ dn ps k x0 hx0)
    have HX0 := hide (hdk x0 hx0)
    have hk1 : ¬ ((k : Int) = -1) := by omega
    have HK : Hid ((keptTo dn ps (k + 1)).length = k ∧ ∀ t, t < k → (keptTo dn ps (k + 1))[t]? = ps[t]?) := by
      have e : keptTo dn ps (k + 1) = ps.take k := by rw [HK1.out, HX0.out, HK0.out]; simp
      rw [e]
      refine ⟨?_, fun t ht => ?_⟩
      · rw [List.length_take, HL.out]; omega
      · rw [List.getElem?_take, if_pos ht]
    clear hall hdk hx0 HK0 HK1 HX0
    go_wp2_with fail
    go_loopg [5, 6, 7] n (fun gg s5 s6 _ wr => ∃ i j : Nat, s5 = .int .i64 i ∧ s6 = .int .i64 j ∧ i < j ∧ j ≤ n ∧ n - j ≤ gg ∧ Aside ((keptTo dn ps j).length = i) ∧ Aside (∀ t x, (keptTo dn ps j)[t]? = some x → wr.cell? ⟨g, t, none⟩ = some (pv x)) ∧ Aside (∀ t x, j ≤ t → ps[t]? = some x → wr.cell? ⟨g, t, none⟩ = some (pv x)) ∧ Aside (∀ t, t < n → (wr.cell? ⟨g, t, none⟩).isSome = true) ∧ Aside (∀ t, wr.frozen? ⟨g, t, none⟩ = false) ∧ Aside (Turned [g] w1 wr))
    case atStart =>
      refine ⟨k, k + 1, rfl, by go_num, by omega, by omega, by omega, HK.out.1, ?_, ?_, HP.out.there, HP.out.fz, Turned.refl _ _⟩
      · intro t x hx
        have ht : t < k := by have := (List.getElem?_eq_some_iff.1 hx).1; have := HK.out.1; omega
        rw [HK.out.2 t ht] at hx
        exact HP.out.at_ t x hx
      · intro t x _ hx
        exact HP.out.at_ t x hx
    case round =>
      obtain ⟨i, j, rfl, rfl, hij, hjn, hgg, hlen, hlow, hhigh, hthere, hfz, htu⟩ := hrel
      by_cases hlt : j < n
      · have hltz : (j : Int) < (n : Int) := by omega
        obtain ⟨x, hx⟩ : ∃ x, ps[j]? = some x := ⟨_, List.getElem?_eq_getElem (by rw [HL.out]; exact hlt)⟩
        have hc := hhigh.out j x (Nat.le_refl _) hx
        have hcall := hide (HD.out x (List.mem_of_getElem? hx) wr htu.out)
        have hci : ∃ old, wr.cell? ⟨g, i, none⟩ = some old := Option.isSome_iff_exists.1 (hthere.out i (by omega))
        obtain ⟨old, hci⟩ := hci
        have hfi := hfz.out i
        have HS := hide (keptTo_succ dn ps j x hx)
        have HC := hide hci
        clear hx
        generalize hdx : dn x = bb at *
        have HDX := hide hdx
        clear hdx
        obtain ⟨vx, hvx⟩ : ∃ a, pv x = .pointer a := by cases x <;> exact ⟨_, rfl⟩
        have HVX := hide hvx
        rw [hvx] at hc hcall
        clear hvx
        cases bb with
        | false =>
          go_wp2_with (go_at_call 44; refine hcall.out.mono ?_; rintro e w' ⟨rfl, rfl⟩)
          go_roundg (n - (j + 1))
          case measure => omega
          case rel =>
            have hs := HS.out
            simp only [if_false, Bool.false_eq_true] at hs
            refine ⟨i + 1, j + 1, by go_num, by go_num, by omega, by omega, Nat.le_refl _, ?_, ?_, ?_, ?_, ?_, ?_⟩
            · show Aside _
              refine (show _ from ?_)
              rw [hs, List.length_append, hlen.out]
              rfl
            · intro t y hy
              rw [hs] at hy
              by_cases hti : t = i
              · subst hti
                rw [World.cell?_setCell_same _ _ _ HC.out]
                rw [List.getElem?_append_right (by rw [hlen.out]; exact Nat.le_refl _), hlen.out, Nat.sub_self] at hy
                cases hy
                rw [← HVX.out]
              · have htlt : t < i := by
                  have h1 := (List.getElem?_eq_some_iff.1 hy).1
                  rw [List.length_append, hlen.out] at h1
                  simp at h1
                  omega
                rw [World.cell?_setCell_other _ _ _ _ (by intro e; cases e; omega)]
                rw [List.getElem?_append_left (by rw [hlen.out]; exact htlt)] at hy
                exact hlow.out t y hy
            · intro t y ht hy
              rw [World.cell?_setCell_other _ _ _ _ (by intro e; cases e; omega)]
              exact hhigh.out t y (by omega) hy
            · intro t ht
              obtain ⟨u, hu⟩ := Option.isSome_iff_exists.1 (hthere.out t ht)
              obtain ⟨u', hu'⟩ := cell?_setCell_some (p := ⟨g, i, none⟩) (x := .pointer vx) hu
              rw [hu']; rfl
            · intro t
              rw [World.frozen?_setCell]
              exact hfz.out t
            · exact htu.out.setCell (by simp) _
        | true =>
          go_wp2_with (go_at_call 44; refine hcall.out.mono ?_; rintro e w' ⟨rfl, rfl⟩)
          go_roundg (n - (j + 1))
          case measure => omega
          case rel =>
            have hs := HS.out
            simp only [if_true, List.append_nil] at hs
            exact ⟨i, j + 1, rfl, by go_num, by omega, by omega, Nat.le_refl _, by rw [hs]; exact hlen, by rw [hs]; exact hlow, fun t y ht hy => hhigh.out t y (by omega) hy, hthere, hfz, htu⟩
      · have hltz : ¬ (j : Int) < (n : Int) := by omega
        have e : j = n := by omega
        subst e
        have hcl : ∀ ty, (Builtin.clear_ #[68] ty #[.slice (some ⟨g, i, none⟩) (j - i) (cap - i)]).run Try.prog wr = .ok (.tuple #[]) (wr.setCells g i (List.replicate (j - i) (.pointer none))) :=
          fun ty => Lib.run_clear_slice wr _ _ ty _ t22 v23 rfl rfl g i _ _ (by omega) (fun t ht => hthere.out (i + t) (by omega)) (fun t ht => hfz.out (i + t))
        clear v23 t22
        go_wp2
        go_ret
        refine ⟨by rw [hlen.out]; rfl, ⟨?_, ?_, ?_, ?_⟩, htu.out.setCells g i _ (by simp)⟩
        · intro t y hy
          have htlt : t < i := by have := (List.getElem?_eq_some_iff.1 hy).1; rw [hlen.out] at this; exact this
          rw [World.cell?_setCells_out _ _ _ _ _ (fun _ _ => .inl htlt)]
          exact hlow.out t y hy
        · intro t ht
          exact World.isSome_setCells _ _ _ _ _ (hthere.out t ht)
        · intro t
          rw [World.frozen?_setCells]
          exact hfz.out t
        · exact Nat.lt_of_lt_of_le HP.out.lt (htu.out.setCells g i _ (by simp)).size

theorem undone_any (hl : ps.length = n) (hn : n ≤ 65536) (hcap : n ≤ cap) (h : PR w g n ps) (hD : ∀ x, x ∈ ps → ∀ W, Turned [g] w W → Calls Try.prog 44 #[pv x] W fun e w' => e = .returned (.bool (dn x)) ∧ w' = W) :
    Calls Try.prog 27 #[.slice (some ⟨g, 0, none⟩) n cap] w fun e w' =>
      e = .returned (.slice (some ⟨g, 0, none⟩) (keptTo dn ps n).length cap) ∧ PR w' g n (keptTo dn ps n) ∧ Turned [g] w w' := by
  have H := hide (delete_any w g cap n ps dn hl hn hcap h hD)
  clear hD h hl
  generalize keptTo dn ps n = r at *
  go_enter Try.func27, Try.ntmps27
  go_wp2_with fail
  refine H.out.mono ?_
  rintro e w1 ⟨rfl, h1⟩
  have H1 := hide h1
  clear h1 H
  go_wp2_with fail
  go_ret
  exact ⟨rfl, H1.out⟩
end
end Go.Proofs.Ytokabpgdklihlaa

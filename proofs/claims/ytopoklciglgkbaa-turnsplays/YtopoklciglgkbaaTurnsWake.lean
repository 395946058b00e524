/-
  Wake and Add of package turns.
-/
import Derived.Test.YtopoklciglgkbaaTurnsPick
namespace Go.Proofs.Ytopoklciglgkbaa
open Go.RowKit

/-- A slice of numbers that can be read, in none of the blocks F. -/
def Rd (w : World) (F : List Nat) (ao : Option Addr) (len : Nat) (l : List Int) : Prop :=
  l.length = len ∧ ∀ i x, l[i]? = some x → ∃ g off, ao = some ⟨g, off, none⟩ ∧ g ∉ F ∧ w.cell? ⟨g, off + i, none⟩ = some (.int .i64 x)

theorem Rd.turned {w w' : World} {F S : List Nat} {ao : Option Addr} {len : Nat} {l : List Int} (h : Rd w F ao len l) (t : Turned S w w') (hs : ∀ k, k ∈ S → k ∈ F) : Rd w' F ao len l :=
  ⟨h.1, fun i x hx => by
    obtain ⟨g, off, h1, h2, h3⟩ := h.2 i x hx
    exact ⟨g, off, h1, h2, by rw [t.cell (block_lt h3) (fun e => h2 (hs _ e))]; exact h3⟩⟩

/-- One task is woken. -/
def wake1 (ts : List Task) (k : Int) : List Task :=
  match ts[(k - 1).toNat]? with
  | some t => if 1 ≤ k ∧ t.st = 1 then ts.set (k - 1).toNat t.woken else ts
  | none => ts
/-- Did it wait? -/
def waits1 (l : List Int) (k : Int) : Nat := if 1 ≤ k ∧ l[(k - 1).toNat]? = some 1 then 1 else 0
def wakeAll (ts : List Task) (l : List Int) : List Task := l.foldl wake1 ts
def wakeNum (ts : List Task) : List Int → Nat
  | [] => 0
  | k :: l => waits1 (states ts) k + wakeNum (wake1 ts k) l

theorem wake1_b (ts : List Task) (k : Int) : (wake1 ts k).map Task.b = ts.map Task.b := by
  unfold wake1
  split
  · rename_i t ht
    split
    · rw [List.map_set]
      exact list_set_self (by rw [List.getElem?_map, ht]; rfl)
    · rfl
  · rfl
theorem wake1_length (ts : List Task) (k : Int) : (wake1 ts k).length = ts.length := by
  unfold wake1
  split
  · split <;> simp
  · rfl
theorem wakeAll_b (ts : List Task) (l : List Int) : (wakeAll ts l).map Task.b = ts.map Task.b := by
  unfold wakeAll
  induction l generalizing ts with
  | nil => rfl
  | cons k l ih => rw [List.foldl_cons, ih, wake1_b]
theorem wakeAll_length (ts : List Task) (l : List Int) : (wakeAll ts l).length = ts.length := by
  have h := congrArg List.length (wakeAll_b ts l)
  simpa using h
theorem wakeAll_snoc (ts : List Task) (l : List Int) (k : Int) : wakeAll ts (l ++ [k]) = wake1 (wakeAll ts l) k := by
  unfold wakeAll; rw [List.foldl_append]; rfl
theorem wakeNum_snoc (ts : List Task) (l : List Int) (k : Int) : wakeNum ts (l ++ [k]) = wakeNum ts l + waits1 (states (wakeAll ts l)) k := by
  unfold wakeAll
  induction l generalizing ts with
  | nil => simp [wakeNum]
  | cons j l ih => simp only [List.cons_append, wakeNum, ih, List.foldl_cons]; omega
theorem waits1_le (l : List Int) (k : Int) : waits1 l k ≤ 1 := by unfold waits1; split <;> omega
theorem wakeNum_le (ts : List Task) (l : List Int) : wakeNum ts l ≤ l.length := by
  induction l generalizing ts with
  | nil => simp [wakeNum]
  | cons k l ih =>
    have h1 := ih (wake1 ts k)
    have h2 := waits1_le (states ts) k
    simp only [wakeNum, List.length_cons]
    omega

theorem take_snoc {l : List Int} {k : Nat} {x : Int} (hx : l[k]? = some x) : l.take (k + 1) = l.take k ++ [x] := by
  have hk := (List.getElem?_eq_some_iff.1 hx).1
  rw [List.take_succ_eq_append_getElem hk]
  rw [List.getElem?_eq_getElem hk] at hx
  injection hx with hx
  rw [hx]

set_option maxRecDepth 100000 in
theorem wake_any (B : Nat) (w : World) (p : Nat) (F : List Nat) (ts : List Task) (ao : Option Addr) (len cap : Nat) (l : List Int) (hl : len ≤ 9223372036854775807) (hr : Rd w F ao len l) (h : Trn B w p F ts) :
    Calls Try.prog 12 #[.pointer (some ⟨p, 0, none⟩), .slice ao len cap] w fun e w' =>
      e = .returned (.int .i64 ((wakeNum ts l : Nat) : Int)) ∧ Trn B w' p F (wakeAll ts l) ∧ Turned (ts.map Task.b) w w' := by
  have HH := hide h
  have HR := hide hr
  have hlen : l.length = len := hr.1
  clear h hr
  go_enter Try.func12, Try.ntmps12
  go_wp2_with fail
  go_loopw [5, 7, 8, 11] (fun v _ _ i wr => ∃ k : Nat, k ≤ len ∧ i = .int .i64 k ∧ v = .int .i64 ((wakeNum ts (l.take k) : Nat) : Int) ∧ Hid (Trn B wr p F (wakeAll ts (l.take k))) ∧ Hid (Turned (ts.map Task.b) w wr)) (fun _ _ _ i _ => len - (intOf i).toNat)
  case atStart => exact ⟨0, Nat.zero_le _, rfl, rfl, HH, Turned.refl _ _⟩
  case round =>
    obtain ⟨k, hk, rfl, rfl, HHr, HTr⟩ := hrel
    by_cases hlt : k < len
    · obtain ⟨x, hx⟩ : ∃ x, l[k]? = some x := ⟨_, List.getElem?_eq_getElem (by omega)⟩
      obtain ⟨g, off, rfl, hgF, hg⟩ := HR.out.2 k x hx
      have hsub : ∀ k, k ∈ ts.map Task.b → k ∈ F := by
        intro k hk
        obtain ⟨t, h1, rfl⟩ := List.mem_map.1 hk
        exact (HH.out.task t h1).2
      have hgr : wr.cell? ⟨g, off + k, none⟩ = some (.int .i64 x) := by rw [HTr.out.cell (block_lt hg) (fun e => hgF (hsub _ e))]; exact hg
      have HA := hide (wakeAll_snoc ts (l.take k) x)
      have HN := hide (wakeNum_snoc ts (l.take k) x)
      have HX := hide (take_snoc hx)
      have HB := hide (wakeAll_b ts (l.take k))
      have hwl := wakeNum_le ts (l.take k)
      have hwk : (l.take k).length ≤ k := by simp; omega
      have e1 : wrap64 ((k : Int) + 1) = (k : Int) + 1 := by unfold wrap64; omega
      clear hx hg hgF hsub
      generalize wakeAll ts (l.take k) = us at *
      generalize wakeNum ts (l.take k) = c at *
      by_cases hin : 1 ≤ x ∧ x ≤ us.length
      · obtain ⟨i, hi⟩ : ∃ i : Nat, x = (i : Int) + 1 := ⟨(x - 1).toNat, by omega⟩
        subst hi
        have hil : i < us.length := by omega
        obtain ⟨t, ht⟩ : ∃ t, us[i]? = some t := ⟨_, List.getElem?_eq_getElem hil⟩
        have hm := List.mem_of_getElem? ht
        have HC := hide (task_in B wr p F us i t ht HHr.out)
        have hc1 := HHr.out.c1 hm
        have hf1 := HHr.out.f hm 1
        have ei : ((i : Int) + 1 - 1).toNat = i := by omega
        by_cases hs : t.st = 1
        · have HS := hide (HHr.out.set (w' := wr.setCell ⟨t.b, 1, none⟩ (.int .i64 0)) (t' := t.woken) ht rfl (by rw [heap_setCell_at _ _ _ _ _ _ (HHr.out.task t hm).1]; rfl) ((Turned.refl _ _).setCell (by simp) _))
          have HTs := hide (HTr.out.setCell (p := ⟨t.b, 1, none⟩) (.inl (by rw [← HB.out]; exact List.mem_map.2 ⟨t, hm, rfl⟩)) (.int .i64 0))
          have HW : Hid (wake1 us ((i : Int) + 1) = us.set i t.woken) := by show _ = _; unfold wake1; rw [ei, ht]; simp [hs]; omega
          have HV : Hid (waits1 (states us) ((i : Int) + 1) = 1) := by show _ = _; unfold waits1 states; rw [ei, List.getElem?_map, ht]; simp [hs]; omega
          have e2 : wrap64 ((c : Int) + 1) = (c : Int) + 1 := by unfold wrap64; omega
          clear ht hm ei
          go_wp2_with fail
          refine HC.out.mono ?_
          rintro e wx ⟨rfl, rfl⟩
          clear HC
          go_wp2_with fail
          go_roundw
          case rel =>
            refine ⟨k + 1, by omega, by go_num, ?_, ?_, HTs⟩
            · rw [HX.out, HN.out, HV.out]; rfl
            · show Trn _ _ _ _ _
              rw [HX.out, HA.out, HW.out]
              exact HS.out
          case measure => simp [intOf]; omega
        · have HW : Hid (wake1 us ((i : Int) + 1) = us) := by show _ = _; unfold wake1; rw [ei, ht]; simp [hs]
          have HV : Hid (waits1 (states us) ((i : Int) + 1) = 0) := by show _ = _; unfold waits1 states; rw [ei, List.getElem?_map, ht]; simp [hs]
          clear ht hm ei
          go_wp2_with fail
          refine HC.out.mono ?_
          rintro e wx ⟨rfl, rfl⟩
          clear HC
          go_wp2_with fail
          go_roundw
          case rel =>
            refine ⟨k + 1, by omega, by go_num, ?_, ?_, HTr⟩
            · rw [HX.out, HN.out, HV.out]; rfl
            · show Trn _ _ _ _ _
              rw [HX.out, HA.out, HW.out]
              exact HHr.out
          case measure => simp [intOf]; omega
      · have HC := hide (task_out B wr p F us x (by omega) HHr.out)
        have HW : Hid (wake1 us x = us) := by
          show _ = _
          unfold wake1
          split
          · rename_i t ht
            rw [if_neg]
            intro h1
            have h2 := (List.getElem?_eq_some_iff.1 ht).1
            omega
          · rfl
        have HV : Hid (waits1 (states us) x = 0) := by
          show _ = _
          unfold waits1 states
          rw [if_neg]
          intro h1
          have h2 := (List.getElem?_eq_some_iff.1 h1.2).1
          simp at h2
          omega
        clear hin
        go_wp2_with fail
        refine HC.out.mono ?_
        rintro e wx ⟨rfl, rfl⟩
        clear HC
        go_wp2_with fail
        go_roundw
        case rel =>
          refine ⟨k + 1, by omega, by go_num, ?_, ?_, HTr⟩
          · rw [HX.out, HN.out, HV.out]; rfl
          · show Trn _ _ _ _ _
            rw [HX.out, HA.out, HW.out]
            exact HHr.out
        case measure => simp [intOf]; omega
    · have he : k = len := by omega
      subst he
      have et : l.take k = l := by rw [← hlen]; exact List.take_length
      rw [et] at HHr ⊢
      go_wp2_with fail
      go_ret
      exact ⟨rfl, HHr.out, HTr.out⟩

theorem wake_nil (ao : Option Addr) (len cap : Nat) (l : List Int) (w : World) (hl : len ≤ 9223372036854775807) (hr : Rd w [] ao len l) :
    Calls Try.prog 12 #[.pointer none, .slice ao len cap] w fun e w' => e = .returned (.int .i64 0) ∧ w' = w := by
  have HR := hide hr
  have hlen : l.length = len := hr.1
  clear hr
  go_enter Try.func12, Try.ntmps12
  go_wp2_with fail
  go_loopw [5, 7, 8, 11] (fun v _ _ i wr => ∃ k : Nat, k ≤ len ∧ i = .int .i64 k ∧ v = .int .i64 0 ∧ wr = w) (fun _ _ _ i _ => len - (intOf i).toNat)
  case atStart => exact ⟨0, Nat.zero_le _, rfl, rfl, rfl⟩
  case round =>
    obtain ⟨k, hk, rfl, rfl, rfl⟩ := hrel
    by_cases hlt : k < len
    · obtain ⟨x, hx⟩ : ∃ x, l[k]? = some x := ⟨_, List.getElem?_eq_getElem (by omega)⟩
      obtain ⟨g, off, rfl, hgF, hg⟩ := HR.out.2 k x hx
      have HC := hide (task_nil x wr)
      have e1 : wrap64 ((k : Int) + 1) = (k : Int) + 1 := by unfold wrap64; omega
      clear hx hgF
      go_wp2_with fail
      refine HC.out.mono ?_
      rintro e wx ⟨rfl, rfl⟩
      clear HC
      go_wp2_with fail
      go_roundw
      case rel => exact ⟨k + 1, by omega, by go_num, rfl, by first | rfl | trivial⟩
      case measure => simp [intOf]; omega
    · go_wp2_with fail
      go_ret
      exact ⟨rfl, rfl⟩
end Go.Proofs.Ytopoklciglgkbaa

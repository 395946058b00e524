/-
  Reset and NewShare.
-/
import Derived.Test.YtdjeilombaclmaaGangShare
namespace Go.Proofs.Ytdjeilombaclmaa
open Go.RowKit
set_option linter.unusedVariables false

theorem over_one (l : List Int) (k : Nat) (x : Int) (hk : k < l.length) : over l k [x] = l.set k x := by
  unfold over
  rw [List.set_eq_take_append_cons_drop, if_pos hk]
  simp

/-- Put of one word of a new block. -/
theorem put_one (w : World) (p q : Nat) (l : List Int) (s : Int) (k b d : Nat) (x : Int) (hl : l.length ≤ 65536) (hk : k < l.length) (h : Mem w p q l s) (hc : w.cell? ⟨b, 0, none⟩ = some (.int .i64 x)) :
    Calls Try.prog 43 #[.pointer (some ⟨p, 0, none⟩), .int .i64 (k : Int), .slice (some ⟨b, 0, none⟩) 1 d] w fun e w' => e = .returned (.int .i64 0) ∧ Mem w' p q (l.set k x) s ∧ Turned [p, q] w w' := by
  have h1 := put_in p q l s k b 0 d [x] w hl (by simp; omega) (by simp) h (fun j y hy => by
    have hj : j = 0 := by
      have := (List.getElem?_eq_some_iff.1 hy).1
      simp at this
      exact this
    subst hj
    simp at hy
    subst hy
    exact hc)
  rw [over_one l k x hk] at h1
  exact h1

/-- What Reset leaves: so many parts. -/
def resP (pt : Int) (rs : List Int) : Int := rs.getLastD pt

set_option maxRecDepth 100000 in
set_option maxHeartbeats 1000000 in
theorem sreset_any (w : World) (a p q : Nat) (l : List Int) (s : Int) (k : Nat) (pt : Int) (h : Sh w a p q l s k pt) (ao : Option Addr) (len cap : Nat) (rs : List Int) (hr : IRd w ao len rs) (hlen : len ≤ 9223372036854775807) (hb : anyB rs = false) :
    Calls Try.prog 33 #[ptr a, .slice ao len cap] w fun e w' => e = .returned (.tuple #[]) ∧ Sh w' a p q (l.set k 0) s k (resP pt rs) ∧ Turned [a, p, q] w w' := by
  have HN := hide (snone_any w a p q l s k pt h)
  have HC := hide (fun n => containsF_any (w.drewN n) ao len cap rs (hr.turned0 ((Turned.refl _ _).drewN n)) hlen)
  rw [hb] at HC
  have H := hide h
  have HR := hide hr
  have hsz := hr.size
  have HL := hide (show (l.set k 0).length = l.length by simp)
  have HP := hide (fun w' b d (h' : Mem w' p q l s) hc => put_one w' p q l s k b d 0 h.most h.lt h' hc)
  clear h hr hb
  generalize l.set k 0 = l2 at *
  have HO := hide (show resP pt rs = rs.getLastD pt from rfl)
  generalize resP pt rs = pt2 at *
  unfold ptr
  go_enter Try.func33, Try.ntmps33
  go_wp2_with fail
  refine HN.out.mono ?_
  rintro e w1 ⟨rfl, n, hw⟩
  have HC1 := hide (HC.out n)
  have H1 := hide (H.out.drewN n)
  have T1 := hide ((Turned.refl [a, p, q] w).drewN n)
  have R1 := hide (HR.out.turned0 ((Turned.refl _ _).drewN n))
  rw [← hw] at HC1 H1 T1 R1
  clear hw HN H HC HR
  go_wp2_with fail
  refine HC1.out.mono ?_
  rintro e w2 ⟨rfl, rfl⟩
  clear HC1
  have hz0 : len = 0 ∨ 0 < len := by omega
  rcases hz0 with hz0 | hz0
  · have e2 : pt2 = pt := by
      rw [HO.out]
      have : rs = [] := List.eq_nil_of_length_eq_zero (by omega)
      rw [this]; rfl
    subst e2 hz0
    have HM := hide (H1.out.turned0 (((Turned.refl [] w2).alloc (.cells #[.int .i64 0] 2)).drew))
    have TM := hide ((T1.out.alloc (.cells #[.int .i64 0] 2)).drew)
    have CM := hide (show (w2.alloc (.cells #[.int .i64 0] 2)).drew.cell? ⟨w2.heap.size, 0, none⟩ = some (.int .i64 0) from by show (w2.alloc (.cells #[.int .i64 0] 2)).cell? _ = _; rw [cell_of_heap (heap_alloc_new w2 _)]; rfl)
    have c0 := H1.out.c0
    have c1 := H1.out.c1
    go_wp2_with fail
    go_region_held3 (fun w' => w'.cell? ⟨a, 0, none⟩ = some (.pointer (some ⟨p, 0, none⟩)) ∧ w'.cell? ⟨a, 1, none⟩ = some (.int .i64 (k : Int))) (go_keep)
      (first
        | (go_at_call 43; refine (HP.out _ _ _ HM.out.mem CM.out).mono ?_; rintro e w3 ⟨rfl, m3, t3⟩; have H3 := hide (HM.out.memd t3 m3 HL.out); have T3 := hide (TM.out.trans (t3.mono (T := [a, p, q]) (fun j hj => List.mem_cons_of_mem _ hj))); have i0 := H3.out.c0; have i1 := H3.out.c1; clear m3 t3))
    clear H1 HM TM CM HP c0 c1 i0 i1
    go_wp2_with fail
    first | refine bodyPost_end (results_none rfl _ _ _) rfl ?_ | refine bodyPost_ret (results_none rfl _ _ _) rfl ?_
    exact ⟨rfl, H3.out, T3.out⟩
  · obtain ⟨z, hz⟩ : ∃ z, rs[len - 1]? = some z := ⟨_, List.getElem?_eq_getElem (by omega)⟩
    have e2 : pt2 = z := by
      rw [HO.out, List.getLastD_eq_getLast?, List.getLast?_eq_getElem?, hsz, hz]; rfl
    subst e2
    obtain ⟨g, off, rfl, cz⟩ := R1.out.cell (len - 1) pt2 hz
    have cz2 : w2.cell? ⟨g, off + ((len : Int) - 1).toNat, none⟩ = some (.int .i64 pt2) := by rw [show ((len : Int) - 1).toNat = len - 1 by omega]; exact cz
    have f2 := H1.out.f 2
    have k2 := H1.out.c2
    clear hz
    have HX := hide (H1.out.parts pt2)
    have TX := hide (T1.out.setCell (p := ⟨a, 2, none⟩) (.inl (by simp)) (.int .i64 pt2))
    go_wp2_with fail
    generalize w2.setCell ⟨a, 2, none⟩ (.int .i64 pt2) = w2 at *
    clear H1 T1 cz cz2 f2 k2 R1
    have H1 := HX
    have T1 := TX
    clear HX TX
    have HM := hide (H1.out.turned0 (((Turned.refl [] w2).alloc (.cells #[.int .i64 0] 2)).drew))
    have TM := hide ((T1.out.alloc (.cells #[.int .i64 0] 2)).drew)
    have CM := hide (show (w2.alloc (.cells #[.int .i64 0] 2)).drew.cell? ⟨w2.heap.size, 0, none⟩ = some (.int .i64 0) from by show (w2.alloc (.cells #[.int .i64 0] 2)).cell? _ = _; rw [cell_of_heap (heap_alloc_new w2 _)]; rfl)
    have c0 := H1.out.c0
    have c1 := H1.out.c1
    go_region_held3 (fun w' => w'.cell? ⟨a, 0, none⟩ = some (.pointer (some ⟨p, 0, none⟩)) ∧ w'.cell? ⟨a, 1, none⟩ = some (.int .i64 (k : Int))) (go_keep)
      (first
        | (go_at_call 43; refine (HP.out _ _ _ HM.out.mem CM.out).mono ?_; rintro e w3 ⟨rfl, m3, t3⟩; have H3 := hide (HM.out.memd t3 m3 HL.out); have T3 := hide (TM.out.trans (t3.mono (T := [a, p, q]) (fun j hj => List.mem_cons_of_mem _ hj))); have i0 := H3.out.c0; have i1 := H3.out.c1; clear m3 t3))
    clear H1 HM TM CM HP c0 c1 i0 i1
    go_wp2_with fail
    first | refine bodyPost_end (results_none rfl _ _ _) rfl ?_ | refine bodyPost_ret (results_none rfl _ _ _) rfl ?_
    exact ⟨rfl, H3.out, T3.out⟩

/-- One is below 0: nothing changes. -/
theorem sreset_low (w : World) (a p q : Nat) (l : List Int) (s : Int) (k : Nat) (pt : Int) (h : Sh w a p q l s k pt) (ao : Option Addr) (len cap : Nat) (rs : List Int) (hr : IRd w ao len rs) (hlen : len ≤ 9223372036854775807) (hb : anyB rs = true) :
    Calls Try.prog 33 #[ptr a, .slice ao len cap] w fun e w' => e = .returned (.tuple #[]) ∧ Sh w' a p q l s k pt ∧ Turned [] w w' := by
  have HN := hide (snone_any w a p q l s k pt h)
  have HC := hide (fun n => containsF_any (w.drewN n) ao len cap rs (hr.turned0 ((Turned.refl _ _).drewN n)) hlen)
  rw [hb] at HC
  have H := hide h
  clear h hr hb
  unfold ptr
  go_enter Try.func33, Try.ntmps33
  go_wp2_with fail
  refine HN.out.mono ?_
  rintro e w1 ⟨rfl, n, hw⟩
  have HC1 := hide (HC.out n)
  have H1 := hide (H.out.drewN n)
  have T1 := hide ((Turned.refl [] w).drewN n)
  rw [← hw] at HC1 H1 T1
  clear hw HN H HC
  go_wp2_with fail
  refine HC1.out.mono ?_
  rintro e w2 ⟨rfl, rfl⟩
  clear HC1
  go_wp2_with fail
  first | refine bodyPost_end (results_none rfl _ _ _) rfl ?_ | refine bodyPost_ret (results_none rfl _ _ _) rfl ?_
  exact ⟨rfl, H1.out, T1.out⟩

theorem snew_low (w : World) (p q : Nat) (l : List Int) (s : Int) (k : Nat) (pt : Int) (h : Mem w p q l s) (hk : k < l.length) (hl : l.length ≤ 65536) (hp : pt < 0) :
    Calls Try.prog 21 #[ptr p, .int .i64 (k : Int), .int .i64 pt] w fun e w' => e = .returned (.tuple #[.pointer none, .int .i64 1]) ∧ w' = w := by
  have HL := hide (len_mem p q l s w h)
  have hd : ¬ (l.length : Int) ≤ k := by omega
  generalize l.length = n at *
  clear h
  unfold ptr
  go_enter Try.func21, Try.ntmps21
  go_wp2_with fail
  refine HL.out.mono ?_
  rintro e w' ⟨rfl, rfl⟩
  go_wp2_with fail
  go_ret2
  exact ⟨rfl, rfl⟩
theorem snew_nil (w : World) (k : Nat) (hk : k ≤ 65536) (pt : Int) :
    Calls Try.prog 21 #[.pointer none, .int .i64 (k : Int), .int .i64 pt] w fun e w' => e = .returned (.tuple #[.pointer none, .int .i64 1]) ∧ w' = w := by
  have HL := hide (len_nil w)
  go_enter Try.func21, Try.ntmps21
  go_wp2_with fail
  refine HL.out.mono ?_
  rintro e w' ⟨rfl, rfl⟩
  go_wp2_with fail
  go_ret2
  exact ⟨rfl, rfl⟩

set_option maxRecDepth 100000 in
theorem snew_ok (w : World) (p q : Nat) (l : List Int) (s : Int) (k : Nat) (pt : Int) (h : Mem w p q l s) (hk : k < l.length) (hl : l.length ≤ 65536) (hp : 0 ≤ pt) :
    Calls Try.prog 21 #[ptr p, .int .i64 (k : Int), .int .i64 pt] w fun e w' => e = .returned (.tuple #[ptr w.heap.size, .int .i64 0]) ∧ Sh w' w.heap.size p q (l.set k 0) s k pt ∧ Turned [p, q] w w' := by
  have HL := hide (len_mem p q l s w h)
  have hd : ¬ (l.length : Int) ≤ k := by omega
  have HS := hide (show Sh (w.alloc (.cells #[ptr p, .int .i64 (k : Int), .int .i64 pt] 75)) w.heap.size p q l s k pt from
    ⟨h.alloc _, by have := h.ltp; omega, by have := h.ltq; omega, hk, hl, heap_alloc_new w _⟩)
  have HR := hide (sreset_any _ w.heap.size p q l s k pt HS.out none 0 0 [] (IRd.nil _ _) (by omega) rfl)
  have HT := hide ((Turned.refl [p, q] w).alloc (.cells #[ptr p, .int .i64 (k : Int), .int .i64 pt] 75))
  generalize hn : l.length = n at *
  clear h hn HS
  unfold ptr at *
  go_enter Try.func21, Try.ntmps21
  go_wp2_with fail
  refine HL.out.mono ?_
  rintro e w' ⟨rfl, rfl⟩
  go_wp2_with fail
  refine HR.out.mono ?_
  rintro e w2 ⟨rfl, h2, t2⟩
  have H2 := hide h2
  have T2 := hide (HT.out.trans_new t2 (fun i hi => by
    simp only [List.mem_cons, List.not_mem_nil, or_false] at hi ⊢
    rcases hi with rfl | rfl | rfl
    · exact .inr (Nat.le_refl _)
    · exact .inl (.inl rfl)
    · exact .inl (.inr rfl)))
  clear h2 t2
  go_wp2_with fail
  go_ret2
  exact ⟨rfl, H2.out, T2.out⟩
end Go.Proofs.Ytdjeilombaclmaa

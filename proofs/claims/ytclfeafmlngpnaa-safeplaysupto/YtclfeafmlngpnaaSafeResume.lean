/-
  Resume; what a nil object tells.
-/
import Derived.Test.YtclfeafmlngpnaaSafeIn
namespace Go.Proofs.Ytclfeafmlngpnaa
open Go.RowKit Go.Maps
set_option linter.unusedVariables false

/-- All these run. -/
def runs (L : Th) (l : List Int) : Th := l.foldl (fun M x => upd x 1 M) L
/-- All that were parked run. -/
def resL (L : Th) : Th := L.map fun p => if p.2 = 2 then (p.1, 1) else p
def parked (L : Th) : List Int := inL [2] L

theorem runs_snoc (L : Th) (l : List Int) (x : Int) : runs L (l ++ [x]) = upd x 1 (runs L l) := by simp [runs, List.foldl_append]
theorem runs_ok {L : Th} (hL : Ok L) (l : List Int) : Ok (runs L l) := by
  unfold runs
  induction l generalizing L with
  | nil => exact hL
  | cons x l ih => exact ih (hL.upd x (by omega))
theorem runs_length (L : Th) (l : List Int) : (runs L l).length = L.length := by
  unfold runs
  induction l generalizing L with
  | nil => rfl
  | cons x l ih => rw [List.foldl_cons, ih, upd_length]
theorem runs_st {L : Th} {l : List Int} (h : ∀ x, x ∈ l → st L x ≠ 0) (y : Int) : st (runs L l) y = if y ∈ l then 1 else st L y := by
  unfold runs
  induction l generalizing L with
  | nil => simp
  | cons x l ih =>
    have hx := h x (by simp)
    rw [List.foldl_cons, ih (fun z hz => by
      rw [st_upd hx]
      split
      · omega
      · exact h z (List.mem_cons_of_mem _ hz)), st_upd hx]
    by_cases h1 : y = x
    · simp [h1]
    · by_cases h2 : y ∈ l <;> simp [h1, h2]
theorem mem_parked {L : Th} (hL : Ok L) {x : Int} : x ∈ parked L ↔ st L x = 2 := by
  unfold parked inL
  rw [mem_those hL]
  simp
  omega
theorem resL_st {L : Th} (hL : Ok L) (y : Int) : st (resL L) y = if st L y = 2 then 1 else st L y := by
  unfold resL
  induction L with
  | nil => simp [st]
  | cons p L ih =>
    rw [List.map_cons]
    simp only [st]
    by_cases h2 : p.2 = 2
    · rw [if_pos h2]
      by_cases h1 : p.1 = y
      · simp [h1, h2]
      · simp only [h1, if_false]
        exact ih hL.tail
    · rw [if_neg h2]
      by_cases h1 : p.1 = y
      · simp [h1, h2]
      · simp only [h1, if_false]
        exact ih hL.tail
theorem resL_fst (L : Th) : (resL L).map Prod.fst = L.map Prod.fst := by
  unfold resL
  rw [List.map_map]
  refine List.map_congr_left fun p _ => ?_
  show (if p.2 = 2 then (p.1, 1) else p).1 = p.1
  split <;> rfl
theorem resL_ok {L : Th} (hL : Ok L) : Ok (resL L) := by
  refine ⟨srt_fst.2 (by rw [resL_fst]; exact srt_fst.1 hL.srt), fun p hp => ?_⟩
  obtain ⟨q, hq, rfl⟩ := List.mem_map.1 hp
  have h1 := hL.ok q hq
  split
  · exact ⟨by simp, by simp, h1.2.2⟩
  · exact h1
theorem runs_parked {L : Th} (hL : Ok L) : runs L (parked L) = resL L := by
  refine Ok.ext (runs_ok hL _) (resL_ok hL) fun y => ?_
  rw [runs_st (fun x hx => by rw [(mem_parked hL).1 hx]; omega), resL_st hL]
  by_cases h : st L y = 2
  · rw [if_pos h, if_pos ((mem_parked hL).2 h)]
  · rw [if_neg h, if_neg (fun hm => h ((mem_parked hL).1 hm))]

/-- A block just made that holds one number. -/
theorem one_new (w : World) (x : Int) (hx : In64 x) : IRd (w.alloc (.cells #[.int .i64 x] 3)) (some ⟨w.heap.size, 0, none⟩) 1 [x] := by
  refine ⟨rfl, fun y hy => by simp at hy; subst hy; exact hx, fun i y hy => ⟨w.heap.size, 0, rfl, ?_⟩⟩
  have hi : i = 0 := by
    rcases Nat.eq_zero_or_pos i with h | h
    · exact h
    · rw [List.getElem?_eq_none (by simp; omega)] at hy
      cases hy
  subst hi
  simp at hy
  subst hy
  rw [cell_of_heap (heap_alloc_new _ _)]
  rfl

theorem row_not_own {w : World} {a : Nat} {mo : Option Nat} {L : Th} {ar : Bool} (h : Sf w a mo L ar) {B : Nat} {v : Value} {l : List Int} (hr : Row w B v l) : ∀ k, v.ownBlock = some k → k ∉ blks a mo := by
  intro k hk hm
  obtain ⟨_, _, c, hc⟩ := ownsRow_lt hr k hk
  rcases mem_own.1 hm with rfl | hb
  · rw [h.obj] at hc
    simp at hc
  · obtain ⟨es, clock, h1⟩ := (h.map k hb).isMap
    rw [h1] at hc
    cases hc
theorem Row.ird {w : World} {B : Nat} {v : Value} {l : List Int} (h : Row w B v l) (h64 : ∀ x, x ∈ l → In64 x) : ∃ ao cap, v = .slice ao l.length cap ∧ IRd w ao l.length l := by
  obtain ⟨_, ao, cap, hv, hc⟩ := ownsRow_any h
  refine ⟨ao, cap, hv, rfl, h64, fun i x hx => ?_⟩
  obtain ⟨g, h1, _, _, h2, _⟩ := hc i (.int .i64 x) (by simp [hx])
  exact ⟨g, 0, h1, by rw [Nat.zero_add]; exact h2⟩

set_option maxRecDepth 100000 in
theorem resume_yes (w : World) (a : Nat) (mo : Option Nat) (L : Th) (h : Sf w a mo L true) (hs : still L = true) :
    Calls Try.prog 20 #[ptr a] w fun e w' => ∃ v, e = .returned v ∧ Row w' w.heap.size v (parked L) ∧ Sf w' a mo (resL L) false ∧ Turned (blks a mo) w w' := by
  have HRe := hide (by have := reached_any w a mo L true h; rw [show reach L true = true by simp [reach, hs]] at this; exact this)
  have HS := hide h
  have hle := those_length L (fun s => ([2] : List Int).isEmpty || decide (s ∈ ([2] : List Int)))
  have hfew := h.few
  have hpl : (parked L).length < 17592186044416 := by unfold parked inL; omega
  have HP64 := hide (show ∀ x, x ∈ parked L → In64 x from fun x hx => those_in64 (q := fun s => ([2] : List Int).isEmpty || decide (s ∈ ([2] : List Int))) h.ok hx)
  clear h hs hle hfew
  unfold ptr at HRe ⊢
  go_enter Try.func20, Try.ntmps20
  go_wp2_with fail
  refine HRe.out.mono ?_
  rintro e w1 ⟨rfl, t1⟩
  have h1 := HS.out.turned t1 (by simp) (by simp)
  have hf1 := h1.fr 1
  have hc1 := h1.c1
  have h2 := h1.setArmed false
  have ht2 := (t1.mono (T := blks a mo) (by simp)).setCell (p := ⟨a, 1, none⟩) (.inl (mem_own.2 (.inl rfl))) (.bool false)
  have h3 := h2.turned ((Turned.refl [] _).alloc (.cells #[.int .i64 2] 3)) (by simp) (by simp)
  have hxs : (w1.setCell ⟨a, 1, none⟩ (.bool false)).heap.size = w1.heap.size := by simp [World.setCell]
  have hi := one_new (w1.setCell ⟨a, 1, none⟩ (.bool false)) 2 (by unfold In64; omega)
  rw [hxs] at hi
  have HC := hide (in_any _ a mo L false (some ⟨w1.heap.size, 0, none⟩) 1 1 [2] h3 hi (by omega))
  have HS3 := hide h3
  have HT3 := hide (ht2.alloc (.cells #[.int .i64 2] 3))
  have HSz := hide (show w.heap.size ≤ ((w1.setCell ⟨a, 1, none⟩ (.bool false)).alloc (.cells #[.int .i64 2] 3)).heap.size by have := t1.size; simp [hxs]; omega)
  clear h1 h2 ht2 h3 hi t1 HRe hxs
  unfold ptr at HC
  go_wp2_with fail
  refine HC.out.mono ?_
  rintro e w2 ⟨v, rfl, hr2, t2⟩
  have h4 := HS3.out.turned t2 (by simp) (by simp)
  have HS4 := hide h4
  have HT4 := hide (HT3.out.trans (t2.mono (by simp)))
  have HR4 := hide (hr2.mono HSz.out)
  obtain ⟨ao, cap, rfl, hird⟩ := hr2.ird HP64.out
  have HI := hide hird
  have HN := hide (row_not_own h4 hr2)
  clear hr2 h4 hird HS3 HT3 HSz HC hf1 hc1
  obtain ⟨m, hm⟩ : ∃ m, m = (parked L).length := ⟨_, rfl⟩
  have HPl : Hid ((parked L).length = m) := hm.symm
  rw [show (inL [2] L).length = m from hm.symm] at HR4 HN ⊢
  have HI' : Hid (IRd w2 ao m (parked L)) := by rw [hm]; exact HI
  have hml : m < 17592186044416 := by omega
  clear hm HI hpl
  go_wp2_with fail
  go_loopw [17] (fun s17 wr => ∃ (k : Nat), k ≤ m ∧ s17 = .int .i64 k ∧ Hid (Sf wr a mo (runs L ((parked L).take k)) false) ∧ Hid (Turned (blks a mo) w wr) ∧ Hid (Row wr w.heap.size (.slice ao m cap) (parked L)) ∧ Hid (IRd wr ao m (parked L))) (fun s17 _ => m - (intOf s17).toNat)
  case atStart => exact ⟨0, Nat.zero_le _, rfl, HS4, HT4, HR4, HI'⟩
  case round =>
    obtain ⟨k, hk, rfl, HSk, HTk, HRk, HIk⟩ := hrel
    by_cases hlt : k < m
    · obtain ⟨x, hx⟩ : ∃ x, (parked L)[k]? = some x := ⟨_, List.getElem?_eq_getElem (by rw [HPl.out]; exact hlt)⟩
      obtain ⟨g, off, rfl, hc⟩ := HIk.out.cell k x hx
      have hmem := List.mem_of_getElem? hx
      have hne : st (runs L ((parked L).take k)) x ≠ 0 := by
        rw [runs_st (fun y hy => by rw [(mem_parked HS.out.ok).1 (List.mem_of_mem_take hy)]; omega)]
        split
        · omega
        · rw [(mem_parked HS.out.ok).1 hmem]; omega
      obtain ⟨b, rfl⟩ := sf_some HSk.out hne
      have HE : Hid (runs L ((parked L).take (k + 1)) = upd x 1 (runs L ((parked L).take k))) := by show _ = _; rw [take_snoc hx, runs_snoc]
      have HM := hide (HSk.out.map b rfl)
      have HU := hide (st_upd hne 1)
      have HO := hide (HSk.out.ok.upd x (s := 1) (by omega))
      have HF := hide (show (runs L ((parked L).take k)).length < maxLen by have := HSk.out.few; unfold maxLen; omega)
      have hx64 := HP64.out x hmem
      have hc0 := HSk.out.c0
      clear hx hmem hne
      go_wp2_with (at_mapUpdate; refine wpList_tm_store _ rfl _ _ _ rfl b _ _ rfl HM.out HF.out x 1 rfl hx64 rfl (by omega) HU.out HO.out ?_; intro w3 hm3 ht3; have HM3 := hide hm3; have HT3 := hide ht3; clear hm3 ht3)
      have HTo := hide (HT3.out.mono (T := blks a (some b)) (fun k hk => by simp at hk; exact mem_own.2 (.inr (by rw [hk]))))
      go_roundw
      case rel =>
        refine ⟨k + 1, by omega, by go_num, ?_, HTk.out.trans HTo.out, HRk.out.keep HTo.out (row_not_own HSk.out HRk.out), HIk.out.turned HTo.out (fun g off i x _ hc => sf_not_int HSk.out hc)⟩
        rw [HE.out]
        exact HSk.out.store HM3.out HT3.out HO.out (by rw [upd_length]; exact HSk.out.few)
      case measure => simp [intOf]; omega
    · have hkl : k = m := by omega
      subst hkl
      rw [List.take_of_length_le (Nat.le_of_eq HPl.out)] at HSk
      have HSr : Hid (Sf wr a mo (resL L) false) := by rw [← runs_parked HS.out.ok]; exact HSk
      go_wp2_with fail
      go_ret
      exact ⟨_, rfl, HRk.out, HSr.out, HTk.out⟩

theorem resume_no (w : World) (a : Nat) (mo : Option Nat) (L : Th) (ar : Bool) (h : Sf w a mo L ar) (hs : reach L ar = false) :
    Calls Try.prog 20 #[ptr a] w fun e w' => e = .returned (.slice none 0 0) ∧ Turned [] w w' := by
  have HRe := hide (by have := reached_any w a mo L ar h; rw [hs] at this; exact this)
  clear h hs
  unfold ptr at HRe ⊢
  go_enter Try.func20, Try.ntmps20
  go_wp2_with fail
  refine HRe.out.mono ?_
  rintro e w1 ⟨rfl, t1⟩
  have HT := hide t1
  clear t1
  go_wp2_with fail
  go_ret
  exact ⟨rfl, HT.out⟩
/-- What Resume tells, and leaves. -/
def resumeT (L : Th) (ar : Bool) : List Int := if reach L ar then parked L else []
def resumeL (L : Th) (ar : Bool) : Th := if reach L ar then resL L else L
def resumeA (L : Th) (ar : Bool) : Bool := if reach L ar then false else ar
theorem resume_any (w : World) (a : Nat) (mo : Option Nat) (L : Th) (ar : Bool) (h : Sf w a mo L ar) :
    Calls Try.prog 20 #[ptr a] w fun e w' => ∃ v, e = .returned v ∧ Row w' w.heap.size v (resumeT L ar) ∧ Sf w' a mo (resumeL L ar) (resumeA L ar) ∧ Turned (blks a mo) w w' := by
  cases hr : reach L ar
  · refine (resume_no w a mo L ar h hr).mono ?_
    rintro e w' ⟨rfl, ht⟩
    simp only [resumeT, resumeL, resumeA, hr]
    exact ⟨_, rfl, row_nil _ _, h.turned ht (by simp) (by simp), ht.mono (by simp)⟩
  · obtain ⟨rfl, hs⟩ : ar = true ∧ still L = true := by simpa [reach] using hr
    simp only [resumeT, resumeL, resumeA, hr]
    exact resume_yes w a mo L h hs
theorem resume_nil (w : World) : Calls Try.prog 20 #[.pointer none] w fun e w' => e = .returned (.slice none 0 0) ∧ w' = w := by
  have HRe := hide (reached_nil w)
  go_enter Try.func20, Try.ntmps20
  go_wp2_with fail
  refine HRe.out.mono ?_
  rintro e w1 ⟨rfl, hw⟩
  rw [hw]
  clear hw w1
  go_wp2_with fail
  go_ret
  exact ⟨rfl, rfl⟩
theorem poll_nil (w : World) (x : Int) : Calls Try.prog 22 #[.pointer none, .int .i64 x] w fun e w' => e = .returned (.bool false) ∧ w' = w := by
  have HA := hide (armed_nil w)
  go_enter Try.func22, Try.ntmps22
  go_wp2_with fail
  refine HA.out.mono ?_
  rintro e w1 ⟨rfl, hw⟩
  rw [hw]
  clear hw w1
  go_wp2_with fail
  go_ret
  exact ⟨rfl, rfl⟩
theorem hold_nil (w : World) (x : Int) : Calls Try.prog 14 #[.pointer none, .int .i64 x] w fun e w' => e = .returned (.int .i64 17) ∧ w' = w := by
  have HC := hide (must_at w (.pointer none) x 1 0 (state_nil w x))
  rw [show mustE 0 1 = 17 by decide] at HC
  go_enter Try.func14, Try.ntmps14
  go_wp2_with fail
  refine HC.out.mono ?_
  rintro e w1 ⟨rfl, hw⟩
  rw [hw]
  clear hw w1
  go_wp2_with fail
  go_ret
  exact ⟨rfl, rfl⟩
theorem free_nil (w : World) (x : Int) : Calls Try.prog 16 #[.pointer none, .int .i64 x] w fun e w' => e = .returned (.tuple #[.bool false, .int .i64 17]) ∧ w' = w := by
  have HC := hide (must_at w (.pointer none) x 3 0 (state_nil w x))
  rw [show mustE 0 3 = 17 by decide] at HC
  go_enter Try.func16, Try.ntmps16
  go_wp2_with fail
  refine HC.out.mono ?_
  rintro e w1 ⟨rfl, hw⟩
  rw [hw]
  clear hw w1
  go_wp2_with fail
  go_ret2
  exact ⟨rfl, rfl⟩
theorem end_nil (w : World) (ao : Option Addr) (len cap : Nat) (l : List Int) (hl : IRd w ao len l) (hf : len < 17592186044416) :
    Calls Try.prog 13 #[.pointer none, .slice ao len cap] w fun e w' => e = .returned (.int .i64 0) ∧ Turned [] w w' := by
  have ht0 := (Turned.refl [] w).alloc (.cells #[.pointer none] 24)
  have hv : (w.alloc (.cells #[.pointer none] 24)).cell? ⟨w.heap.size, 0, none⟩ = some (.pointer none) := by rw [cell_of_heap (heap_alloc_new _ _)]; rfl
  have hz : ∀ (l : List Int) (p : Th × Nat), l.foldl (cntF (fun _ _ => false) fun M _ => M) p = p := by
    intro l
    induction l with
    | nil => intro p; rfl
    | cons x l ih => intro p; rw [List.foldl_cons, ih]; rfl
  have HC := hide (count_end w.heap.size ao len cap l (fun _ _ => false) (fun M _ => M) (fun _ w' _ => w' = w.alloc (.cells #[.pointer none] 24)) [] _ (by omega) rfl (fun k w' M _ hw => by rw [hw]; exact hl.turned ht0 (by simp)) (fun k w' M x _ _ hw => by subst hw; exact end1_nil _ _ x hv))
  rw [show (cntR (fun _ _ => false) (fun M _ => M) [] l).2 = 0 by unfold cntR; rw [hz]] at HC
  have HT := hide ht0
  clear hl ht0 hz hv
  unfold ptr at HC
  go_enter Try.func13, Try.ntmps13
  go_wp2_with fail
  refine HC.out.mono ?_
  rintro e w1 ⟨rfl, hw⟩
  rw [hw]
  clear hw w1
  go_wp2_with fail
  go_ret
  exact ⟨rfl, HT.out⟩
end Go.Proofs.Ytclfeafmlngpnaa

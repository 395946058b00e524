/-
  Arrive.
-/
import Derived.Test.YtdjeilombaclmaaGangWalks
import Derived.BigRegion
namespace Go.Proofs.Ytdjeilombaclmaa
open Go.RowKit
set_option linter.unusedVariables false

theorem garrive_nil (w : World) (x : Int) :
    Calls Try.prog 36 #[.pointer none, .int .i64 x] w fun e w' => e = .returned (.tuple #[.bool false, .int .i64 1]) ∧ w' = w := by
  go_enter Try.func36, Try.ntmps36
  go_wp2_with fail
  go_ret2
  exact ⟨rfl, rfl⟩

set_option maxRecDepth 100000 in
theorem garrive_bad (w : World) (p q : Nat) (ws : List Int) (came : Nat) (ph x : Int) (h : Gg w p q ws came ph) (hx : idxI ws x < came) :
    Calls Try.prog 36 #[ptr p, .int .i64 x] w fun e w' => e = .returned (.tuple #[.bool false, .int .i64 (if idxI ws x < 0 then 17 else 16)]) ∧ ∃ n, w' = w.drewN n := by
  have c0 := h.c0
  have c1 := h.c1
  have hm := h.most
  have hl := h.lt
  obtain ⟨ao, ha⟩ := arrV_len q came
  rw [ha] at c1
  have HC := hide (fun m => index_any (w.drewN m) (some ⟨q, 0, none⟩) ws.length ws.length ws x (h.drewN m).rd (by omega))
  have hr := idx_range ws x
  generalize idxI ws x = y at *
  generalize ws.length = n at *
  clear h ha
  unfold ptr
  go_enter Try.func36, Try.ntmps36
  go_wp2_with fail
  go_quiet ((go_at_call 44; exact Calls.quiet_of_same (HC.out _)))
  by_cases hy : y < 0
  · go_wp2_with fail
    go_ret2
    exact ⟨rfl, _, rfl⟩
  · go_wp2_with fail
    go_ret2
    exact ⟨rfl, _, rfl⟩

theorem Gg.arr2 {w : World} {p q : Nat} {ws : List Int} {came : Nat} {ph : Int} (h : Gg w p q ws came ph) (v : Value) (m : Nat) : Gg (((w.setCell ⟨p, 1, none⟩ v).drewN m).setCell ⟨p, 1, none⟩ (.slice none 0 0)) p q ws 0 ph :=
  ⟨h.ne, h.most, by have := h.lt; omega, by
    rw [heap_setCell_at ((w.setCell ⟨p, 1, none⟩ v).drewN m) _ _ _ _ _ (heap_setCell_at _ _ _ _ _ _ h.head v)]; rfl, by
    rw [Below.heap_setCell _ _ _ _ (Ne.symm h.ne)]
    show (w.setCell ⟨p, 1, none⟩ v).heap[q]? = _
    rw [Below.heap_setCell _ _ _ _ (Ne.symm h.ne)]; exact h.row⟩

/-- Two change places: x stands at place k then, and what stood there at its place. -/
def swp (ws : List Int) (a k : Nat) (x : Int) : List Int := (ws.set a (ws.getD k 0)).set k x

set_option maxRecDepth 100000 in
set_option maxHeartbeats 1000000 in
theorem garrive_ok (w : World) (p q : Nat) (ws : List Int) (came : Nat) (ph x : Int) (h : Gg w p q ws came ph) (a : Nat) (hx : idxI ws x = a) (ha : came ≤ a) (hph : 0 ≤ ph ∧ ph < 1000000000) :
    Calls Try.prog 36 #[ptr p, .int .i64 x] w fun e w' => e = .returned (.tuple #[.bool (decide (came + 1 = ws.length)), .int .i64 0]) ∧ Gg w' p q (swp ws a came x) (if came + 1 = ws.length then 0 else came + 1) (if came + 1 = ws.length then ph + 1 else ph) ∧ Turned [p, q] w w' := by
  have c0 := h.c0
  have c1 := h.c1
  have hm := h.most
  have hl := h.lt
  obtain ⟨ao, hao⟩ := arrV_len q came
  rw [hao] at c1
  have HC := hide (fun m => index_any (w.drewN m) (some ⟨q, 0, none⟩) ws.length ws.length ws x (h.drewN m).rd (by omega))
  have hr := idx_range ws x
  rw [hx] at hr HC
  have hz : ws[came]? = some (ws.getD came 0) := by rw [List.getElem?_eq_getElem hl]; simp [List.getD_eq_getElem?_getD, hl]
  have HH := hide h
  have HZ := hide hz
  have HS := hide (show swp ws a came x = (ws.set a (ws.getD came 0)).set came x from rfl)
  generalize ws.getD came 0 = z at *
  generalize swp ws a came x = ws2 at *
  generalize hn : ws.length = n at *
  have HN := hide hn
  clear h hao hz hn hx
  unfold ptr
  go_enter Try.func36, Try.ntmps36
  go_wp2_with fail
  go_quiet ((go_at_call 44; exact Calls.quiet_of_same (HC.out _)))
  have HG := hide (HH.out.drewN nq)
  have HT := hide ((Turned.refl [p, q] w).drewN nq)
  generalize w.drewN nq = w1 at *
  clear HH c0 c1 HC
  have c0 := HG.out.c0
  have c1 := HG.out.c1
  rw [HN.out] at c0
  have cz := HG.out.word HZ.out
  have fa := HG.out.fw a
  have fc := HG.out.fw came
  have fp := HG.out.f 1
  have HCA := hide (show ∃ u, w1.cell? ⟨q, a, none⟩ = some (.int .i64 u) from ⟨ws.getD a 0, HG.out.word (by have h1 := HN.out; rw [List.getElem?_eq_getElem (by omega)]; simp [List.getD_eq_getElem?_getD, show a < ws.length by omega])⟩)
  obtain ⟨u, ca⟩ := HCA.out
  clear HCA
  have HP := hide (HG.out.put a z)
  have cz2 := HP.out.word (i := came) (x := z) (by
    rw [List.getElem?_set]
    have h1 := HN.out
    split
    · rename_i e; subst e; rw [if_pos (by omega)]
    · exact HZ.out)
  have fz2 := HP.out.fw came
  go_wp2_with fail
  go_region
  have HQ := hide (show Gg ((w1.setCell ⟨q, a, none⟩ (.int .i64 z)).setCell ⟨q, came, none⟩ (.int .i64 x)).drew p q ws2 came ph from by rw [HS.out]; exact (HP.out.put came x).drew)
  have HU := hide (show Turned [p, q] w ((w1.setCell ⟨q, a, none⟩ (.int .i64 z)).setCell ⟨q, came, none⟩ (.int .i64 x)).drew from ((HT.out.setCell (p := ⟨q, a, none⟩) (.inl (by simp)) _).setCell (p := ⟨q, came, none⟩) (.inl (by simp)) _).drew)
  clear HP cz2 fz2 cz fa fc fp ca c0 c1 HG HT
  generalize ((w1.setCell ⟨q, a, none⟩ (.int .i64 z)).setCell ⟨q, came, none⟩ (.int .i64 x)).drew = w2 at *
  have HN2 := hide (show ws2.length = n from by rw [HS.out]; simpa using HN.out)
  clear HS HN HZ
  have c0 := HQ.out.c0
  rw [HN2.out] at c0
  have c1 := HQ.out.c1
  obtain ⟨ao2, hao2⟩ := arrV_len q came
  rw [hao2] at c1
  have fp := HQ.out.f 1
  have hs : ∀ w' : World, (Instr.slice 36 (.slice (some ⟨q, 0, none⟩) n n) none (some (.int .i64 ((came : Int) + 1))) (some (.int .i64 ((came : Int) + 1)))).run Try.prog w' = .ok (.slice (some ⟨q, 0, none⟩) (came + 1) (came + 1)) w' := fun w' => by
    rw [run_slice_hm (P := Try.prog) w' 36 (some ⟨q, 0, none⟩) n n Try.underlying36 .i64 .i64 ((came : Int) + 1) ((came : Int) + 1) (by omega) (by omega) (by omega)]
    show Result.ok (sliced _ 0 ((came : Int) + 1).toNat ((came : Int) + 1).toNat 1) w' = _
    rw [show ((came : Int) + 1).toNat = came + 1 by omega]
    simp [sliced, Addr.add]
  clear hao2
  go_wp2_with fail
  have k1 : (w2.setCell ⟨p, 1, none⟩ (.slice (some ⟨q, 0, none⟩) (came + 1) (came + 1))).cell? ⟨p, 1, none⟩ = some (.slice (some ⟨q, 0, none⟩) (came + 1) (came + 1)) := World.cell?_setCell_same' _ _ _ (by rw [c1]; rfl)
  have k0 : (w2.setCell ⟨p, 1, none⟩ (.slice (some ⟨q, 0, none⟩) (came + 1) (came + 1))).cell? ⟨p, 0, none⟩ = some (.slice (some ⟨q, 0, none⟩) n n) := by
    rw [cell_of_heap (heap_setCell_at _ _ _ _ _ _ HQ.out.head _)]
    rw [HN2.out]; rfl
  have HU3 := hide (HU.out.setCell (p := ⟨p, 1, none⟩) (.inl (by simp)) (.slice (some ⟨q, 0, none⟩) (came + 1) (came + 1)))
  have f1 : (w2.setCell ⟨p, 1, none⟩ (.slice (some ⟨q, 0, none⟩) (came + 1) (came + 1))).frozen? ⟨p, 1, none⟩ = false := by rw [World.frozen?_setCell]; exact fp
  by_cases hc : came + 1 = n
  · have HR := hide (fun m => HQ.out.arr2 (.slice (some ⟨q, 0, none⟩) (came + 1) (came + 1)) m)
    generalize w2.setCell ⟨p, 1, none⟩ (.slice (some ⟨q, 0, none⟩) (came + 1) (came + 1)) = w3 at *
    clear HQ HU c0 c1 fp HN2 hs
    go_quiet (fail)
    have HU4 := hide (HU3.out.drewN nq)
    have HR4 := hide (HR.out nq)
    have k2 := HR4.out.c2
    have f2 := HR4.out.f 2
    go_wp2_with fail
    go_ret2
    exact ⟨rfl, HR4.out.phs (ph + 1), (HU4.out.setCell (p := ⟨p, 1, none⟩) (.inl (by simp)) _).setCell (p := ⟨p, 2, none⟩) (.inl (by simp)) _⟩
  · have HR := hide (HQ.out.arr (came + 1) (by rw [HN2.out]; omega))
    rw [show arrV q (came + 1) = .slice (some ⟨q, 0, none⟩) (came + 1) (came + 1) from by simp [arrV]] at HR
    generalize w2.setCell ⟨p, 1, none⟩ (.slice (some ⟨q, 0, none⟩) (came + 1) (came + 1)) = w3 at *
    clear HQ HU c0 c1 fp HN2 hs
    go_quiet (fail)
    have HU4 := hide (HU3.out.drewN nq)
    have HR4 := hide (HR.out.drewN nq)
    go_wp2_with fail
    go_ret2
    exact ⟨rfl, HR4.out, HU4.out⟩
end Go.Proofs.Ytdjeilombaclmaa
